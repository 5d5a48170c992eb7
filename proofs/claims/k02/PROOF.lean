import PyProof.Rows.All
import Wide.All
import OpenK.AllK
import Wide.FinOn
import HandS.ForMost
import HandS.ForExc
import HandS.Wide
import HandS.Codes
import HandS.Conv
import HandS.Steps
import HandS.Evl
import HandS.ExcInit
import HandS.ExcField
import HandS.TryOnly
import HandS.Strs
import HandS.ExcOwn
import HandS.WordsExc
import HandS.IsInst
import HandS.Zip
import HandS.SlotsOwn
import HandS.SetFor
import HandS.ClsMeth
import HandS.DictComp
import HandS.Defaults
import HandS.ExcIs
import KE.KExcIs
import HandS.Text
import PyProof.LongRange
import HandS.SortKw
import KE.DatumOrd
import HandS.MakeKwOnly
import HandS.MakeKw
import PyProof.Conv_bool
import HandS.Star
import HandS.FStr
import KE.KCallOwn
import HandS.Style
import HandS.SortInts
import PyProof.InstNe
import PySem.Challenge.RW_shownwrites_k02_region_within
set_option Elab.async false
set_option autoImplicit false
set_option linter.all false
set_option maxRecDepth 100000
set_option maxHeartbeats 4000000
/-! # G: what stands for what; frames; what an expression gives -/
namespace G
open PySem PySem.Spec PyProof.Rows L2

/-- a value and the datum it stands for, over a heap that only grows -/
structure Rp (α : Type) where
  rel : Hp → V → α → Prop
  mono : ∀ {H H' : Hp} {v : V} {a : α}, Same H H' → rel H v a → rel H' v a
/-- an object and the datum it stands for -/
structure Cl (α : Type) where
  ok : Hp → HO → α → Prop
  mono : ∀ {H H' : Hp} {o : HO} {a : α}, Same H H' → ok H o a → ok H' o a
/-- a row of values -/
structure Rw (α : Type) where
  rel : Hp → List V → α → Prop
  mono : ∀ {H H' : Hp} {vs : List V} {a : α}, Same H H' → rel H vs a → rel H' vs a

def rInt : Rp Int := ⟨fun _ v i => v = .int i, fun _ h => h⟩
def rBool : Rp Bool := ⟨fun _ v b => v = .bl b, fun _ h => h⟩
def rStr : Rp Str := ⟨fun _ v z => v = .str z, fun _ h => h⟩
def rNon : Rp Unit := ⟨fun _ v _ => v = .non, fun _ h => h⟩
def rOpt {α : Type} (r : Rp α) : Rp (Option α) := ⟨fun H v o => match o with
  | none => v = .non
  | some a => r.rel H v a ∧ v ≠ .non, fun {H H' v o} s h => by
    cases o with
    | none => exact h
    | some a => exact ⟨r.mono s h.1, h.2⟩⟩
def rOb {α : Type} (c : Cl α) : Rp α := ⟨fun H v a => ∃ p o, v = .ref p ∧ H p = some o ∧ c.ok H o a, fun s ⟨p, o, e, h, k⟩ => ⟨p, o, e, s p o h, c.mono s k⟩⟩
theorem Paired.monoR {α : Type} {r : Rp α} {H H' : Hp} (s : Same H H') : ∀ {vs : List V} {xs : List α}, Paired (r.rel H) vs xs → Paired (r.rel H') vs xs
  | _, _, .nil => .nil
  | _, _, .cons h t => .cons (r.mono s h) (Paired.monoR s t)
def cLst {α : Type} (r : Rp α) : Cl (List α) := ⟨fun H o xs => ∃ vs, o = .lst vs ∧ Paired (r.rel H) vs xs, fun s ⟨vs, e, h⟩ => ⟨vs, e, Paired.monoR s h⟩⟩
def cTpl {α : Type} (r : Rp α) : Cl (List α) := ⟨fun H o xs => ∃ vs, o = .tup vs ∧ Paired (r.rel H) vs xs, fun s ⟨vs, e, h⟩ => ⟨vs, e, Paired.monoR s h⟩⟩
def cTup {α : Type} (w : Rw α) : Cl α := ⟨fun H o a => ∃ vs, o = .tup vs ∧ w.rel H vs a, fun s ⟨vs, e, h⟩ => ⟨vs, e, w.mono s h⟩⟩
def cHls {α : Type} (w : Rw α) : Cl α := ⟨fun H o a => ∃ vs, o = .lst vs ∧ w.rel H vs a, fun s ⟨vs, e, h⟩ => ⟨vs, e, w.mono s h⟩⟩
def rLst {α : Type} (r : Rp α) : Rp (List α) := rOb (cLst r)
def rTpl {α : Type} (r : Rp α) : Rp (List α) := rOb (cTpl r)
def rTup {α : Type} (w : Rw α) : Rp α := rOb (cTup w)
def rHls {α : Type} (w : Rw α) : Rp α := rOb (cHls w)
def w0 : Rw Unit := ⟨fun _ vs _ => vs = [], fun _ h => h⟩
def w1 {α : Type} (r : Rp α) : Rw α := ⟨fun H vs a => ∃ v, vs = [v] ∧ r.rel H v a, fun s ⟨v, e, h⟩ => ⟨v, e, r.mono s h⟩⟩
def wC {α β : Type} (r : Rp α) (w : Rw β) : Rw (α × β) := ⟨fun H vs a => ∃ v t, vs = v :: t ∧ r.rel H v a.1 ∧ w.rel H t a.2, fun s ⟨v, t, e, h, k⟩ => ⟨v, t, e, r.mono s h, w.mono s k⟩⟩

/-- a value that stands for a datum and owns objects of its own -/
structure Tr (α : Type) where
  ok : Hp → Hp → (Addr → Prop) → V → α → Prop
  mono : ∀ {B B' H H' : Hp} {o o' : Addr → Prop} {v : V} {a : α}, Same B B' → (∀ p u, o p → H p = some u → H' p = some u) → (∀ p, o p → o' p) → ok B H o v a → ok B' H' o' v a
/-- what a slot holds: nothing that is known; a value; a list (dict ..) of the frame's own, at an address, that may change; a value with objects of the frame's own -/
inductive Sl : Type 1 where
  | no
  | imm {α : Type} (r : Rp α) (a : α)
  | cel {α : Type} (p : Addr) (c : Cl α) (a : α)
  | tre {α : Type} (v : V) (c : Tr α) (a : α)

/-- where a def began: what stood, what stood and was known to be fixed, what it may change -/
structure Amb where
  B0 : Hp
  H0 : Hp
  m : Addr → Prop
  φ : Hp → Prop
  up : ∀ B B', Same B B' → φ B → φ B'
def Amb.add (A : Amb) (p : Addr) (o : HO) : Amb := ⟨A.B0, upd A.H0 p o, A.m, A.φ, A.up⟩
/-- no object is too large -/
def szO : HO → Prop
  | .lst xs => xs.length ≤ sizeLine
  | .tup xs => xs.length ≤ sizeLine
  | .dK kvs => kvs.length ≤ sizeLine
  | .dT kvs => kvs.length ≤ sizeLine
  | _ => True
def Sz (H : Hp) : Prop := ∀ p o, H p = some o → szO o
theorem Sz.upd {H : Hp} {p : Addr} {o : HO} (h : Sz H) (ho : szO o) : Sz (upd H p o) := fun q u e => by
  by_cases hq : q = p
  · subst hq; rw [upd_same] at e; cases e; exact ho
  · rw [upd_ne hq] at e; exact h q u e

/-- what a slot knows; o: what it may own -/
def SlO (σ : L2.St) (H B : Hp) (o : Addr → Prop) (i : Nat) : Sl → Prop
  | .no => True
  | .imm r a => ∃ v, σ[i]? = some (some v) ∧ r.rel B v a
  | .cel p c a => σ[i]? = some (some (V.ref p)) ∧ o p ∧ ∃ u, H p = some u ∧ c.ok B u a
  | .tre v c a => σ[i]? = some (some v) ∧ c.ok B H o v a
/-- an object that may change -/
def Hot (A : Amb) (H B : Hp) (p : Addr) : Prop := B p = none ∧ H p ≠ none ∧ (A.H0 p = none ∨ A.m p)
def SlOk (A : Amb) (σ : L2.St) (H B : Hp) (i : Nat) : Sl → Prop
  | .no => True
  | .imm r a => ∃ v, σ[i]? = some (some v) ∧ r.rel B v a
  | .cel p c a => σ[i]? = some (some (V.ref p)) ∧ B p = none ∧ (A.H0 p = none ∨ A.m p) ∧ ∃ o, H p = some o ∧ c.ok B o a
  | .tre v c a => σ[i]? = some (some v) ∧ ∃ o : Addr → Prop, (∀ p, o p → Hot A H B p) ∧ c.ok B H o v a
def celAt : Sl → Option Addr
  | .cel p _ _ => some p
  | _ => none
/-- owns nothing -/
def plain : Sl → Prop
  | .no => True
  | .imm _ _ => True
  | _ => False

/-- what has come since the beginning -/
structure Post (A : Amb) (H B : Hp) : Prop where
  bh : Same B H
  b0 : Same A.B0 B
  keep : ∀ p o, ¬ A.m p → A.H0 p = some o → H p = some o
  out : ∀ p, A.H0 p ≠ none → A.B0 p = none → B p = none
  alive : ∀ p, A.H0 p ≠ none → H p ≠ none
  sub : Same A.B0 A.H0
  mh : ∀ p, A.m p → A.H0 p ≠ none
  ph : A.φ B
  sz : Sz H

/-- who owns what -/
structure Own (A : Amb) (σ : L2.St) (H B : Hp) (Γ : List Sl) (ow : Nat → Addr → Prop) : Prop where
  so : ∀ (i : Nat) (s : Sl), Γ[i]? = some s → SlO σ H B (ow i) i s
  dj : ∀ (i j : Nat) (p : Addr), ow i p → ow j p → i = j
  ht : ∀ (i : Nat) (p : Addr), ow i p → Hot A H B p
structure Frm (A : Amb) (σ : L2.St) (H B : Hp) (Γ : List Sl) : Prop extends Post A H B where
  len : σ.length = Γ.length
  own : ∃ ow, Own A σ H B Γ ow

theorem slo_mono {σ σ' : L2.St} {H H' B B' : Hp} {o o' : Addr → Prop} {i : Nat} {s : Sl} (h : SlO σ H B o i s) (e : σ[i]? = σ'[i]?) (b : Same B B') (k : ∀ p u, o p → H p = some u → H' p = some u) (n : ∀ p, o p → o' p) : SlO σ' H' B' o' i s := by
  cases s with
  | no => trivial
  | imm r a => obtain ⟨v, e1, q⟩ := h; exact ⟨v, by rw [← e]; exact e1, r.mono b q⟩
  | cel p c a => obtain ⟨e1, op, u, hu, q⟩ := h; exact ⟨by rw [← e]; exact e1, n p op, u, k p u op hu, c.mono b q⟩
  | tre v c a => obtain ⟨e1, q⟩ := h; exact ⟨by rw [← e]; exact e1, c.mono b k n q⟩
theorem getset {α : Type _} {l : List α} {i j : Nat} {x y : α} (h : (l.set i x)[j]? = some y) : (i = j ∧ y = x ∧ j < l.length) ∨ (i ≠ j ∧ l[j]? = some y) := by
  by_cases e : i = j
  · subst e
    rw [List.getElem?_set] at h
    simp only [if_true] at h
    split at h
    · rename_i hl; cases h; exact .inl ⟨rfl, rfl, hl⟩
    · cases h
  · rw [List.getElem?_set_ne e] at h; exact .inr ⟨e, h⟩
section
variable {A A' : Amb} {σ σ' : L2.St} {H H' B B' : Hp} {Γ : List Sl} {p : Addr} {o : HO}
theorem Frm.post (F : Frm A σ H B Γ) : Post A H B := F.toPost
theorem Frm.sl (F : Frm A σ H B Γ) (i : Nat) (s : Sl) (e : Γ[i]? = some s) : SlOk A σ H B i s := by
  obtain ⟨ow, W⟩ := F.own
  have h := W.so i s e
  cases s with
  | no => trivial
  | imm r a => exact h
  | cel p c a => obtain ⟨e1, op, k⟩ := h; exact ⟨e1, (W.ht i p op).1, (W.ht i p op).2.2, k⟩
  | tre v c a => exact ⟨h.1, ow i, fun p q => W.ht i p q, h.2⟩
theorem Frm.hot (F : Frm A σ H B Γ) {i : Nat} {s : Sl} (e : Γ[i]? = some s) {p : Addr} (hp : celAt s = some p) : B p = none ∧ H p ≠ none ∧ (A.H0 p = none ∨ A.m p) := by
  have h := F.sl i s e
  cases s with
  | no => cases hp
  | imm r a => cases hp
  | tre v c a => cases hp
  | cel q c a =>
    cases hp
    obtain ⟨_, n, m, o, ho, _⟩ := h
    exact ⟨n, by rw [ho]; simp, m⟩
theorem Own.cel {ow : Nat → Addr → Prop} (W : Own A σ H B Γ ow) {i : Nat} (e : (Γ[i]?.bind celAt) = some p) : ow i p := by
  cases q : Γ[i]? with
  | none => rw [q] at e; cases e
  | some s =>
    rw [q] at e
    have h := W.so i s q
    cases s with
    | no => cases e
    | imm r a => cases e
    | tre v c a => cases e
    | cel q c a => cases e; exact h.2.1
theorem Frm.ds (F : Frm A σ H B Γ) (i j : Nat) (p : Addr) (ei : (Γ[i]?.bind celAt) = some p) (ej : (Γ[j]?.bind celAt) = some p) : i = j := by
  obtain ⟨ow, W⟩ := F.own
  exact W.dj i j p (W.cel ei) (W.cel ej)
/-- the heap moves on, what is owned stays -/
theorem Frm.move (F : Frm A σ H B Γ) (P : Post A' H' B') (bb : Same B B') (k : ∀ p, Hot A H B p → B' p = none ∧ (A'.H0 p = none ∨ A'.m p) ∧ ∀ u, H p = some u → H' p = some u) : Frm A' σ H' B' Γ := by
  obtain ⟨ow, W⟩ := F.own
  refine ⟨P, F.len, ow, fun i s e => slo_mono (W.so i s e) rfl bb (fun q u oq => (k q (W.ht i q oq)).2.2 u) fun _ z => z, W.dj, fun i q oq => ?_⟩
  have h := W.ht i q oq
  have g := k q h
  refine ⟨g.1, fun z => ?_, g.2.1⟩
  cases e : H q with
  | none => exact h.2.1 e
  | some u => rw [g.2.2 u e] at z; cases z
/-- a slot is stored anew, it owns nothing new -/
theorem Frm.put {i : Nat} {s' : Sl} (F : Frm A σ H B Γ) (hl : σ'.length = σ.length) (e : ∀ j, i ≠ j → σ[j]? = σ'[j]?) (h : ∀ o, i < Γ.length → (∀ s, Γ[i]? = some s → SlO σ H B o i s) → SlO σ' H B o i s') : Frm A σ' H B (Γ.set i s') := by
  obtain ⟨ow, W⟩ := F.own
  refine ⟨F.post, by rw [List.length_set, hl]; exact F.len, ow, fun j s ej => ?_, W.dj, W.ht⟩
  rcases getset ej with ⟨rfl, rfl, hl⟩ | ⟨ne, ej⟩
  · exact h (ow i) hl fun s es => W.so i s es
  · exact slo_mono (W.so j s ej) (e j ne) (Same.refl _) (fun _ _ _ z => z) fun _ z => z
/-- what a slot owns is changed, and it may own more -/
theorem Frm.chg {i : Nat} {s s' : Sl} (F : Frm A σ H B Γ) (e : Γ[i]? = some s) (P : Post A H' B') (bb : Same B B')
    (k : ∀ o : Addr → Prop, (∀ p, o p → Hot A H B p) → SlO σ H B o i s → ∃ o' : Addr → Prop, (∀ q, o' q → o q ∨ ¬ Hot A H B q) ∧ (∀ q, o' q → Hot A H' B' q) ∧ (∀ q, Hot A H B q → ¬ o q → B' q = none ∧ ∀ u, H q = some u → H' q = some u) ∧ SlO σ H' B' o' i s') : Frm A σ H' B' (Γ.set i s') := by
  obtain ⟨ow, W⟩ := F.own
  obtain ⟨o', k1, k2, k3, k4⟩ := k (ow i) (fun q => W.ht i q) (W.so i s e)
  have nq : ∀ j q, i ≠ j → ow j q → ¬ ow i q := fun j q ne h z => ne (W.dj i j q z h)
  refine ⟨P, by rw [List.length_set]; exact F.len, fun j => if j = i then o' else ow j, fun j s ej => ?_, fun j l q hj hl => ?_, fun j q hj => ?_⟩
  · rcases getset ej with ⟨rfl, rfl, _⟩ | ⟨ne, ej⟩
    · rw [if_pos rfl]; exact k4
    · rw [if_neg (Ne.symm ne)]
      exact slo_mono (W.so j s ej) rfl bb (fun q u oq => (k3 q (W.ht j q oq) (nq j q ne oq)).2 u) fun _ z => z
  · by_cases h1 : j = i
    · by_cases h2 : l = i
      · rw [h1, h2]
      · rw [if_pos h1] at hj; rw [if_neg h2] at hl
        rcases k1 q hj with h | h
        · exact absurd h (nq l q (Ne.symm h2) hl)
        · exact absurd (W.ht l q hl) h
    · by_cases h2 : l = i
      · rw [if_neg h1] at hj; rw [if_pos h2] at hl
        rcases k1 q hl with h | h
        · exact absurd h (nq j q (Ne.symm h1) hj)
        · exact absurd (W.ht j q hj) h
      · rw [if_neg h1] at hj; rw [if_neg h2] at hl; exact W.dj j l q hj hl
  · by_cases h1 : j = i
    · rw [if_pos h1] at hj; exact k2 q hj
    · rw [if_neg h1] at hj
      have h := W.ht j q hj
      have g := k3 q h (nq j q (Ne.symm h1) hj)
      refine ⟨g.1, fun z => ?_, h.2.2⟩
      cases e : H q with
      | none => exact h.2.1 e
      | some u => rw [g.2 u e] at z; cases z
theorem set_same {α : Type _} {l : List α} {i : Nat} {x : α} (h : l[i]? = some x) : l.set i x = l := by
  obtain ⟨hi, q⟩ := List.getElem?_eq_some_iff.mp h
  rw [← q, List.set_getElem_self]
/-- a new object beside what is known -/
theorem Frm.fresh (F : Frm A σ H B Γ) (hp : H p = none) (ho : szO o) : Frm (A.add p o) σ (upd H p o) B Γ := by
  refine F.move ?_ (Same.refl _) fun q h => ?_
  · refine ⟨fun b u e => ?_, F.b0, fun b u m e => ?_, fun b n z => ?_, fun b n => ?_, fun b u e => ?_, fun b m => ?_, F.ph, F.sz.upd ho⟩
    · rw [upd_ne (ne_of_none (F.bh b u e) hp)]; exact F.bh b u e
    · by_cases hb : b = p
      · subst hb
        have e' : upd A.H0 b o b = some u := e
        rw [upd_same] at e'; rw [upd_same]; exact e'
      · have e' : upd A.H0 p o b = some u := e
        rw [upd_ne hb] at e'; rw [upd_ne hb]; exact F.keep b u m e'
    · by_cases hb : b = p
      · subst hb
        cases q : B b with
        | none => rfl
        | some u => have := F.bh b u q; rw [hp] at this; cases this
      · have n' : upd A.H0 p o b ≠ none := n
        rw [upd_ne hb] at n'
        exact F.out b n' z
    · by_cases hb : b = p
      · subst hb; rw [upd_same]; simp
      · have n' : upd A.H0 p o b ≠ none := n
        rw [upd_ne hb] at n'; rw [upd_ne hb]; exact F.alive b n'
    · have z := F.sub b u e
      have hb : b ≠ p := fun q => by
        subst q
        exact F.alive b (by rw [z]; simp) hp
      show upd A.H0 p o b = some u
      rw [upd_ne hb]; exact z
    · by_cases hb : b = p
      · subst hb; show upd A.H0 b o b ≠ none; rw [upd_same]; simp
      · show upd A.H0 p o b ≠ none; rw [upd_ne hb]; exact F.mh b m
  · have hq : q ≠ p := fun z => h.2.1 (by rw [z]; exact hp)
    refine ⟨h.1, ?_, fun u e => by rw [upd_ne hq]; exact e⟩
    rcases h.2.2 with m | m
    · exact .inl (by show upd A.H0 p o q = none; rw [upd_ne hq]; exact m)
    · exact .inr m
theorem Frm.H0none (F : Frm A σ H B Γ) (hp : H p = none) : A.H0 p = none := by
  cases q : A.H0 p with
  | none => rfl
  | some u => exact absurd hp (F.alive p (by rw [q]; simp))
theorem Frm.hid (F : Frm (A.add p o) σ H B Γ) (h0 : A.H0 p = none) (hm : ¬ A.m p) : H p = some o := F.keep p o hm upd_same
theorem Hot.ne {q : Addr} (h : Hot (A.add p o) H B q) (hm : ¬ A.m p) : q ≠ p := fun z => by
  rcases h.2.2 with m | m
  · have m' : upd A.H0 p o q = none := m
    rw [z, upd_same] at m'; cases m'
  · rw [z] at m; exact hm m
theorem Hot.base {q : Addr} (h : Hot (A.add p o) H B q) (h0 : A.H0 p = none) : A.H0 q = none ∨ A.m q := by
  rcases h.2.2 with m | m
  · by_cases hq : q = p
    · exact .inl (by rw [hq]; exact h0)
    · have m' : upd A.H0 p o q = none := m
      rw [upd_ne hq] at m'
      exact .inl m'
  · exact .inr m
/-- the hidden object is forgotten -/
theorem Frm.drop (F : Frm (A.add p o) σ H B Γ) (h0 : A.H0 p = none) (sub : Same A.B0 A.H0) (mh : ∀ p, A.m p → A.H0 p ≠ none) : Frm A σ H B Γ := by
  refine F.move ?_ (Same.refl _) fun q h => ⟨h.1, h.base h0, fun _ e => e⟩
  exact ⟨F.bh, F.b0, fun b u m e => F.keep b u m (by show upd A.H0 p o b = some u; rw [upd_ne (ne_of_none e h0)]; exact e), fun b n z => F.out b (by
    have hb : b ≠ p := fun q => n (by rw [q]; exact h0)
    show upd A.H0 p o b ≠ none; rw [upd_ne hb]; exact n) z, fun b n => F.alive b (by
    have hb : b ≠ p := fun q => n (by rw [q]; exact h0)
    show upd A.H0 p o b ≠ none; rw [upd_ne hb]; exact n), sub, mh, F.ph, F.sz⟩
theorem Frm.hidB (F : Frm (A.add p o) σ H B Γ) (h0 : A.H0 p = none) (sub : Same A.B0 A.H0) : B p = none := F.out p (by show upd A.H0 p o p ≠ none; rw [upd_same]; simp) (by
    cases q : A.B0 p with
    | none => exact q
    | some u => exact (absurd (sub p u q) (by rw [h0]; simp)))
/-- the hidden object is among what is fixed -/
theorem Frm.adopt (F : Frm (A.add p o) σ H B Γ) (h0 : A.H0 p = none) (sub : Same A.B0 A.H0) (mh : ∀ p, A.m p → A.H0 p ≠ none) : Frm A σ H (upd B p o) Γ := by
  have hm : ¬ A.m p := fun m => mh p m h0
  have hHp := F.hid h0 hm
  have hBp : B p = none := F.hidB h0 sub
  have D := (F.drop h0 sub mh).post
  have bb : Same B (upd B p o) := fun b u e => by rw [upd_ne (ne_of_none e hBp)]; exact e
  refine F.move ?_ bb fun q h => ⟨by rw [upd_ne (h.ne hm)]; exact h.1, h.base h0, fun _ e => e⟩
  refine ⟨fun b u e => ?_, fun b u e => bb b u (D.b0 b u e), D.keep, fun b n z => ?_, D.alive, sub, mh, A.up _ _ bb D.ph, D.sz⟩
  · by_cases hb : b = p
    · subst hb; rw [upd_same] at e; cases e; exact hHp
    · rw [upd_ne hb] at e; exact D.bh b u e
  · have hb : b ≠ p := fun q => n (by rw [q]; exact h0)
    rw [upd_ne hb]; exact D.out b n z
/-- a slot is stored -/
theorem Frm.set {α : Type} {r : Rp α} {a : α} {v : V} {i : Nat} (F : Frm A σ H B Γ) (h : r.rel B v a) : Frm A (σ.set i (some v)) H B (Γ.set i (.imm r a)) :=
  F.put (List.length_set) (fun j ne => by rw [List.getElem?_set_ne ne]) fun o hl _ => ⟨v, by rw [List.getElem?_set_self (by rw [F.len]; exact hl)], h⟩
/-- new objects are the frame's own, at a slot -/
theorem Frm.owns {i : Nat} {s : Sl} {v : V} (F : Frm A σ H B Γ) (n : Addr → Prop) (P : Post A' H B) (hn : ∀ q, n q → Hot A' H B q ∧ ¬ Hot A H B q) (hh : ∀ q, Hot A H B q → A'.H0 q = none ∨ A'.m q) (k : i < Γ.length → SlO (σ.set i (some v)) H B n i s) : Frm A' (σ.set i (some v)) H B (Γ.set i s) := by
  obtain ⟨ow, W⟩ := F.own
  refine ⟨P, by rw [List.length_set, List.length_set]; exact F.len, fun j => if j = i then n else ow j, fun j s ej => ?_, fun j l q hj hl => ?_, fun j q hj => ?_⟩
  · rcases getset ej with ⟨rfl, rfl, hl⟩ | ⟨ne, ej⟩
    · rw [if_pos rfl]; exact k hl
    · rw [if_neg (Ne.symm ne)]
      exact slo_mono (W.so j s ej) (by rw [List.getElem?_set_ne ne]) (Same.refl _) (fun _ _ _ z => z) fun _ z => z
  · by_cases h1 : j = i
    · by_cases h2 : l = i
      · rw [h1, h2]
      · rw [if_pos h1] at hj; rw [if_neg h2] at hl
        exact absurd (W.ht l q hl) (hn q hj).2
    · by_cases h2 : l = i
      · rw [if_neg h1] at hj; rw [if_pos h2] at hl
        exact absurd (W.ht j q hj) (hn q hl).2
      · rw [if_neg h1] at hj; rw [if_neg h2] at hl; exact W.dj j l q hj hl
  · by_cases h1 : j = i
    · rw [if_pos h1] at hj; exact (hn q hj).1
    · rw [if_neg h1] at hj
      have h := W.ht j q hj
      exact ⟨h.1, h.2.1, hh q h⟩
/-- the hidden object is the frame's own, at a slot -/
theorem Frm.own1 {α : Type} {c : Cl α} {a : α} {i : Nat} (F : Frm (A.add p o) σ H B Γ) (h0 : A.H0 p = none) (sub : Same A.B0 A.H0) (mh : ∀ p, A.m p → A.H0 p ≠ none) (k : c.ok B o a) : Frm A (σ.set i (some (.ref p))) H B (Γ.set i (.cel p c a)) := by
  have hm : ¬ A.m p := fun m => mh p m h0
  have hHp := F.hid h0 hm
  have hBp : B p = none := F.hidB h0 sub
  refine F.owns (fun q => q = p) (F.drop h0 sub mh).post (fun q e => ?_) (fun q h => h.base h0) fun hl => ⟨by rw [List.getElem?_set_self (by rw [F.len]; exact hl)], rfl, o, hHp, k⟩
  subst e
  exact ⟨⟨hBp, by rw [hHp]; simp, .inl h0⟩, fun h => h.ne hm rfl⟩
/-- what is not known of a slot any more -/
theorem Frm.forget (F : Frm A σ H B Γ) (i : Nat) : Frm A σ H B (Γ.set i .no) := F.put rfl (fun _ _ => rfl) fun _ _ _ => trivial
/-- the frame's own object at a slot is changed -/
theorem Frm.write {α β : Type} {c : Cl α} {c' : Cl β} {a : α} {a' : β} {i : Nat} {o' : HO} (F : Frm A σ H B Γ) (e : Γ[i]? = some (.cel p c a)) (k : c'.ok B o' a') (ho : szO o') : Frm A σ (upd H p o') B (Γ.set i (.cel p c' a')) := by
  obtain ⟨e1, n, m, _⟩ := F.sl i _ e
  refine F.chg e ⟨fun b u q => ?_, F.b0, fun b u nm q => ?_, F.out, fun b n => ?_, F.sub, F.mh, F.ph, F.sz.upd ho⟩ (Same.refl _) fun ow hh so => ⟨ow, fun q z => .inl z, fun q z => ?_, fun q h nq => ⟨h.1, fun u hu => ?_⟩, e1, so.2.1, o', upd_same, k⟩
  · have hb : b ≠ p := fun z => by rw [z, n] at q; cases q
    rw [upd_ne hb]; exact F.bh b u q
  · have hb : b ≠ p := fun z => by
      rcases m with m | m
      · rw [z, m] at q; cases q
      · rw [z] at nm; exact nm m
    rw [upd_ne hb]; exact F.keep b u nm q
  · by_cases hb : b = p
    · rw [hb, upd_same]; simp
    · rw [upd_ne hb]; exact F.alive b n
  · have h := hh q z
    refine ⟨h.1, ?_, h.2.2⟩
    by_cases hb : q = p
    · rw [hb, upd_same]; simp
    · rw [upd_ne hb]; exact h.2.1
  · have hq : q ≠ p := fun z => nq (by rw [z]; exact so.2.1)
    rw [upd_ne hq]; exact hu
end
end G

set_option maxHeartbeats 4000000
/-! # G: what an expression gives -/
namespace G
open PySem PySem.Spec PyProof.Rows L2

/-- from what is known at Γ the expression gives the datum a, and leaves what is known at Γ' -/
def EvX {α : Type} (r : Rp α) (t : TE) (Γ Γ' : List Sl) (a : α) : Prop := ∀ (A : Amb) (σ : L2.St) (H B : Hp), Frm A σ H B Γ → ∀ Q : VK, (∀ v H' B', Frm A σ H' B' Γ' → Same B B' → r.rel B' v a → Q v H') → t σ H Q
def EvT (t : TT) (Γ Γ' : List Sl) (b : Bool) : Prop := ∀ (A : Amb) (σ : L2.St) (H B : Hp), Frm A σ H B Γ → ∀ Q : Bool → Hp → Prop, (∀ H' B', Frm A σ H' B' Γ' → Same B B' → Q b H') → t σ H Q
def EvW {α : Type} (w : Rw α) (t : TA) (Γ Γ' : List Sl) (a : α) : Prop := ∀ (A : Amb) (σ : L2.St) (H B : Hp), Frm A σ H B Γ → ∀ Q : List V → Hp → Prop, (∀ vs H' B', Frm A σ H' B' Γ' → Same B B' → w.rel B' vs a → Q vs H') → t σ H Q
def EvH {α : Type} (r : Rp α) (t : TA) (Γ Γ' : List Sl) (xs : List α) : Prop := ∀ (A : Amb) (σ : L2.St) (H B : Hp), Frm A σ H B Γ → ∀ Q : List V → Hp → Prop, (∀ vs H' B', Frm A σ H' B' Γ' → Same B B' → Paired (r.rel B') vs xs → Q vs H') → t σ H Q
/-- a new object -/
def EvC {α : Type} (c : Cl α) (t : TE) (Γ Γ' : List Sl) (a : α) : Prop := ∀ (A : Amb) (σ : L2.St) (H B : Hp), Frm A σ H B Γ → ∀ Q : VK, (∀ p o H' B', Frm (A.add p o) σ H' B' Γ' → A.H0 p = none → Same B B' → c.ok B' o a → Q (.ref p) H') → t σ H Q

section
variable {α β γ : Type} {r ra : Rp α} {rb : Rp β} {rc : Rp γ} {c : Cl α} {w : Rw α} {ta tb te : TE} {tt tu : TT} {Γ Γ1 Γ2 Γ3 : List Sl} {x a : α} {y b : β} {z : γ} {K : PySem.W.Frag}
theorem Paired.imp2 {α β : Type} {F G : α → β → Prop} (h : ∀ a b, F a b → G a b) : ∀ {l₁ : List α} {l₂ : List β}, Paired F l₁ l₂ → Paired G l₁ l₂
  | _, _, .nil => .nil
  | _, _, .cons q t => .cons (h _ _ q) (Paired.imp2 h t)
theorem Paired.len {α β : Type} {F : α → β → Prop} : ∀ {l₁ : List α} {l₂ : List β}, Paired F l₁ l₂ → l₁.length = l₂.length
  | _, _, .nil => rfl
  | _, _, .cons _ t => by rw [List.length_cons, List.length_cons, Paired.len t]
theorem Paired.getR {α β : Type} {F : α → β → Prop} : ∀ {l₁ : List α} {l₂ : List β} {i : Nat} {y : β}, Paired F l₁ l₂ → l₂[i]? = some y → ∃ x, l₁[i]? = some x ∧ F x y
  | _, _, _, _, .nil, e => by simp at e
  | _, _, 0, _, .cons q _, e => by simp at e; subst e; exact ⟨_, rfl, q⟩
  | _, _, i + 1, _, .cons _ t, e => by simpa using Paired.getR (i := i) t (by simpa using e)
theorem Paired.getL {α β : Type} {F : α → β → Prop} : ∀ {l₁ : List α} {l₂ : List β} {i : Nat} {x : α}, Paired F l₁ l₂ → l₁[i]? = some x → ∃ y, l₂[i]? = some y ∧ F x y
  | _, _, _, _, .nil, e => by simp at e
  | _, _, 0, _, .cons q _, e => by simp at e; subst e; exact ⟨_, rfl, q⟩
  | _, _, i + 1, _, .cons _ t, e => by simpa using Paired.getL (i := i) t (by simpa using e)
theorem Paired.app {α β : Type} {F : α → β → Prop} : ∀ {l₁ k₁ : List α} {l₂ k₂ : List β}, Paired F l₁ l₂ → Paired F k₁ k₂ → Paired F (l₁ ++ k₁) (l₂ ++ k₂)
  | _, _, _, _, .nil, h => h
  | _, _, _, _, .cons q t, h => .cons q (Paired.app t h)
theorem Paired.dropN {α β : Type} {F : α → β → Prop} : ∀ {l₁ : List α} {l₂ : List β} (n : Nat), Paired F l₁ l₂ → Paired F (l₁.drop n) (l₂.drop n)
  | _, _, 0, h => h
  | _, _, _ + 1, .nil => .nil
  | _, _, n + 1, .cons _ t => Paired.dropN n t
theorem Paired.takeN {α β : Type} {F : α → β → Prop} : ∀ {l₁ : List α} {l₂ : List β} (n : Nat), Paired F l₁ l₂ → Paired F (l₁.take n) (l₂.take n)
  | _, _, 0, _ => .nil
  | _, _, _ + 1, .nil => .nil
  | _, _, n + 1, .cons q t => .cons q (Paired.takeN n t)
theorem Paired.revR {α β : Type} {F : α → β → Prop} : ∀ {l₁ : List α} {l₂ : List β}, Paired F l₁ l₂ → Paired F l₁.reverse l₂.reverse
  | _, _, .nil => .nil
  | _, _, .cons q t => by rw [List.reverse_cons, List.reverse_cons]; exact Paired.app (Paired.revR t) (.cons q .nil)
theorem Paired.mapEq {α β : Type} {F : α → β → Prop} {f : β → α} (h : ∀ a b, F a b → a = f b) : ∀ {l₁ : List α} {l₂ : List β}, Paired F l₁ l₂ → l₁ = l₂.map f
  | _, _, .nil => rfl
  | _, _, .cons q t => by rw [List.map_cons, h _ _ q, Paired.mapEq h t]
theorem Paired.ofMap {α β : Type} {F : α → β → Prop} {f : β → α} (h : ∀ b, F (f b) b) : ∀ (l : List β), Paired F (l.map f) l
  | [] => .nil
  | b :: l => .cons (h b) (Paired.ofMap h l)

/-! ### names, constants -/
theorem ev_var {i : Nat} (h : Γ[i]? = some (.imm r a)) : EvX r (tVar i) Γ Γ a := fun A σ H B F Q q => by
  obtain ⟨v, e, k⟩ := F.sl i _ h
  exact ⟨v, e, q v H B F (Same.refl _) k⟩
theorem ev_int {i : Int} : EvX rInt (tC (.int i)) Γ Γ i := fun A σ H B F Q q => q _ H B F (Same.refl _) rfl
theorem ev_bl {b : Bool} : EvX rBool (tC (.bl b)) Γ Γ b := fun A σ H B F Q q => q _ H B F (Same.refl _) rfl
theorem ev_str {s : Str} : EvX rStr (tC (.str s)) Γ Γ s := fun A σ H B F Q q => q _ H B F (Same.refl _) rfl
theorem ev_non : EvX rNon (tC .non) Γ Γ () := fun A σ H B F Q q => q _ H B F (Same.refl _) rfl
theorem ev_none : EvX (rOpt r) (tC .non) Γ Γ none := fun A σ H B F Q q => q _ H B F (Same.refl _) rfl
/-! ### what is None or not -/
/-- r's values are not None -/
def NN {α : Type} (r : Rp α) : Prop := ∀ H v a, r.rel H v a → v ≠ .non
theorem nn_int : NN rInt := fun _ _ _ h e => by rw [e] at h; cases h
theorem nn_str : NN rStr := fun _ _ _ h e => by rw [e] at h; cases h
theorem nn_bool : NN rBool := fun _ _ _ h e => by rw [e] at h; cases h
theorem nn_ob : NN (rOb c) := fun _ _ _ ⟨p, o, e, _⟩ e' => by rw [e'] at e; cases e
theorem ev_some (n : NN r) (h : EvX r te Γ Γ1 a) : EvX (rOpt r) te Γ Γ1 (some a) := fun A σ H B F Q q => h A σ H B F Q fun v H' B' F' s k => q v H' B' F' s ⟨k, n _ _ _ k⟩
theorem ev_get {o : Option α} (h : EvX (rOpt r) te Γ Γ1 o) (e : o = some a) : EvX r te Γ Γ1 a := fun A σ H B F Q q => h A σ H B F Q fun v H' B' F' s k => q v H' B' F' s (by rw [e] at k; exact k.1)
theorem ev_to {a' : α} (h : EvX r te Γ Γ1 a) (e : a = a') : EvX r te Γ Γ1 a' := e ▸ h
theorem ev_toNon (h : EvX (rOpt r) te Γ Γ1 none) : EvX rNon te Γ Γ1 () := fun A σ H B F Q q => h A σ H B F Q fun v H' B' F' s k => q v H' B' F' s k
theorem ev_isN {o : Option α} (h : EvX (rOpt r) te Γ Γ1 o) : EvX rBool (tIsN te) Γ Γ1 o.isNone := fun A σ H B F Q q => h A σ H B F _ fun v H' B' F' s k => q _ H' B' F' s (by
  cases o with
  | none => rw [show v = V.non from k]; rfl
  | some a => show V.bl (decide (v = V.non)) = V.bl false; rw [decide_eq_false k.2])
theorem ev_notN {o : Option α} (h : EvX (rOpt r) te Γ Γ1 o) : EvX rBool (tNotN te) Γ Γ1 o.isSome := fun A σ H B F Q q => h A σ H B F _ fun v H' B' F' s k => q _ H' B' F' s (by
  cases o with
  | none => rw [show v = V.non from k]; rfl
  | some a => show V.bl (!decide (v = V.non)) = V.bl true; rw [decide_eq_false k.2]; rfl)
/-! ### operators -/
theorem ev_op {R : R2} (ha : EvX ra ta Γ Γ1 x) (hb : EvX rb tb Γ1 Γ2 y) (h : ∀ (H B : Hp) (u v : V), Same B H → ra.rel B u x → rb.rel B v y → ∀ Q : VK, (∀ o, rc.rel B o z → Q o H) → R u v H Q) : EvX rc (tOp R ta tb) Γ Γ2 z :=
  fun A σ H B F Q q => ha A σ H B F _ fun u H1 B1 F1 s1 k1 => hb A σ H1 B1 F1 _ fun v H2 B2 F2 s2 k2 => h H2 B2 u v F2.bh (ra.mono s2 k1) k2 Q fun o ko => q o H2 B2 F2 (s1.trans s2) ko
theorem ev_opC {R : R2} {cc : Cl γ} (ha : EvX ra ta Γ Γ1 x) (hb : EvX rb tb Γ1 Γ2 y) (h : ∀ (H B : Hp) (u v : V), Sz H → Same B H → ra.rel B u x → rb.rel B v y → ∀ Q : VK, (∀ p o, H p = none → szO o → cc.ok B o z → Q (.ref p) (upd H p o)) → R u v H Q) : EvC cc (tOp R ta tb) Γ Γ2 z :=
  fun A σ H B F Q q => ha A σ H B F _ fun u H1 B1 F1 s1 k1 => hb A σ H1 B1 F1 _ fun v H2 B2 F2 s2 k2 => h H2 B2 u v F2.sz F2.bh (ra.mono s2 k1) k2 Q fun p o hp ho ko => q p o _ B2 (F2.fresh hp ho) (F2.H0none hp) (s1.trans s2) ko
theorem ev_un {R : V → Hp → VK → Prop} (ha : EvX ra ta Γ Γ1 x) (h : ∀ (H B : Hp) (u : V), Same B H → ra.rel B u x → ∀ Q : VK, (∀ o, rc.rel B o z → Q o H) → R u H Q) : EvX rc (tUn R ta) Γ Γ1 z :=
  fun A σ H B F Q q => ha A σ H B F _ fun u H1 B1 F1 s1 k1 => h H1 B1 u F1.bh k1 Q fun o ko => q o H1 B1 F1 s1 ko
theorem ev_I0 {g : Int → Int → V} {i j : Int} (ha : EvX rInt ta Γ Γ1 i) (hb : EvX rInt tb Γ1 Γ2 j) (h : ∀ B, rc.rel B (g i j) z) : EvX rc (tOp (rI0 g) ta tb) Γ Γ2 z :=
  ev_op ha hb fun H B u v _ ku kv Q q => ⟨i, j, ku, kv, q _ (h B)⟩
theorem ev_I {C : Int → Int → Prop} {g : Int → Int → V} {i j : Int} (ha : EvX rInt ta Γ Γ1 i) (hb : EvX rInt tb Γ1 Γ2 j) (hc : C i j) (h : ∀ B, rc.rel B (g i j) z) : EvX rc (tOp (rI C g) ta tb) Γ Γ2 z :=
  ev_op ha hb fun H B u v _ ku kv Q q => ⟨i, j, ku, kv, hc, q _ (h B)⟩
section
variable {i j : Int}
theorem ev_add (ha : EvX rInt ta Γ Γ1 i) (hb : EvX rInt tb Γ1 Γ2 j) : EvX rInt (tOp (rI0 fun i j => .int (i + j)) ta tb) Γ Γ2 (i + j) := ev_I0 ha hb fun _ => rfl
theorem ev_sub (ha : EvX rInt ta Γ Γ1 i) (hb : EvX rInt tb Γ1 Γ2 j) : EvX rInt (tOp (rI0 fun i j => .int (i - j)) ta tb) Γ Γ2 (i - j) := ev_I0 ha hb fun _ => rfl
theorem ev_mul (ha : EvX rInt ta Γ Γ1 i) (hb : EvX rInt tb Γ1 Γ2 j) (h : CMul i j) : EvX rInt (tOp (rI CMul fun i j => .int (i * j)) ta tb) Γ Γ2 (i * j) := ev_I ha hb h fun _ => rfl
theorem ev_mod (ha : EvX rInt ta Γ Γ1 i) (hb : EvX rInt tb Γ1 Γ2 j) (h : 0 < j) : EvX rInt (tOp (rI (fun _ j => 0 < j) fun i j => .int (i % j)) ta tb) Γ Γ2 (i % j) := ev_I ha hb h fun _ => rfl
theorem ev_divW (ha : EvX rInt ta Γ Γ1 i) (hb : EvX rInt tb Γ1 Γ2 j) (h : CDivW i j) : EvX rInt (tOp (rI CDivW fun i j => .int (i / j)) ta tb) Γ Γ2 (i / j) := ev_I ha hb h fun _ => rfl
theorem ev_pow (ha : EvX rInt ta Γ Γ1 i) (hb : EvX rInt tb Γ1 Γ2 j) (h : CPow i j) : EvX rInt (tOp (rI CPow fun i j => .int (i ^ j.toNat)) ta tb) Γ Γ2 (i ^ j.toNat) := ev_I ha hb h fun _ => rfl
theorem ev_neg (ha : EvX rInt ta Γ Γ1 i) : EvX rInt (tUn (rU fun i => .int (-i)) ta) Γ Γ1 (-i) := ev_un ha fun H B u _ k Q q => ⟨i, k, q _ rfl⟩
theorem ev_lt (ha : EvX rInt ta Γ Γ1 i) (hb : EvX rInt tb Γ1 Γ2 j) : EvX rBool (tOp (rI0 fun i j => .bl (decide (i < j))) ta tb) Γ Γ2 (decide (i < j)) := ev_I0 ha hb fun _ => rfl
theorem ev_le (ha : EvX rInt ta Γ Γ1 i) (hb : EvX rInt tb Γ1 Γ2 j) : EvX rBool (tOp (rI0 fun i j => .bl (decide (i ≤ j))) ta tb) Γ Γ2 (decide (i ≤ j)) := ev_I0 ha hb fun _ => rfl
theorem ev_gt (ha : EvX rInt ta Γ Γ1 i) (hb : EvX rInt tb Γ1 Γ2 j) : EvX rBool (tOp (rI0 fun i j => .bl (decide (j < i))) ta tb) Γ Γ2 (decide (j < i)) := ev_I0 ha hb fun _ => rfl
theorem ev_ge (ha : EvX rInt ta Γ Γ1 i) (hb : EvX rInt tb Γ1 Γ2 j) : EvX rBool (tOp (rI0 fun i j => .bl (decide (j ≤ i))) ta tb) Γ Γ2 (decide (j ≤ i)) := ev_I0 ha hb fun _ => rfl
end
/-- data that are a value without the heap -/
structure Sc {α : Type} (r : Rp α) where
  val : α → V
  ok : ∀ {H v a}, r.rel H v a → v = val a
  inj : ∀ {a b}, val a = val b → a = b
def scInt : Sc rInt := ⟨.int, fun h => h, fun h => V.int.inj h⟩
def scBool : Sc rBool := ⟨.bl, fun h => h, fun h => V.bl.inj h⟩
def scStr : Sc rStr := ⟨.str, fun h => h, fun h => V.str.inj h⟩
def scNon : Sc rNon := ⟨fun _ => .non, fun h => h, fun _ => rfl⟩
def oV {α : Type} (f : α → V) : Option α → V
  | none => .non
  | some a => f a
def scOpt {α : Type} {r : Rp α} (s : Sc r) (n : ∀ a, s.val a ≠ .non) : Sc (rOpt r) := ⟨oV s.val, fun {H v a} h => by
    cases a with
    | none => exact h
    | some a => exact s.ok h.1, fun {a b} h => by
    cases a with
    | none => cases b with
      | none => rfl
      | some b => exact absurd h.symm (n b)
    | some a => cases b with
      | none => exact absurd h (n a)
      | some b => rw [s.inj h]⟩
def scOI : Sc (rOpt rInt) := scOpt scInt fun _ h => V.noConfusion h
def scOS : Sc (rOpt rStr) := scOpt scStr fun _ h => V.noConfusion h
theorem sc_dec {r : Rp α} [DecidableEq α] (s : Sc r) (a b : α) : decide (s.val a = s.val b) = decide (a = b) := by
  by_cases e : a = b
  · rw [e]; simp
  · rw [decide_eq_false e, decide_eq_false fun h => e (s.inj h)]
theorem ev_eqS [DecidableEq α] (s : Sc r) (ha : EvX r ta Γ Γ1 x) (hb : EvX r tb Γ1 Γ2 a) (h : scal (s.val x) (s.val a) = true) : EvX rBool (tOp rEq ta tb) Γ Γ2 (decide (x = a)) :=
  ev_op ha hb fun H B u v _ ku kv Q q => by
    rw [s.ok ku, s.ok kv]
    exact ⟨h, q _ (by rw [sc_dec s]; rfl)⟩
theorem ev_neS [DecidableEq α] (s : Sc r) (ha : EvX r ta Γ Γ1 x) (hb : EvX r tb Γ1 Γ2 a) (h : scal (s.val x) (s.val a) = true) : EvX rBool (tOp rNe ta tb) Γ Γ2 (!decide (x = a)) :=
  ev_op ha hb fun H B u v _ ku kv Q q => by
    rw [s.ok ku, s.ok kv]
    exact ⟨h, q _ (by rw [sc_dec s]; rfl)⟩
theorem sc_oi (x a : Option Int) : scal (scOI.val x) (scOI.val a) = true := by cases x <;> cases a <;> rfl
theorem sc_os (x a : Option Str) : scal (scOS.val x) (scOS.val a) = true := by cases x <;> cases a <;> rfl
/-! ### tests -/
theorem et_B {b : Bool} (h : EvX rBool te Γ Γ1 b) : EvT (tB te) Γ Γ1 b := fun A σ H B F Q q => h A σ H B F _ fun v H' B' F' s k => ⟨b, k, q H' B' F' s⟩
theorem et_T {b : Bool} (h : EvX rBool te Γ Γ1 b) : EvT (tTest te) Γ Γ1 b := fun A σ H B F Q q => h A σ H B F _ fun v H' B' F' s k => ⟨b, k, q H' B' F' s⟩
theorem et_and {a b : Bool} (h1 : EvT tt Γ Γ1 a) (h2 : a = true → EvT tu Γ1 Γ2 b) (h3 : a = false → b = false ∧ Γ1 = Γ2) : EvT (tAnd tt tu) Γ Γ2 b := fun A σ H B F Q q => h1 A σ H B F _ fun H' B' F' s => by
  cases a with
  | true => exact h2 rfl A σ H' B' F' Q fun H2 B2 F2 s2 => q H2 B2 F2 (s.trans s2)
  | false => obtain ⟨rfl, rfl⟩ := h3 rfl; exact q H' B' F' s
theorem et_or {a b : Bool} (h1 : EvT tt Γ Γ1 a) (h2 : a = false → EvT tu Γ1 Γ2 b) (h3 : a = true → b = true ∧ Γ1 = Γ2) : EvT (tOr tt tu) Γ Γ2 b := fun A σ H B F Q q => h1 A σ H B F _ fun H' B' F' s => by
  cases a with
  | false => exact h2 rfl A σ H' B' F' Q fun H2 B2 F2 s2 => q H2 B2 F2 (s.trans s2)
  | true => obtain ⟨rfl, rfl⟩ := h3 rfl; exact q H' B' F' s
theorem et_and0 {a b : Bool} (h1 : EvT tt Γ Γ1 a) (h2 : EvT tu Γ1 Γ1 b) : EvT (tAnd tt tu) Γ Γ1 (a && b) := et_and h1 (fun e => by rw [e]; exact h2) fun e => ⟨by rw [e]; rfl, rfl⟩
theorem et_or0 {a b : Bool} (h1 : EvT tt Γ Γ1 a) (h2 : EvT tu Γ1 Γ1 b) : EvT (tOr tt tu) Γ Γ1 (a || b) := et_or h1 (fun e => by rw [e]; exact h2) fun e => ⟨by rw [e]; rfl, rfl⟩
theorem et_not {a : Bool} (h : EvT tt Γ Γ1 a) : EvT (tNot tt) Γ Γ1 (!a) := fun A σ H B F Q q => h A σ H B F _ fun H' B' F' s => q H' B' F' s
theorem ev_and {a b : Bool} (h1 : EvX rBool ta Γ Γ1 a) (h2 : a = true → EvX rBool tb Γ1 Γ2 b) (h3 : a = false → b = false ∧ Γ1 = Γ2) : EvX rBool (tAndV ta tb) Γ Γ2 b := fun A σ H B F Q q => h1 A σ H B F _ fun v H' B' F' s k => ⟨a, k, by
  cases a with
  | true => exact h2 rfl A σ H' B' F' Q fun v2 H2 B2 F2 s2 k2 => q v2 H2 B2 F2 (s.trans s2) k2
  | false => obtain ⟨rfl, rfl⟩ := h3 rfl; exact q _ H' B' F' s rfl⟩
theorem ev_or {a b : Bool} (h1 : EvX rBool ta Γ Γ1 a) (h2 : a = false → EvX rBool tb Γ1 Γ2 b) (h3 : a = true → b = true ∧ Γ1 = Γ2) : EvX rBool (tOrV ta tb) Γ Γ2 b := fun A σ H B F Q q => h1 A σ H B F _ fun v H' B' F' s k => ⟨a, k, by
  cases a with
  | false => exact h2 rfl A σ H' B' F' Q fun v2 H2 B2 F2 s2 k2 => q v2 H2 B2 F2 (s.trans s2) k2
  | true => obtain ⟨rfl, rfl⟩ := h3 rfl; exact q _ H' B' F' s rfl⟩
theorem ev_and0 {a b : Bool} (h1 : EvX rBool ta Γ Γ1 a) (h2 : EvX rBool tb Γ1 Γ1 b) : EvX rBool (tAndV ta tb) Γ Γ1 (a && b) := ev_and h1 (fun e => by rw [e]; exact h2) fun e => ⟨by rw [e]; rfl, rfl⟩
theorem ev_or0 {a b : Bool} (h1 : EvX rBool ta Γ Γ1 a) (h2 : EvX rBool tb Γ1 Γ1 b) : EvX rBool (tOrV ta tb) Γ Γ1 (a || b) := ev_or h1 (fun e => by rw [e]; exact h2) fun e => ⟨by rw [e]; rfl, rfl⟩
theorem ev_not {a : Bool} (h : EvX rBool ta Γ Γ1 a) : EvX rBool (tNotV ta) Γ Γ1 (!a) := fun A σ H B F Q q => h A σ H B F _ fun v H' B' F' s k => ⟨a, k, q _ H' B' F' s rfl⟩
theorem ev_if {b : Bool} (h : EvT tt Γ Γ1 b) (h1 : b = true → EvX r ta Γ1 Γ2 a) (h2 : b = false → EvX r tb Γ1 Γ2 a) : EvX r (tIf tt ta tb) Γ Γ2 a := fun A σ H B F Q q => h A σ H B F _ fun H' B' F' s => by
  cases b with
  | true => exact h1 rfl A σ H' B' F' Q fun v H2 B2 F2 s2 k => q v H2 B2 F2 (s.trans s2) k
  | false => exact h2 rfl A σ H' B' F' Q fun v H2 B2 F2 s2 k => q v H2 B2 F2 (s.trans s2) k
/-- two comparisons -/
theorem ev_chain {R R' : R2} {b1 b2 : Bool} {tc : TE} (ha : EvX ra ta Γ Γ1 x) (hb : EvX rb tb Γ1 Γ2 y) (hc : b1 = true → EvX rc tc Γ2 Γ2 z)
    (h1 : ∀ (H B : Hp) (u v : V), Same B H → ra.rel B u x → rb.rel B v y → ∀ Q : VK, Q (.bl b1) H → R u v H Q) (h2 : b1 = true → ∀ (H B : Hp) (u v : V), Same B H → rb.rel B u y → rc.rel B v z → ∀ Q : VK, Q (.bl b2) H → R' u v H Q) :
    EvX rBool (tChain R R' ta tb tc) Γ Γ2 (b1 && b2) := fun A σ H B F Q q => ha A σ H B F _ fun u H1 B1 F1 s1 k1 => hb A σ H1 B1 F1 _ fun v H2 B2 F2 s2 k2 => h1 H2 B2 u v F2.bh (ra.mono s2 k1) k2 _ ⟨b1, rfl, by
      cases b1 with
      | false => exact q _ H2 B2 F2 (s1.trans s2) rfl
      | true => exact hc rfl A σ H2 B2 F2 _ fun w H3 B3 F3 s3 k3 => h2 rfl H3 B3 v w F3.bh (rb.mono s3 k2) k3 Q (q _ H3 B3 F3 ((s1.trans s2).trans s3) rfl)⟩
/-! ### arguments, displays -/
theorem ew_0 : EvW w0 tNil Γ Γ () := fun A σ H B F Q q => q _ H B F (Same.refl _) rfl
theorem ew_1 (h : EvX r ta Γ Γ1 a) : EvW (w1 r) (tCons ta tNil) Γ Γ1 a := fun A σ H B F Q q => h A σ H B F _ fun v H' B' F' s k => q _ H' B' F' s ⟨v, rfl, k⟩
theorem ew_C {w : Rw β} {tr : TA} (h : EvX r ta Γ Γ1 a) (hr : EvW w tr Γ1 Γ2 y) : EvW (wC r w) (tCons ta tr) Γ Γ2 (a, y) := fun A σ H B F Q q =>
  h A σ H B F _ fun v H' B' F' s k => hr A σ H' B' F' _ fun vs H2 B2 F2 s2 k2 => q _ H2 B2 F2 (s.trans s2) ⟨v, vs, rfl, r.mono s2 k, k2⟩
theorem eh_0 : EvH r tNil Γ Γ [] := fun A σ H B F Q q => q _ H B F (Same.refl _) .nil
theorem eh_C {tr : TA} {xs : List α} (h : EvX r ta Γ Γ1 a) (hr : EvH r tr Γ1 Γ2 xs) : EvH r (tCons ta tr) Γ Γ2 (a :: xs) := fun A σ H B F Q q =>
  h A σ H B F _ fun v H' B' F' s k => hr A σ H' B' F' _ fun vs H2 B2 F2 s2 k2 => q _ H2 B2 F2 (s.trans s2) (.cons (r.mono s2 k) k2)
theorem ec_fresh {H B : Hp} {A : Amb} {σ : L2.St} {p : Addr} {o : HO} (F : Frm A σ H B Γ) (hp : H p = none) (ho : szO o) {Q : VK} (q : ∀ p o H' B', Frm (A.add p o) σ H' B' Γ → A.H0 p = none → Same B B' → c.ok B' o a → Q (.ref p) H') (k : c.ok B o a) : Q (.ref p) (upd H p o) :=
  q p o _ B (F.fresh hp ho) (F.H0none hp) (Same.refl _) k
/-- how many there are -/
class WLen {α : Type} (w : Rw α) (n : outParam Nat) : Prop where
  len : ∀ {H vs a}, w.rel H vs a → vs.length = n
instance : WLen w0 0 := ⟨fun h => by rw [show _ = ([] : List V) from h]; rfl⟩
instance {α : Type} (r : Rp α) : WLen (w1 r) 1 := ⟨fun ⟨v, e, _⟩ => by rw [e]; rfl⟩
instance {α β : Type} (r : Rp α) (w : Rw β) {n : Nat} [i : WLen w n] : WLen (wC r w) (n + 1) := ⟨fun ⟨v, t, e, _, k⟩ => by rw [e, List.length_cons, i.len k]⟩
theorem ec_tup {n : Nat} [i : WLen w n] {ta : TA} (h : EvW w ta Γ Γ1 a) (hn : n ≤ 1000 := by decide) : EvC (cTup w) (tTup ta) Γ Γ1 a := fun A σ H B F Q q => h A σ H B F _ fun vs H' B' F' s k => by
  have hl : vs.length ≤ sizeLine := by rw [i.len k]; exact Nat.le_of_lt (small1000 hn)
  exact ⟨hl, fun p hp => ec_fresh (c := cTup w) (o := .tup vs) F' hp hl (fun p o H2 B2 F2 n2 s2 k2 => q p o H2 B2 F2 n2 (s.trans s2) k2) ⟨vs, rfl, k⟩⟩
theorem ec_hls {n : Nat} [i : WLen w n] {ta : TA} (h : EvW w ta Γ Γ1 a) (hn : n ≤ 1000 := by decide) : EvC (cHls w) (tLst ta) Γ Γ1 a := fun A σ H B F Q q => h A σ H B F _ fun vs H' B' F' s k => by
  have hl : vs.length ≤ sizeLine := by rw [i.len k]; exact Nat.le_of_lt (small1000 hn)
  exact ⟨hl, fun p hp => ec_fresh (c := cHls w) (o := .lst vs) F' hp hl (fun p o H2 B2 F2 n2 s2 k2 => q p o H2 B2 F2 n2 (s.trans s2) k2) ⟨vs, rfl, k⟩⟩
theorem ec_lst {ta : TA} {xs : List α} (h : EvH r ta Γ Γ1 xs) (hn : xs.length ≤ 1000 := by decide) : EvC (cLst r) (tLst ta) Γ Γ1 xs := fun A σ H B F Q q => h A σ H B F _ fun vs H' B' F' s k => by
  have hl : vs.length ≤ sizeLine := by rw [Paired.len k]; exact Nat.le_of_lt (small1000 hn)
  exact ⟨hl, fun p hp => ec_fresh (c := cLst r) (o := .lst vs) F' hp hl (fun p o H2 B2 F2 n2 s2 k2 => q p o H2 B2 F2 n2 (s.trans s2) k2) ⟨vs, rfl, k⟩⟩
theorem ec_tpl {ta : TA} {xs : List α} (h : EvH r ta Γ Γ1 xs) (hn : xs.length ≤ 1000 := by decide) : EvC (cTpl r) (tTup ta) Γ Γ1 xs := fun A σ H B F Q q => h A σ H B F _ fun vs H' B' F' s k => by
  have hl : vs.length ≤ sizeLine := by rw [Paired.len k]; exact Nat.le_of_lt (small1000 hn)
  exact ⟨hl, fun p hp => ec_fresh (c := cTpl r) (o := .tup vs) F' hp hl (fun p o H2 B2 F2 n2 s2 k2 => q p o H2 B2 F2 n2 (s.trans s2) k2) ⟨vs, rfl, k⟩⟩
/-- a new object that nobody will change -/
theorem ev_new (h : EvC c te Γ Γ1 a) : EvX (rOb c) te Γ Γ1 a := fun A σ H B F Q q => h A σ H B F Q fun p o H' B' F' n s k => by
  have hm : ¬ A.m p := fun m => F.mh p m n
  have hB : B' p = none := F'.out p (by show upd A.H0 p o p ≠ none; rw [upd_same]; simp) (by
    cases e : A.B0 p with
    | none => exact e
    | some u => exact absurd (F.sub p u e) (by rw [n]; simp))
  have s' : Same B' (upd B' p o) := fun b u e => by rw [upd_ne (ne_of_none e hB)]; exact e
  exact q _ H' (upd B' p o) (F'.adopt n F.sub F.mh) (s.trans s') ⟨p, o, rfl, upd_same, c.mono s' k⟩
/-! ### items -/
theorem atI_rel {B : Hp} {vs : List V} {xs : List α} {i : Int} (h : Paired (r.rel B) vs xs) (e : atI xs i = some a) : ∃ v, atI vs i = some v ∧ r.rel B v a := by
  unfold atI at e ⊢
  rw [Paired.len h]
  cases q : ixN xs.length i with
  | none => rw [q] at e; cases e
  | some j =>
    rw [q] at e
    exact Paired.getR h e
theorem ob_lst {B H : Hp} {u : V} {xs : List α} (s : Same B H) (h : (rLst r).rel B u xs) : ∃ p vs, u = .ref p ∧ H p = some (.lst vs) ∧ Paired (r.rel B) vs xs := by
  obtain ⟨p, o, e, hp, vs, rfl, k⟩ := h
  exact ⟨p, vs, e, s _ _ hp, k⟩
theorem ob_tpl {B H : Hp} {u : V} {xs : List α} (s : Same B H) (h : (rTpl r).rel B u xs) : ∃ p vs, u = .ref p ∧ H p = some (.tup vs) ∧ Paired (r.rel B) vs xs := by
  obtain ⟨p, o, e, hp, vs, rfl, k⟩ := h
  exact ⟨p, vs, e, s _ _ hp, k⟩
theorem ob_hls {B H : Hp} {u : V} (s : Same B H) (h : (rHls w).rel B u a) : ∃ p vs, u = .ref p ∧ H p = some (.lst vs) ∧ w.rel B vs a := by
  obtain ⟨p, o, e, hp, vs, rfl, k⟩ := h
  exact ⟨p, vs, e, s _ _ hp, k⟩
theorem ob_tup {B H : Hp} {u : V} (s : Same B H) (h : (rTup w).rel B u a) : ∃ p vs, u = .ref p ∧ H p = some (.tup vs) ∧ w.rel B vs a := by
  obtain ⟨p, o, e, hp, vs, rfl, k⟩ := h
  exact ⟨p, vs, e, s _ _ hp, k⟩
theorem ev_ixL {xs : List α} {i : Int} (ha : EvX (rLst r) ta Γ Γ1 xs) (hb : EvX rInt tb Γ1 Γ2 i) (e : atI xs i = some a) : EvX r (tOp (rIxL K) ta tb) Γ Γ2 a :=
  ev_op ha hb fun H B u v s ku kv Q q => by
    obtain ⟨p, vs, rfl, hp, k⟩ := ob_lst s ku
    obtain ⟨o, ho, ko⟩ := atI_rel k e
    exact ⟨p, vs, i, o, rfl, kv, SqL.of hp, ho, q o ko⟩
theorem ev_ixT {xs : List α} {i : Int} (ha : EvX (rTpl r) ta Γ Γ1 xs) (hb : EvX rInt tb Γ1 Γ2 i) (e : atI xs i = some a) : EvX r (tOp (rIxT K) ta tb) Γ Γ2 a :=
  ev_op ha hb fun H B u v s ku kv Q q => by
    obtain ⟨p, vs, rfl, hp, k⟩ := ob_tpl s ku
    obtain ⟨o, ho, ko⟩ := atI_rel k e
    exact ⟨p, vs, i, o, rfl, kv, SqT.of hp, ho, q o ko⟩
/-- the k-th of a row -/
def Acc {α β : Type} (w : Rw α) (k : Nat) (r : Rp β) (f : α → β) : Prop := ∀ H vs a, w.rel H vs a → ∃ v, vs[k]? = some v ∧ r.rel H v (f a)
theorem acc1 : Acc (w1 r) 0 r (fun a => a) := fun H vs a ⟨v, e, k⟩ => ⟨v, by rw [e]; rfl, k⟩
theorem acc0 {w : Rw β} : Acc (wC r w) 0 r (·.1) := fun H vs a ⟨v, t, e, k, _⟩ => ⟨v, by rw [e]; rfl, k⟩
theorem accS {w : Rw β} {k : Nat} {f : β → γ} (h : Acc w k rc f) : Acc (wC r w) (k + 1) rc (fun a => f a.2) := fun H vs a ⟨v, t, e, _, q⟩ => by
  obtain ⟨u, h1, h2⟩ := h H t a.2 q
  exact ⟨u, by rw [e]; simpa using h1, h2⟩
theorem ev_ixR {k : Nat} {f : α → β} (ha : EvX (rHls w) ta Γ Γ1 a) (h : Acc w k rb f) : EvX rb (tOp (rIxL K) ta (tC (.int (k : Int)))) Γ Γ1 (f a) :=
  ev_op ha (ev_int (Γ := Γ1)) fun H B u v s ku kv Q q => by
    obtain ⟨p, vs, rfl, hp, g⟩ := ob_hls s ku
    obtain ⟨o, ho, ko⟩ := h B vs a g
    exact ⟨p, vs, (k : Int), o, rfl, kv, SqL.of hp, atI_nat ho, q o ko⟩
theorem ev_ixU {k : Nat} {f : α → β} (ha : EvX (rTup w) ta Γ Γ1 a) (h : Acc w k rb f) : EvX rb (tOp (rIxT K) ta (tC (.int (k : Int)))) Γ Γ1 (f a) :=
  ev_op ha (ev_int (Γ := Γ1)) fun H B u v s ku kv Q q => by
    obtain ⟨p, vs, rfl, hp, g⟩ := ob_tup s ku
    obtain ⟨o, ho, ko⟩ := h B vs a g
    exact ⟨p, vs, (k : Int), o, rfl, kv, SqT.of hp, atI_nat ho, q o ko⟩
end
end G

set_option maxHeartbeats 4000000
/-! # G: statements, calls, loops -/
namespace G
open PySem PySem.Spec PyProof.Rows L2

/-- from what is known at Γ the wish P holds -/
def Nx (A : Amb) (P : L2.St → Hp → Prop) (Γ : List Sl) : Prop := ∀ σ H B, Frm A σ H B Γ → P σ H
/-- what is handed back -/
def Rt {ρ : Type} (A : Amb) (ψ : ρ → Hp → Hp → V → Prop) (b : ρ) (rt : VK) : Prop := ∀ H B v, Post A H B → ψ b H B v → rt v H
def psi {β : Type} (r : Rp β) (b : β) (_ B : Hp) (v : V) : Prop := r.rel B v b
def psiS {β γ : Type} (p : Addr) (c : Cl γ) (r : Rp β) (b : β × γ) (H B : Hp) (v : V) : Prop := r.rel B v b.1 ∧ ∃ o, H p = some o ∧ c.ok B o b.2
def Fin (A : Amb) (M : List Sl) : L2.St → Hp → Prop := fun σ H => ∃ B, Frm A σ H B M

section
variable {α β γ ρ ς : Type} {r ra : Rp α} {rb : Rp β} {c : Cl α} {cc : Cl γ} {w : Rw α} {te : TE} {tt : TT} {t u : TS} {D : Ends} {A : Amb} {Γ Γ1 Γ2 M : List Sl} {a : α} {b : β} {i : Nat} {K : PySem.W.Frag} {P : L2.St → Hp → Prop} {ψ : ρ → Hp → Hp → V → Prop}
theorem nx_seq (h : Nx A (t { D with nx := u D }) Γ) : Nx A (tSeq t u D) Γ := h
theorem nx_next (h : Nx A D.nx Γ) : Nx A (tNext D) Γ := h
theorem nx_brk (h : Nx A D.bk Γ) : Nx A (tBreak D) Γ := h
theorem nx_cont (h : Nx A D.ct Γ) : Nx A (tCont D) Γ := h
theorem nx_asg (h : EvX r te Γ Γ1 a) (k : Nx A D.nx (Γ1.set i (.imm r a))) : Nx A (tAsg te (gName i) D) Γ := fun σ H B F => h A σ H B F _ fun v H' B' F' _ q => k _ _ _ (F'.set q)
theorem nx_asgC (h : EvC c te Γ Γ1 a) (k : ∀ p, ¬ A.m p → Nx A D.nx (Γ1.set i (.cel p c a))) : Nx A (tAsg te (gName i) D) Γ := fun σ H B F => h A σ H B F _ fun p o H' B' F' n _ q =>
  k p (fun m => F.mh p m n) _ _ _ (F'.own1 n F.sub F.mh q)
theorem nx_if {b : Bool} (h : EvT tt Γ Γ1 b) (h1 : b = true → Nx A (t D) Γ1) (h2 : b = false → Nx A (u D) Γ1) : Nx A (tIfS tt t u D) Γ := fun σ H B F => h A σ H B F _ fun H' B' F' _ => by
  cases b with
  | true => exact h1 rfl σ H' B' F'
  | false => exact h2 rfl σ H' B' F'
theorem nx_drop (h : EvX r te Γ Γ1 a) (k : Nx A D.nx Γ1) : Nx A (tDrop te D) Γ := fun σ H B F => h A σ H B F _ fun v H' B' F' _ _ => k _ _ _ F'
theorem nx_ret {b : α} (h : EvX r te Γ Γ1 a) (e : some a = some b) (k : Rt A (psi r) b D.rt) : Nx A (tRet te D) Γ := fun σ H B F => h A σ H B F _ fun v H' B' F' _ q => k H' B' v F'.post (by cases e; exact q)
theorem nx_retS {p : Addr} {st : γ} {b : α × γ} (h : EvX r te Γ Γ1 a) (hi : Γ1[i]? = some (.cel p cc st)) (e : some (a, st) = some b) (k : Rt A (psiS p cc r) b D.rt) : Nx A (tRet te D) Γ := fun σ H B F => h A σ H B F _ fun v H' B' F' _ q => by
  obtain ⟨_, _, _, o, ho, ko⟩ := F'.sl i _ hi
  exact k H' B' v F'.post (by cases e; exact ⟨q, o, ho, ko⟩)
theorem nx_cut (M : List Sl) (h : Nx A (t { D with nx := Fin A M }) Γ) (k : Nx A (u D) M) : Nx A (Evl.tCut t u D) Γ := fun σ H B F => ⟨Fin A M, h σ H B F, fun σ' H' ⟨B', F'⟩ => k σ' H' B' F'⟩
theorem nx_fin : Nx A (Fin A M) M := fun σ H B F => ⟨B, F⟩
theorem nx_forget (i : Nat) (h : Nx A P (Γ.set i .no)) : Nx A P Γ := fun σ H B F => h σ H B (F.forget i)
theorem nx_eq (e : Γ = Γ1) (h : Nx A P Γ1) : Nx A P Γ := e ▸ h
/-- the frame's own object is changed no more -/
theorem Frm.freeze {σ : L2.St} {H B : Hp} {p : Addr} (F : Frm A σ H B Γ) (hp : ¬ A.m p) (e : Γ[i]? = some (.cel p c a)) : ∃ B', Same B B' ∧ Frm A σ H B' (Γ.set i (.imm (rOb c) a)) := by
  obtain ⟨e1, n, m, o, ho, k⟩ := F.sl i _ e
  have m0 : A.H0 p = none := m.resolve_right hp
  have bb : Same B (upd B p o) := fun b u q => by rw [upd_ne (ne_of_none q n)]; exact q
  refine ⟨upd B p o, bb, F.chg e ⟨fun b u q => ?_, fun b u q => bb b u (F.b0 b u q), F.keep, fun b nb z => ?_, F.alive, F.sub, F.mh, A.up _ _ bb F.ph, F.sz⟩ bb fun ow hh so => ⟨fun _ => False, fun q z => z.elim, fun q z => z.elim, fun q h nq => ⟨?_, fun u hu => hu⟩, .ref p, e1, p, o, rfl, upd_same, c.mono bb k⟩⟩
  · by_cases hb : b = p
    · subst hb; rw [upd_same] at q; cases q; exact ho
    · rw [upd_ne hb] at q; exact F.bh b u q
  · have hb : b ≠ p := fun q => nb (by rw [q]; exact m0)
    rw [upd_ne hb]; exact F.out b nb z
  · have hq : q ≠ p := fun z => nq (by rw [z]; exact so.2.1)
    rw [upd_ne hq]; exact h.1
theorem nx_freeze {p : Addr} (i : Nat) (hp : ¬ A.m p) (e : Γ[i]? = some (.cel p c a)) (h : Nx A P (Γ.set i (.imm (rOb c) a))) : Nx A P Γ := fun σ H B F => by
  obtain ⟨B', _, F'⟩ := F.freeze hp e
  exact h σ H B' F'
end

/-! ### calls -/
def amb0 (B H : Hp) : Amb := ⟨B, H, fun _ => False, fun _ => True, fun _ _ _ _ => trivial⟩
def ambS (B H : Hp) (p : Addr) : Amb := ⟨B, H, fun q => q = p, fun _ => True, fun _ _ _ _ => trivial⟩
def SpP {α β : Type} (w : Rw α) (r : Rp β) (m : α → Option β) : Sp := fun vs H Q _ => ∃ B a b, Sz H ∧ Same B H ∧ w.rel B vs a ∧ m a = some b ∧ Rt (amb0 B H) (psi r) b Q
def SpS {α β γ : Type} (c : Cl γ) (w : Rw α) (r : Rp β) (m : γ → α → Option (β × γ)) : Sp := fun vs H Q _ => ∃ p vs' B o st a b, vs = .ref p :: vs' ∧ Sz H ∧ Same B H ∧ B p = none ∧ H p = some o ∧ c.ok B o st ∧ w.rel B vs' a ∧ m st a = some b ∧ Rt (ambS B H p) (psiS p c r) b Q
section
variable {α β γ : Type} {r : Rp β} {w : Rw α} {cc : Cl γ} {A : Amb} {σ : L2.St} {H H' B B' : Hp} {Γ Γ1 : List Sl} {i : Nat} {p : Addr} {st st' : γ}
theorem Post.after (F : Frm A σ H B Γ) (P : Post (amb0 B H) H' B') : Post A H' B' where
  bh := P.bh
  b0 := fun p o e => P.b0 p o (F.b0 p o e)
  keep := fun p o m e => P.keep p o (fun z => z) (F.keep p o m e)
  out := fun p n z => P.out p (F.alive p n) (F.out p n z)
  alive := fun p n => P.alive p (F.alive p n)
  sub := F.sub
  mh := F.mh
  ph := A.up _ _ P.b0 F.ph
  sz := P.sz
theorem Frm.after (F : Frm A σ H B Γ) (P : Post (amb0 B H) H' B') : Frm A σ H' B' Γ :=
  F.move (Post.after F P) P.b0 fun p h => ⟨P.out p h.2.1 h.1, h.2.2, fun u e => P.keep p u (fun z => z) e⟩
theorem Frm.afterS (F : Frm A σ H B Γ) (hi : Γ[i]? = some (.cel p cc st)) (P : Post (ambS B H p) H' B') (k : ∃ o, H' p = some o ∧ cc.ok B' o st') : Frm A σ H' B' (Γ.set i (.cel p cc st')) := by
  obtain ⟨e1, n, m, _⟩ := F.sl i _ hi
  refine F.chg hi ⟨P.bh, fun p o e => P.b0 p o (F.b0 p o e), fun q o nm e => P.keep q o (fun z => ?_) (F.keep q o nm e), fun p n z => P.out p (F.alive p n) (F.out p n z), fun p n => P.alive p (F.alive p n), F.sub, F.mh, A.up _ _ P.b0 F.ph, P.sz⟩ P.b0 fun ow hh so => ⟨ow, fun q z => .inl z, fun q z => ?_, fun q h nq => ⟨P.out q h.2.1 h.1, fun u hu => P.keep q u (fun (z : q = p) => nq (by rw [z]; exact so.2.1)) hu⟩, e1, so.2.1, k⟩
  · have z' : q = p := z
    subst z'
    rcases m with m | m
    · rw [m] at e; cases e
    · exact nm m
  · have h := hh q z
    exact ⟨P.out q h.2.1 h.1, P.alive q h.2.1, h.2.2⟩
theorem ev_call {m : α → Option β} {a : α} {b : β} {E : XK} {ta : TA} (h : EvW w ta Γ Γ1 a) (e : m a = some b) : EvX r (tCall (SpP w r m) [] E ta) Γ Γ1 b := fun A σ H B F Q q => h A σ H B F _ fun vs H1 B1 F1 s1 k1 => by
  rw [List.append_nil]
  exact ⟨B1, a, b, F1.sz, F1.bh, k1, e, fun H2 B2 v P k => q v H2 B2 (F1.after P) (s1.trans P.b0) k⟩
theorem ev_callS {m : γ → α → Option (β × γ)} {a : α} {b : β} {E : XK} {tr : TA} (h : EvW w tr Γ Γ1 a) (hi0 : Γ[i]?.bind celAt = some p) (hi : Γ1[i]? = some (.cel p cc st)) (e : m st a = some (b, st')) : EvX r (tCall (SpS cc w r m) [] E (tCons (tVar i) tr)) Γ (Γ1.set i (.cel p cc st')) b :=
  fun A σ H B F Q q => by
    have hv : σ[i]? = some (some (V.ref p)) := by
      cases e : Γ[i]? with
      | none => rw [e] at hi0; cases hi0
      | some s =>
        rw [e] at hi0
        have h := F.sl i s e
        cases s with
        | no => cases hi0
        | imm r a => cases hi0
        | cel q c a => cases hi0; exact h.1
        | tre v c a => cases hi0
    refine ⟨_, hv, ?_⟩
    refine h A σ H B F _ fun vs H1 B1 F1 s1 k1 => ?_
    show SpS cc w r m ((V.ref p :: vs) ++ []) H1 Q E
    rw [List.append_nil]
    obtain ⟨_, n, m, o, ho, ko⟩ := F1.sl i _ hi
    exact ⟨p, vs, B1, o, st, a, (b, st'), rfl, F1.sz, F1.bh, n, ho, ko, k1, e, fun H2 B2 v P k => q v H2 B2 (F1.afterS hi P k.2) (s1.trans P.b0) k.1⟩
end

/-! ### a def -/
class WSl {α : Type} (w : Rw α) (f : outParam (α → List Sl)) : Prop where
  ok : ∀ {B vs a}, w.rel B vs a → (f a).length = vs.length ∧ ∀ (i : Nat) (s : Sl), (f a)[i]? = some s → plain s ∧ ∀ (σ : L2.St) (H : Hp) (o : Addr → Prop), (∀ v, vs[i]? = some v → σ[i]? = some (some v)) → SlO σ H B o i s
instance : WSl w0 (fun _ => []) := ⟨fun h => ⟨by rw [show _ = ([] : List V) from h]; rfl, fun i s e => by simp at e⟩⟩
instance {α : Type} (r : Rp α) : WSl (w1 r) (fun a => [.imm r a]) := ⟨fun {B vs a} ⟨v, e, k⟩ => ⟨by rw [e]; rfl, fun i s q => by
  cases i with
  | zero => cases q; exact ⟨trivial, fun σ H o h => ⟨v, h v (by rw [e]; rfl), k⟩⟩
  | succ i => simp at q⟩⟩
theorem slok_shift {σ σ' : L2.St} {H B : Hp} {o : Addr → Prop} {i j : Nat} {s : Sl} (h : SlO σ H B o i s) (e : σ[i]? = σ'[j]?) : SlO σ' H B o j s := by
  cases s with
  | no => trivial
  | imm r a => obtain ⟨v, q, k⟩ := h; exact ⟨v, by rw [← e]; exact q, k⟩
  | cel p c a => obtain ⟨q, k⟩ := h; exact ⟨by rw [← e]; exact q, k⟩
  | tre v c a => obtain ⟨q, k⟩ := h; exact ⟨by rw [← e]; exact q, k⟩
instance {α β : Type} (r : Rp α) (w : Rw β) {f : β → List Sl} [k : WSl w f] : WSl (wC r w) (fun a => .imm r a.1 :: f a.2) := ⟨fun {B vs a} ⟨v, t, e, k1, k2⟩ => by
  obtain ⟨hl, hs⟩ := k.ok k2
  refine ⟨by rw [e, List.length_cons, List.length_cons, hl], fun i s q => ?_⟩
  cases i with
  | zero => cases q; exact ⟨trivial, fun σ H o h => ⟨v, h v (by rw [e]; rfl), k1⟩⟩
  | succ i =>
    obtain ⟨h1, h2⟩ := hs i s (by simpa using q)
    refine ⟨h1, fun σ H o h => ?_⟩
    have g := h2 σ.tail H o (fun u hu => by
      have := h u (by rw [e]; simpa using hu)
      cases σ with
      | nil => simp at this
      | cons x y => simpa using this)
    exact slok_shift g (by cases σ <;> simp)⟩
theorem start_get {N : List Str} {vs : List V} {i : Nat} {v : V} (e : vs[i]? = some v) : (L2.start N vs)[i]? = some (some v) := by
  unfold L2.start
  have hl : i < (vs.map some).length := by rw [List.length_map]; exact (List.getElem?_eq_some_iff.mp e).1
  rw [List.getElem?_append_left hl, List.getElem?_map, e]; rfl
theorem start_len {N : List Str} {vs : List V} (h : vs.length ≤ N.length) : (L2.start N vs).length = N.length := by
  unfold L2.start
  rw [List.length_append, List.length_map, List.length_replicate]; omega
section
variable {α β γ : Type} {r : Rp β} {w : Rw α} {cc : Cl γ}
theorem rep_sp {l : List Sl} {n i : Nat} {s : Sl} (e : (l ++ List.replicate n .no)[i]? = some s) : l[i]? = some s ∨ s = .no := by
  by_cases hi : i < l.length
  · rw [List.getElem?_append_left hi] at e; exact .inl e
  · rw [List.getElem?_append_right (by omega), List.getElem?_replicate] at e
    split at e
    · cases e; exact .inr rfl
    · cases e
theorem frm_start {f : α → List Sl} [k : WSl w f] {B H : Hp} {vs : List V} {a : α} {N : List Str} {n : Nat} (z : Sz H) (s : Same B H) (h : w.rel B vs a) (hN : N.length = vs.length + n) : Frm (amb0 B H) (L2.start N vs) H B (f a ++ List.replicate n .no) := by
  obtain ⟨hl, hs⟩ := k.ok h
  refine ⟨⟨s, Same.refl _, fun _ _ _ e => e, fun _ _ e => e, fun _ n => n, s, fun _ z => z.elim, trivial, z⟩, ?_, fun _ _ => False, fun i s e => ?_, fun _ _ _ z => z.elim, fun _ _ z => z.elim⟩
  · rw [start_len (by omega), List.length_append, List.length_replicate, hl]; exact hN
  · rcases rep_sp e with e | rfl
    · exact (hs i s e).2 _ _ _ fun v hv => start_get hv
    · trivial
theorem start_cons {N : List Str} {vs : List V} {v : V} : ∃ N', (L2.start N (v :: vs)) = some v :: L2.start N' vs := ⟨N.drop 1, by
  unfold L2.start
  rw [List.map_cons, List.cons_append, List.length_cons, List.length_drop]
  congr 3; omega⟩
theorem frm_startS {f : α → List Sl} [k : WSl w f] {B H : Hp} {vs : List V} {a : α} {N : List Str} {n : Nat} {p : Addr} {o : HO} {st : γ} (z : Sz H) (s : Same B H) (hB : B p = none) (hp : H p = some o) (ko : cc.ok B o st) (h : w.rel B vs a) (hN : N.length = (vs.length + 1) + n) :
    Frm (ambS B H p) (L2.start N (.ref p :: vs)) H B (.cel p cc st :: (f a ++ List.replicate n .no)) := by
  obtain ⟨hl, hs⟩ := k.ok h
  refine ⟨⟨s, Same.refl _, fun _ _ _ e => e, fun _ _ e => e, fun _ n => n, s, fun q (z : q = p) => by show H q ≠ none; rw [z, hp]; simp, trivial, z⟩, ?_, fun i q => i = 0 ∧ q = p, fun i s e => ?_, fun i j q ei ej => by rw [ei.1, ej.1], fun i q e => ?_⟩
  · rw [start_len (by rw [List.length_cons]; omega), List.length_cons, List.length_append, List.length_replicate, hl, hN]; omega
  · cases i with
    | zero => cases e; exact ⟨start_get rfl, ⟨rfl, rfl⟩, o, hp, ko⟩
    | succ i =>
      rcases rep_sp (by simpa using e) with e | rfl
      · obtain ⟨N', e'⟩ := start_cons (N := N) (vs := vs) (v := .ref p)
        exact slok_shift ((hs i s e).2 (L2.start N' vs) H _ fun v hv => start_get hv) (by rw [e']; simp)
      · trivial
  · rw [e.2]; exact ⟨hB, by rw [hp]; simp, .inr rfl⟩
end
end G

set_option maxHeartbeats 4000000
/-! # G: loops -/
namespace G
open PySem PySem.Spec PyProof.Rows L2

/-! ### the mirrors of loops -/
inductive Step (ρ ς : Type) where
  | nx (s : ς)
  | brk (s : ς)
  | ret (b : ρ)
def forL {α ρ ς : Type} (f : α → ς → Option (Step ρ ς)) : List α → ς → Option (Step ρ ς)
  | [], s => some (.nx s)
  | x :: xs, s => match f x s with
    | none => none
    | some (.nx s') => forL f xs s'
    | some (.brk s') => some (.nx s')
    | some (.ret b) => some (.ret b)
def whL {ρ ς : Type} (c : ς → Option Bool) (f : ς → Option (Step ρ ς)) : Nat → ς → Option (Step ρ ς)
  | 0, _ => none
  | n + 1, s => match c s with
    | none => none
    | some false => some (.nx s)
    | some true => match f s with
      | none => none
      | some (.nx s') => whL c f n s'
      | some (.brk s') => some (.nx s')
      | some (.ret b) => some (.ret b)
def compL {α β : Type} (f : α → Option (Option β)) : List α → Option (List β)
  | [] => some []
  | x :: xs => match f x with
    | none => none
    | some none => compL f xs
    | some (some y) => match compL f xs with
      | none => none
      | some ys => some (y :: ys)
def compS {α β ς : Type} (f : α → ς → Option (Option β × ς)) : List α → ς → Option (List β × ς)
  | [], s => some ([], s)
  | x :: xs, s => match f x s with
    | none => none
    | some (none, s') => compS f xs s'
    | some (some y, s') => match compS f xs s' with
      | none => none
      | some (ys, s'') => some (y :: ys, s'')

/-! ### what is walked -/
structure Yl {α : Type} (Bx : Hp) (J : It) (r : Rp α) (xs : List α) : Prop where
  len : xs.length ≤ sizeLine
  stop : ∀ H B, Same Bx B → Same B H → J.stop xs.length H
  go : ∀ i H B, Same Bx B → Same B H → i < xs.length → J.go i H
  yld : ∀ (i : Nat) (x : α) H B v H', Same Bx B → Same B H → xs[i]? = some x → J.yld i H v H' → ∀ (A : Amb) (σ : L2.St) (Γ : List Sl), Frm A σ H B Γ → ∃ B', Frm A σ H' B' Γ ∧ Same B B' ∧ r.rel B' v x
def ItX {α : Type} (r : Rp α) (wi : TI) (Γ Γ' : List Sl) (xs : List α) : Prop := ∀ (A : Amb) (σ : L2.St) (H B : Hp), Frm A σ H B Γ → ∀ R : It → Hp → Prop, (∀ J H' B', Frm A σ H' B' Γ' → Same B B' → Yl B' J r xs → R J H') → wi σ H R
/-- the target of a store -/
def TgX {α : Type} (g : TG) (r : Rp α) (vs : List Nat) (Γ : List Sl) (Γf : α → List Sl) : Prop := ∀ (A : Amb) (σ : L2.St) (H B : Hp) (v : V) (x : α), Frm A σ H B Γ → r.rel B v x → ∀ Q : L2.St → Hp → Prop,
  (∀ σ', Frm A σ' H B (Γf x) → σ'.length = σ.length → (∀ k, k ∉ vs → σ'[k]? = σ[k]?) → Q σ' H) → g v σ H Q
section
variable {α β γ ρ ς : Type} {r ra : Rp α} {rb : Rp β} {te ta tb : TE} {Γ Γ1 Γ2 : List Sl} {xs : List α} {K : PySem.W.Frag}
theorem it_list (h : EvX (rLst r) te Γ Γ1 xs) : ItX r (iList K te) Γ Γ1 xs := fun A σ H B F R q => h A σ H B F _ fun v H' B' F' s k => by
  obtain ⟨p, o, rfl, hp, vs, rfl, kp⟩ := k
  refine ⟨p, rfl, ⟨vs, SqL.of (F'.bh _ _ hp)⟩, q _ H' B' F' s ⟨by rw [← Paired.len kp]; exact F'.sz _ _ (F'.bh _ _ hp), fun H2 B2 s1 s2 => ?_, fun i H2 B2 s1 s2 hi => ?_, fun i x H2 B2 v H3 s1 s2 hx hy A σ Γ F => ?_⟩⟩
  · exact ⟨vs, SqL.of (s2 _ _ (s1 _ _ hp)), by rw [Paired.len kp]; exact Nat.le_refl _⟩
  · obtain ⟨y, hy⟩ : ∃ y, vs[i]? = some y := ⟨_, List.getElem?_eq_getElem (by rw [Paired.len kp]; exact hi)⟩
    exact ⟨vs, y, SqL.of (s2 _ _ (s1 _ _ hp)), hy⟩
  · obtain ⟨rfl, hv⟩ := hy
    obtain ⟨y, hy, ky⟩ := Paired.getR kp hx
    have e := hv vs (SqL.of (s2 _ _ (s1 _ _ hp)))
    rw [hy] at e; cases e
    exact ⟨B2, F, Same.refl _, r.mono s1 ky⟩
theorem it_tpl (h : EvX (rTpl r) te Γ Γ1 xs) : ItX r (iTup K te) Γ Γ1 xs := fun A σ H B F R q => h A σ H B F _ fun v H' B' F' s k => by
  obtain ⟨p, o, rfl, hp, vs, rfl, kp⟩ := k
  refine ⟨p, rfl, ⟨vs, SqT.of (F'.bh _ _ hp)⟩, q _ H' B' F' s ⟨by rw [← Paired.len kp]; exact F'.sz _ _ (F'.bh _ _ hp), fun H2 B2 s1 s2 => ?_, fun i H2 B2 s1 s2 hi => ?_, fun i x H2 B2 v H3 s1 s2 hx hy A σ Γ F => ?_⟩⟩
  · exact ⟨vs, SqT.of (s2 _ _ (s1 _ _ hp)), by rw [Paired.len kp]; exact Nat.le_refl _⟩
  · obtain ⟨y, hy⟩ : ∃ y, vs[i]? = some y := ⟨_, List.getElem?_eq_getElem (by rw [Paired.len kp]; exact hi)⟩
    exact ⟨vs, y, SqT.of (s2 _ _ (s1 _ _ hp)), hy⟩
  · obtain ⟨rfl, hv⟩ := hy
    obtain ⟨y, hy, ky⟩ := Paired.getR kp hx
    have e := hv vs (SqT.of (s2 _ _ (s1 _ _ hp)))
    rw [hy] at e; cases e
    exact ⟨B2, F, Same.refl _, r.mono s1 ky⟩
/-- lo, lo + 1, .. -/
def rng (lo : Int) (n : Nat) : List Int := (List.range n).map fun (i : Nat) => lo + (i : Int)
theorem rng_len (lo : Int) (n : Nat) : (rng lo n).length = n := by unfold rng; rw [List.length_map, List.length_range]
theorem rng_get {lo : Int} {n i : Nat} {x : Int} (h : (rng lo n)[i]? = some x) : i < n ∧ x = lo + (i : Int) := by
  unfold rng at h
  rw [List.getElem?_map] at h
  cases e : (List.range n)[i]? with
  | none => rw [e] at h; cases h
  | some j =>
    rw [e] at h
    have hl : i < n := by have := (List.getElem?_eq_some_iff.mp e).1; rwa [List.length_range] at this
    rw [List.getElem?_range hl] at e
    cases e; cases h
    exact ⟨hl, rfl⟩
theorem yl_rng {Bx : Hp} {lo : Int} {n : Nat} (hn : n ≤ 1000000) : Yl Bx (Itr lo n) rInt (rng lo n) := ⟨by rw [rng_len]; exact Nat.le_trans hn (by decide), fun H B _ _ => by rw [rng_len]; exact Nat.le_refl _, fun i H B _ _ hi => by rw [rng_len] at hi; exact hi, fun i x H B v H' _ _ hx hy A σ Γ F => by
  obtain ⟨rfl, e⟩ := hy
  exact ⟨B, F, Same.refl _, by rw [(rng_get hx).2]; exact e⟩⟩
/-- range(j) -/
def pyRng (j : Int) : Option (List Int) := if -(2 ^ 62) ≤ j ∧ j ≤ 1000000 then some (rng 0 j.toNat) else none
def pyRng2 (i j : Int) : Option (List Int) := if (-(2 ^ 62) ≤ i ∧ i < 2 ^ 62 ∧ -(2 ^ 62) ≤ j ∧ j < 2 ^ 62) ∧ j - i ≤ 1000000 then some (rng i (j - i).toNat) else none
theorem it_rng1 {ta : TA} {j : Int} {l : List Int} (h : EvW (w1 rInt) ta Γ Γ1 j) (e : pyRng j = some l) : ItX rInt (iRng1 ta) Γ Γ1 l := fun A σ H B F R q => h A σ H B F _ fun vs H' B' F' s k => by
  obtain ⟨v, rfl, rfl⟩ := k
  unfold pyRng at e
  split at e
  · rename_i hj
    cases e
    exact ⟨j, rfl, hj.1, by omega, q _ H' B' F' s (yl_rng (by omega))⟩
  · cases e
theorem it_rng2 {ta : TA} {i j : Int} {l : List Int} (h : EvW (wC rInt (w1 rInt)) ta Γ Γ1 (i, j)) (e : pyRng2 i j = some l) : ItX rInt (iRng2 ta) Γ Γ1 l := fun A σ H B F R q => h A σ H B F _ fun vs H' B' F' s k => by
  obtain ⟨v, t, rfl, rfl, u, rfl, rfl⟩ := k
  unfold pyRng2 at e
  split at e
  · rename_i hj
    cases e
    exact ⟨i, j, rfl, hj.1, q _ H' B' F' s (yl_rng (by omega))⟩
  · cases e
/-- a text's signs -/
def sgn (z : Str) : List Str := z.cps.toList.map fun c => (⟨#[c]⟩ : Str)
def pySgn (z : Str) : Option (List Str) := if z.length ≤ 1000000 then some (sgn z) else none
theorem it_str {z : Str} {l : List Str} (h : EvX rStr te Γ Γ1 z) (e : pySgn z = some l) : ItX rStr (iStr te) Γ Γ1 l := fun A σ H B F R q => h A σ H B F _ fun v H' B' F' s k => by
  unfold pySgn at e
  split at e <;> cases e
  rename_i hz
  refine ⟨z, k, q _ H' B' F' s ⟨by unfold sgn; rw [List.length_map, Array.length_toList]; exact Nat.le_trans hz (by decide), fun H2 B2 _ _ => ?_, fun i H2 B2 _ _ hi => ?_, fun i x H2 B2 v H3 _ _ hx hy A σ Γ F => ?_⟩⟩
  · unfold sgn; rw [List.length_map]; first | exact rfl | exact Nat.le_refl _ | (simp [Its, Str.length])
  · unfold sgn at hi; rw [List.length_map] at hi; simpa [Its, Str.length] using hi
  · unfold sgn at hx
    rw [List.getElem?_map] at hx
    obtain ⟨rfl, hv⟩ := hy
    obtain ⟨c, hc, ev⟩ := hv
    have hc' : z.cps.toList[i]? = some c := by first | exact hc | simpa using hc
    rw [hc'] at hx
    cases hx
    exact ⟨B2, F, Same.refl _, ev⟩
/-! ### targets -/
theorem tg_name {j : Nat} : TgX (gName j) r [j] Γ (fun x => Γ.set j (.imm r x)) := fun A σ H B v x F k Q q => q _ (F.set k) (by rw [List.length_set]) fun n hn => by
  rw [List.getElem?_set_ne (fun e => hn (by rw [e]; exact List.mem_singleton.mpr rfl))]
/-- a tuple's parts -/
def TgW {α : Type} (g : TGs) (w : Rw α) (vs : List Nat) (Γ : List Sl) (Γf : α → List Sl) : Prop := ∀ (A : Amb) (σ : L2.St) (H B : Hp) (us : List V) (x : α), Frm A σ H B Γ → w.rel B us x → ∀ Q : L2.St → Hp → Prop,
  (∀ σ', Frm A σ' H B (Γf x) → σ'.length = σ.length → (∀ k, k ∉ vs → σ'[k]? = σ[k]?) → Q σ' H) → g us σ H Q
theorem tw_1 {g : TG} {vs : List Nat} {Γf : α → List Sl} (h : TgX g r vs Γ Γf) : TgW (gCons g gNil) (w1 r) vs Γ Γf := fun A σ H B us x F k Q q => by
  obtain ⟨v, rfl, k⟩ := k
  exact ⟨v, [], rfl, h A σ H B v x F k _ fun σ' F' l d => ⟨rfl, q σ' F' l d⟩⟩
theorem tw_C {g : TG} {gs : TGs} {w : Rw β} {vs ws : List Nat} {Γf : α → List Sl} {Γg : α → β → List Sl} (h : TgX g r vs Γ Γf) (hr : ∀ x, TgW gs w ws (Γf x) (Γg x)) : TgW (gCons g gs) (wC r w) (vs ++ ws) Γ (fun x => Γg x.1 x.2) := fun A σ H B us x F k Q q => by
  obtain ⟨v, t, rfl, k1, k2⟩ := k
  exact ⟨v, t, rfl, h A σ H B v x.1 F k1 _ fun σ' F' l d => hr x.1 A σ' H B t x.2 F' k2 _ fun σ2 F2 l2 d2 => q σ2 F2 (l2.trans l) fun k hk =>
    (d2 k fun z => hk (List.mem_append_right _ z)).trans (d k fun z => hk (List.mem_append_left _ z))⟩
theorem tg_tup {g : TGs} {n m : Nat} {w : Rw α} [i : WLen w m] {vs : List Nat} {Γf : α → List Sl} (h : TgW g w vs Γ Γf) (e : m = n := by rfl) : TgX (gTup K n g) (rTup w) vs Γ Γf := fun A σ H B v x F k Q q => by
  obtain ⟨p, us, rfl, hp, kw⟩ := ob_tup F.bh k
  exact ⟨p, us, rfl, SqT.of hp, (i.len kw).trans e, h A σ H B us x F kw Q q⟩
theorem nx_asgT {A : Amb} {D : Ends} {g : TG} {vs : List Nat} {Γf : α → List Sl} {a : α} (h : EvX r te Γ Γ1 a) (hg : TgX g r vs Γ1 Γf) (k : Nx A D.nx (Γf a)) : Nx A (tAsg te g D) Γ := fun σ H B F => h A σ H B F _ fun v H' B' F' _ q =>
  hg A σ H' B' v a F' q _ fun σ' F2 _ _ => k σ' H' B' F2

/-! ### for -/
def Amb.and (A : Amb) (Bx : Hp) : Amb := ⟨A.B0, A.H0, A.m, fun B => A.φ B ∧ Same Bx B, fun B B' s h => ⟨A.up B B' s h.1, h.2.trans s⟩⟩
theorem Post.and {A : Amb} {H B Bx : Hp} (P : Post A H B) (s : Same Bx B) : Post (A.and Bx) H B := ⟨P.bh, P.b0, P.keep, P.out, P.alive, P.sub, P.mh, ⟨P.ph, s⟩, P.sz⟩
theorem Post.unand {A : Amb} {H B Bx : Hp} (P : Post (A.and Bx) H B) : Post A H B := ⟨P.bh, P.b0, P.keep, P.out, P.alive, P.sub, P.mh, P.ph.1, P.sz⟩
theorem Frm.and {A : Amb} {σ : L2.St} {H B Bx : Hp} {Γ : List Sl} (F : Frm A σ H B Γ) (s : Same Bx B) : Frm (A.and Bx) σ H B Γ := by obtain ⟨ow, W⟩ := F.own; exact ⟨F.post.and s, F.len, ow, W.so, W.dj, W.ht⟩
theorem Frm.unand {A : Amb} {σ : L2.St} {H B Bx : Hp} {Γ : List Sl} (F : Frm (A.and Bx) σ H B Γ) : Frm A σ H B Γ := by obtain ⟨ow, W⟩ := F.own; exact ⟨F.post.unand, F.len, ow, W.so, W.dj, W.ht⟩
/-- what a body must do: from s with the step st -/
structure Conts {ρ ς : Type} (A : Amb) (ψ : ρ → Hp → Hp → V → Prop) (D : Ends) (mk : ς → List Sl) (st : Step ρ ς) : Prop where
  nx : ∀ s, st = .nx s → Nx A D.nx (mk s)
  ct : ∀ s, st = .nx s → Nx A D.ct (mk s)
  bk : ∀ s, st = .brk s → Nx A D.bk (mk s)
  rt : ∀ b, st = .ret b → Rt A ψ b D.rt
theorem nx_for {A : Amb} {ψ : ρ → Hp → Hp → V → Prop} {wi : TI} {g : TG} {tb : TS} {D : Ends} {vs : List Nat} (f : α → ς → Option (Step ρ ς)) (mk : ς → List Sl) {Γf : α → ς → List Sl} {s0 : ς} {R0 : Step ρ ς}
    (hi : ItX r wi Γ Γ1 xs) (e : forL f xs s0 = some R0) (h0 : ∀ A' : Amb, A'.m = A.m → Nx A' (Fin A' (mk s0)) Γ1)
    (hg : ∀ s, TgX g r vs (mk s) (fun x => Γf x s))
    (hb : ∀ (A' : Amb) (D' : Ends) (x : α) (s : ς) (st : Step ρ ς), A'.m = A.m → f x s = some st → Conts A' ψ D' mk st → Nx A' (tb D') (Γf x s))
    (hr : ∀ b, R0 = .ret b → Rt A ψ b D.rt) (hd : ∀ s, R0 = .nx s → Nx A D.nx (mk s)) : Nx A (tFor wi g tb D) Γ := fun σ H B F => by
  refine hi A σ H B F _ fun J H1 B1 F1 s1 Y => ?_
  refine ⟨fun i m σ H => m = xs.length - i ∧ i ≤ xs.length ∧ ∃ B s, Frm (A.and B1) σ H B (mk s) ∧ forL f (xs.drop i) s = some R0, ?_, ?_⟩
  · obtain ⟨B2, F2⟩ := h0 (A.and B1) rfl σ H1 B1 (F1.and (Same.refl _))
    exact ⟨_, rfl, Nat.zero_le _, B2, s0, F2, by rw [List.drop_zero]; exact e⟩
  · rintro i m σ2 H2 ⟨rfl, hi, B2, s2, F2, e2⟩
    by_cases hlt : i < xs.length
    · right
      have hx : xs[i]? = some xs[i] := List.getElem?_eq_getElem hlt
      rw [List.drop_eq_getElem_cons hlt] at e2
      refine ⟨Y.go i H2 B2 F2.ph.2 F2.bh hlt, fun σ3 H3 => ∃ s3, Fin (A.and B1) (mk s3) σ3 H3 ∧ forL f (xs.drop (i + 1)) s3 = some R0, fun σ3 H3 ⟨s3, ⟨B3, F3⟩, e3⟩ => ⟨_, by omega, rfl, by omega, B3, s3, F3, e3⟩, fun v H3 hy => ?_⟩
      obtain ⟨B3, F3, s3, k3⟩ := Y.yld i _ H2 B2 v H3 F2.ph.2 F2.bh hx hy (A.and B1) σ2 (mk s2) F2
      refine hg s2 (A.and B1) σ2 H3 B3 v xs[i] F3 k3 _ fun σ4 F4 _ _ => ?_
      unfold forL at e2
      cases q : f xs[i] s2 with
      | none => rw [q] at e2; cases e2
      | some st =>
        rw [q] at e2
        refine hb (A.and B1) _ xs[i] s2 st rfl q ⟨fun s5 z => ?_, fun s5 z => ?_, fun s5 z => ?_, fun b z => ?_⟩ σ4 H3 B3 F4
        · subst z
          exact fun σ5 H5 B5 F5 => ⟨s5, ⟨B5, F5⟩, e2⟩
        · subst z
          exact fun σ5 H5 B5 F5 => ⟨s5, ⟨B5, F5⟩, e2⟩
        · subst z
          exact fun σ5 H5 B5 F5 => hd s5 (Option.some.inj e2).symm σ5 H5 B5 F5.unand
        · subst z
          exact fun H5 B5 v5 P5 k5 => hr b (Option.some.inj e2).symm H5 B5 v5 P5.unand k5
    · left
      have hil : i = xs.length := by omega
      subst hil
      refine ⟨Y.stop H2 B2 F2.ph.2 F2.bh, ?_⟩
      rw [List.drop_length] at e2
      unfold forL at e2
      exact hd s2 (Option.some.inj e2).symm σ2 H2 B2 F2.unand
/-- while, by how many turns are left at most -/
theorem nx_while {A : Amb} {ψ : ρ → Hp → Hp → V → Prop} {tt : TT} {tb : TS} {D : Ends} (c : ς → Option Bool) (f : ς → Option (Step ρ ς)) (mk : ς → List Sl) {s0 : ς} {R0 : Step ρ ς} {n : Nat}
    (e : whL c f n s0 = some R0) (h0 : Nx A (Fin A (mk s0)) Γ) (ht : ∀ s b, c s = some b → EvT tt (mk s) (mk s) b)
    (hb : ∀ (D' : Ends) (s : ς) (st : Step ρ ς), c s = some true → f s = some st → Conts A ψ D' mk st → Nx A (tb D') (mk s))
    (hr : ∀ b, R0 = .ret b → Rt A ψ b D.rt) (hd : ∀ s, R0 = .nx s → Nx A D.nx (mk s)) : Nx A (tWhile tt tb D) Γ := fun σ H B F => by
  refine ⟨fun m σ H => ∃ B s, Frm A σ H B (mk s) ∧ whL c f m s = some R0, ?_, ?_⟩
  · obtain ⟨B1, F1⟩ := h0 σ H B F
    exact ⟨n, B1, s0, F1, e⟩
  · rintro m σ1 H1 ⟨B1, s1, F1, e1⟩
    cases m with
    | zero => cases e1
    | succ m =>
      unfold whL at e1
      cases q : c s1 with
      | none => rw [q] at e1; cases e1
      | some b =>
        rw [q] at e1
        refine ht s1 b q A σ1 H1 B1 F1 _ fun H2 B2 F2 s2 => ?_
        cases b with
        | false => exact hd s1 (Option.some.inj e1).symm σ1 H2 B2 F2
        | true =>
          refine ⟨fun σ3 H3 => ∃ s3, Fin A (mk s3) σ3 H3 ∧ whL c f m s3 = some R0, fun σ3 H3 ⟨s3, ⟨B3, F3⟩, e3⟩ => ⟨m, Nat.lt_succ_self m, B3, s3, F3, e3⟩, ?_⟩
          cases q2 : f s1 with
          | none => rw [q2] at e1; cases e1
          | some st =>
            rw [q2] at e1
            refine hb _ s1 st q q2 ⟨fun s5 z => ?_, fun s5 z => ?_, fun s5 z => ?_, fun b z => ?_⟩ σ1 H2 B2 F2
            · subst z
              exact fun σ5 H5 B5 F5 => ⟨s5, ⟨B5, F5⟩, e1⟩
            · subst z
              exact fun σ5 H5 B5 F5 => ⟨s5, ⟨B5, F5⟩, e1⟩
            · subst z
              exact hd s5 (Option.some.inj e1).symm
            · subst z
              exact hr b (Option.some.inj e1).symm

/-! ### comprehensions -/
theorem Frm.hidset {A : Amb} {σ : L2.St} {H B : Hp} {Γ : List Sl} {p : Addr} {o o' : HO} (F : Frm (A.add p o) σ H B Γ) (h0 : A.H0 p = none) (hm : ¬ A.m p) (sub : Same A.B0 A.H0) (ho : szO o') : Frm (A.add p o') σ (upd H p o') B Γ := by
  have hBp : B p = none := F.hidB h0 sub
  refine F.move ⟨fun b u e => ?_, F.b0, fun b u m e => ?_, fun b n z => ?_, fun b n => ?_, fun b u e => ?_, fun b m => ?_, F.ph, F.sz.upd ho⟩ (Same.refl _) fun q h => ⟨h.1, ?_, fun u hu => by rw [upd_ne (h.ne hm)]; exact hu⟩
  · have hb : b ≠ p := fun z => by rw [z, hBp] at e; cases e
    rw [upd_ne hb]; exact F.bh b u e
  · by_cases hb : b = p
    · subst hb
      have e' : upd A.H0 b o' b = some u := e
      rw [upd_same] at e'; rw [upd_same]; exact e'
    · have e' : upd A.H0 p o' b = some u := e
      rw [upd_ne hb] at e'; rw [upd_ne hb]
      exact F.keep b u m (by show upd A.H0 p o b = some u; rw [upd_ne hb]; exact e')
  · by_cases hb : b = p
    · rw [hb]; exact hBp
    · have n' : upd A.H0 p o' b ≠ none := n
      rw [upd_ne hb] at n'
      exact F.out b (by show upd A.H0 p o b ≠ none; rw [upd_ne hb]; exact n') z
  · by_cases hb : b = p
    · subst hb; rw [upd_same]; simp
    · have n' : upd A.H0 p o' b ≠ none := n
      rw [upd_ne hb] at n'; rw [upd_ne hb]
      exact F.alive b (by show upd A.H0 p o b ≠ none; rw [upd_ne hb]; exact n')
  · have hb : b ≠ p := fun z => by rw [z] at e; exact absurd (sub p u e) (by rw [h0]; simp)
    show upd A.H0 p o' b = some u
    rw [upd_ne hb]; exact sub b u e
  · have hb : b ≠ p := fun z => by rw [z] at m; exact hm m
    show upd A.H0 p o' b ≠ none
    rw [upd_ne hb]
    have := F.mh b m
    have t : upd A.H0 p o b ≠ none := this
    rw [upd_ne hb] at t; exact t
  · have hq := h.ne hm
    rcases h.2.2 with m | m
    · left
      have m' : upd A.H0 p o q = none := m
      rw [upd_ne hq] at m'
      show upd A.H0 p o' q = none
      rw [upd_ne hq]; exact m'
    · exact .inr m
/-- slots emptied -/
def wipeG (Γ : List Sl) : List Nat → List Sl
  | [] => Γ
  | v :: vs => (wipeG Γ vs).set v .no
theorem Frm.wipe {A : Amb} {σ : L2.St} {H B : Hp} {Γ : List Sl} (F : Frm A σ H B Γ) : ∀ vs : List Nat, Frm A (L2.wipe σ vs) H B (wipeG Γ vs)
  | [] => F
  | v :: vs => (F.wipe vs).put (σ' := (L2.wipe σ vs).set v none) (List.length_set) (fun j ne => by rw [List.getElem?_set_ne ne]) fun _ _ _ => trivial
theorem wipe_get (σ : L2.St) : ∀ (vs : List Nat) (k : Nat), (L2.wipe σ vs)[k]? = if k ∈ vs then (if k < σ.length then some none else none) else σ[k]?
  | [], k => by simp [L2.wipe]
  | v :: vs, k => by
    show ((L2.wipe σ vs).set v none)[k]? = _
    by_cases e : v = k
    · subst e
      rw [List.getElem?_set, if_pos rfl, if_pos (List.mem_cons_self), L2.wipe_length]
    · rw [List.getElem?_set_ne e, wipe_get σ vs k]
      have : (k ∈ v :: vs) ↔ k ∈ vs := by
        rw [List.mem_cons]; exact ⟨fun h => h.resolve_left fun z => e z.symm, .inr⟩
      simp only [this]
theorem wipe_same {σ σ' : L2.St} {vs : List Nat} (hl : σ'.length = σ.length) (h : ∀ k, k ∉ vs → σ'[k]? = σ[k]?) : L2.wipe σ' vs = L2.wipe σ vs := by
  apply List.ext_getElem?
  intro k
  rw [wipe_get, wipe_get, hl]
  by_cases hk : k ∈ vs
  · rw [if_pos hk, if_pos hk]
  · rw [if_neg hk, if_neg hk]; exact h k hk
theorem wipe_wipe {σ σ' : L2.St} {vs : List Nat} (hl : σ'.length = (L2.wipe σ vs).length) (h : ∀ k, k ∉ vs → σ'[k]? = (L2.wipe σ vs)[k]?) : L2.wipe σ' vs = L2.wipe σ vs :=
  wipe_same (by rw [hl, L2.wipe_length]) fun k hk => by rw [h k hk, wipe_get, if_neg hk]
theorem Frm.unwipe {A : Amb} {σ : L2.St} {H B : Hp} {Γ : List Sl} {vs : List Nat} (F : Frm A (L2.wipe σ vs) H B Γ) (hv : wipeG Γ vs = Γ) : Frm A σ H B Γ := by
  have no : ∀ (ws : List Nat) (k : Nat) (s : Sl), k ∈ ws → (wipeG Γ ws)[k]? = some s → s = .no := by
    intro ws
    induction ws with
    | nil => intro k s hk; cases hk
    | cons v ws ih =>
      intro k s hk e
      unfold wipeG at e
      rcases getset e with ⟨rfl, rfl, _⟩ | ⟨ne, e⟩
      · rfl
      · exact ih k s ((List.mem_cons.mp hk).resolve_left fun z => ne z.symm) e
  obtain ⟨ow, W⟩ := F.own
  refine ⟨F.post, by rw [← F.len, L2.wipe_length], ow, fun i s e => ?_, W.dj, W.ht⟩
  by_cases hi : i ∈ vs
  · have := no vs i s hi (by rw [hv]; exact e)
    subst this; trivial
  · exact slok_shift (W.so i s e) (by rw [wipe_get, if_neg hi])
/-- [e for x in xs if t], the state of the frame's own objects threaded -/
theorem ec_lcS {wi : TI} {g : TG} {tt : TT} {te : TE} {ws vs : List Nat} (f : α → ς → Option (Option β × ς)) (mk : ς → List Sl) {Γf : α → ς → List Sl} {s0 s1 : ς} {ys : List β}
    (hi : ItX r wi Γ Γ1 xs) (e : compS f xs s0 = some (ys, s1)) (h0 : ∀ A' : Amb, Nx A' (Fin A' (mk s0)) Γ1) (hv : ∀ s, wipeG (mk s) vs = mk s) (hg : ∀ s, TgX g r ws (mk s) (fun x => Γf x s)) (hw : ∀ k, k ∈ ws → k ∈ vs) (hm : ∀ x s, wipeG (Γf x s) vs = mk s)
    (hb : ∀ (x : α) (s : ς) (o : Option β) (s' : ς), f x s = some (o, s') → ∃ s2, EvT tt (Γf x s) (Γf x s2) o.isSome ∧ (∀ y, o = some y → EvX rb te (Γf x s2) (Γf x s') y) ∧ (o = none → s2 = s')) :
    EvC (cLst rb) (tLc wi g tt te vs) Γ (mk s1) ys := fun A σ H B F Q q => by
  refine hi A σ H B F _ fun J H1 B1 F1 sB1 Y => fun D hD => ?_
  obtain ⟨B2, F2⟩ := h0 (A.and B1) σ H1 B1 (F1.and (Same.refl _))
  have h0D : A.H0 D = none := F1.H0none hD
  have hmD : ¬ A.m D := fun m => F.mh D m h0D
  have F3 := F2.wipe vs
  rw [hv] at F3
  have F4 := F3.fresh (o := .lst []) hD (Nat.zero_le _)
  refine ⟨fun i m H => m = xs.length - i ∧ i ≤ xs.length ∧ ∃ B s acc dn rest, Frm ((A.and B1).add D (.lst acc)) (L2.wipe σ vs) H B (mk s) ∧ Paired (rb.rel B) acc dn ∧ acc.length ≤ i ∧ compS f (xs.drop i) s = some (rest, s1) ∧ dn ++ rest = ys, ?_, ?_⟩
  · exact ⟨_, rfl, Nat.zero_le _, B2, s0, [], [], ys, F4, .nil, Nat.le_refl _, by rw [List.drop_zero]; exact e, rfl⟩
  · rintro i m H2 ⟨rfl, hil, B3, s2, acc, dn, rest, F5, pa, hacc, e2, ed⟩
    by_cases hlt : i < xs.length
    · right
      have hx : xs[i]? = some xs[i] := List.getElem?_eq_getElem hlt
      rw [List.drop_eq_getElem_cons hlt] at e2
      refine ⟨Y.go i H2 B3 F5.ph.2 F5.bh hlt, fun H3 => ∃ B s acc dn rest, Frm ((A.and B1).add D (.lst acc)) (L2.wipe σ vs) H3 B (mk s) ∧ Paired (rb.rel B) acc dn ∧ acc.length ≤ i + 1 ∧ compS f (xs.drop (i + 1)) s = some (rest, s1) ∧ dn ++ rest = ys, fun H3 h3 => ⟨_, by omega, rfl, by omega, h3⟩, fun v H3 hy => ?_⟩
      obtain ⟨B4, F6, sB4, k4⟩ := Y.yld i _ H2 B3 v H3 F5.ph.2 F5.bh hx hy _ _ _ F5
      refine hg s2 _ _ H3 B4 v xs[i] F6 k4 _ fun σ4 F7 hl4 d4 => ⟨wipe_wipe hl4 fun k hk => d4 k fun z => hk (hw k z), ?_⟩
      have hwp := wipe_wipe hl4 fun k hk => d4 k fun z => hk (hw k z)
      unfold compS at e2
      cases q2 : f xs[i] s2 with
      | none => rw [q2] at e2; cases e2
      | some os =>
        obtain ⟨o, s'⟩ := os
        rw [q2] at e2
        obtain ⟨s3, hT, hE, hN⟩ := hb _ _ _ _ q2
        refine hT _ _ _ _ F7 _ fun H5 B5 F8 sB5 => ?_
        cases o with
        | none =>
          have F9 := F8.wipe vs
          rw [hm, hwp] at F9
          exact ⟨B5, s3, acc, dn, rest, F9, Paired.monoR (sB4.trans sB5) pa, by omega, by rw [hN rfl]; exact e2, ed⟩
        | some y =>
          refine hE y rfl _ _ _ _ F8 _ fun u H6 B6 F9 sB6 k6 => ?_
          have hid := F9.hid (A := A.and B1) h0D hmD
          refine ⟨acc, hid, Nat.lt_of_lt_of_le (Nat.lt_of_le_of_lt hacc hlt) Y.len, ?_⟩
          have F10 := F9.wipe vs
          rw [hm, hwp] at F10
          have hlen : (acc ++ [u]).length ≤ sizeLine := by rw [List.length_append, List.length_singleton]; exact Nat.le_trans (by omega) Y.len
          have F11 := F10.hidset (A := A.and B1) (o' := .lst (acc ++ [u])) h0D hmD F.sub hlen
          dsimp only at e2
          cases q3 : compS f (xs.drop (i + 1)) s' with
          | none => rw [q3] at e2; cases e2
          | some z =>
            obtain ⟨r3, s4⟩ := z
            rw [q3] at e2
            cases e2
            exact ⟨B6, s', acc ++ [u], dn ++ [y], r3, F11, Paired.app (Paired.monoR ((sB4.trans sB5).trans sB6) pa) (.cons k6 .nil), by rw [List.length_append, List.length_singleton]; omega, q3, by rw [← ed, List.append_assoc]; rfl⟩
    · left
      have hil : i = xs.length := by omega
      subst hil
      refine ⟨Y.stop H2 B3 F5.ph.2 F5.bh, ?_⟩
      rw [List.drop_length] at e2
      unfold compS at e2
      cases e2
      have F6 := F5.unwipe (hv _)
      have F7 : Frm ((A.add D (.lst acc)).and B1) σ H2 B3 _ := F6
      refine q D (.lst acc) H2 B3 F7.unand h0D (sB1.trans F5.ph.2) ⟨acc, rfl, ?_⟩
      rw [List.append_nil] at ed
      rw [← ed]; exact pa
theorem compS_L (f : α → Option (Option β)) : ∀ {xs : List α} {ys : List β}, compL f xs = some ys → compS (fun x (_ : Unit) => (f x).map fun o => (o, ())) xs () = some (ys, ())
  | [], ys, h => by unfold compL at h; cases h; rfl
  | x :: xs, ys, h => by
    unfold compL at h
    unfold compS
    cases q : f x with
    | none => rw [q] at h; cases h
    | some o =>
      rw [q] at h
      cases o with
      | none => exact compS_L f h
      | some y =>
        cases q2 : compL f xs with
        | none => rw [q2] at h; cases h
        | some zs =>
          rw [q2] at h
          cases h
          have := compS_L f q2
          dsimp only [Option.map_some]
          rw [this]
theorem ec_lc {wi : TI} {g : TG} {tt : TT} {te : TE} {ws vs : List Nat} (f : α → Option (Option β)) {Γf : α → List Sl} {ys : List β}
    (hi : ItX r wi Γ Γ1 xs) (e : compL f xs = some ys) (hg : TgX g r ws (wipeG Γ1 vs) Γf) (hw : ∀ k, k ∈ ws → k ∈ vs) (hv : wipeG Γ1 vs = Γ1) (hm : ∀ x, wipeG (Γf x) vs = Γ1)
    (hb : ∀ (x : α) (o : Option β), f x = some o → EvT tt (Γf x) (Γf x) o.isSome ∧ (∀ y, o = some y → EvX rb te (Γf x) (Γf x) y)) : EvC (cLst rb) (tLc wi g tt te vs) Γ Γ1 ys :=
  ec_lcS (ς := Unit) _ (fun _ => Γ1) (Γf := fun x _ => Γf x) hi (compS_L f e) (fun A' => nx_fin) (fun _ => hv) (fun _ => by rw [hv] at hg; exact hg) hw (fun x _ => hm x) fun x s o s' h => by
    cases q : f x with
    | none => simp [q] at h
    | some o' =>
      simp [q] at h
      subst h
      exact ⟨s, (hb x o' q).1, fun y hy => (hb x o' q).2 y hy, fun _ => rfl⟩
/-- no test -/
theorem et_yes {Γ : List Sl} : EvT tYes Γ Γ true := fun A σ H B F Q q => q H B F (Same.refl _)
end
end G

set_option maxHeartbeats 4000000
/-! # G: built-ins, the frame's own objects -/
namespace G
open PySem PySem.Spec PyProof.Rows L2
section
variable {α β γ ρ ς : Type} {r ra : Rp α} {rb : Rp β} {c : Cl α} {te ta tb : TE} {Γ Γ1 Γ2 Γ3 : List Sl} {xs : List α} {K : PySem.W.Frag} {a : α} {b : β} {w : Rw α} {p : Addr} {i : Nat}
/-- a list that the program was handed -/
def rScr (K : PySem.W.Frag) : Rp (List Int) := ⟨fun H v ns => ∃ a, v = .ref a ∧ SqL K H a (ns.map V.int), fun s ⟨a, e, h⟩ => ⟨a, e, s.seq h⟩⟩
/-! ### partial operations -/
def pyMod (i j : Int) : Option Int := if 0 < j then some (i % j) else none
def pyDiv (i j : Int) : Option Int := if 0 < j ∧ j.natAbs.log2 < 9000 then some (i / j) else none
def pyMul (i j : Int) : Option Int := if (-(2 ^ 64) < i ∧ i < 2 ^ 64) ∨ (-(2 ^ 64) < j ∧ j < 2 ^ 64) then some (i * j) else none
def pyPow (i j : Int) : Option Int := if 0 ≤ j ∧ j ≤ 1000000 ∧ i.natAbs < 2 ^ 64 then some (i ^ j.toNat) else none
def pyLenS (z : Str) : Option Int := if z.length ≤ sizeLine then some (z.length : Int) else none
def pyAddS (x y : Str) : Option Str := if x.length + y.length ≤ sizeLine then some (x ++ y) else none
def pyIxS (z : Str) (i : Int) : Option Str := if z.length ≤ sizeLine then (atI z.cps.toList i).map fun c => (⟨#[c]⟩ : Str) else none
def pySlS (z : Str) (lo hi : Option Int) : Option Str := if z.length ≤ sizeLine then some (Txt.slice z lo hi) else none
def pyInSg (x z : Str) : Option Bool := match x.cps.toList with
  | [c] => some (decide (c ∈ z.cps.toList))
  | _ => none
theorem ev_modP {i j k : Int} (ha : EvX rInt ta Γ Γ1 i) (hb : EvX rInt tb Γ1 Γ2 j) (e : pyMod i j = some k) : EvX rInt (tOp (rI (fun _ j => 0 < j) fun i j => .int (i % j)) ta tb) Γ Γ2 k := by
  unfold pyMod at e; split at e <;> cases e
  exact ev_mod ha hb (by assumption)
theorem ev_divP {i j k : Int} (ha : EvX rInt ta Γ Γ1 i) (hb : EvX rInt tb Γ1 Γ2 j) (e : pyDiv i j = some k) : EvX rInt (tOp (rI CDivW fun i j => .int (i / j)) ta tb) Γ Γ2 k := by
  unfold pyDiv at e; split at e <;> cases e
  exact ev_divW ha hb (by assumption)
theorem ev_mulP {i j k : Int} (ha : EvX rInt ta Γ Γ1 i) (hb : EvX rInt tb Γ1 Γ2 j) (e : pyMul i j = some k) : EvX rInt (tOp (rI CMul fun i j => .int (i * j)) ta tb) Γ Γ2 k := by
  unfold pyMul at e; split at e <;> cases e
  exact ev_mul ha hb (by assumption)
theorem ev_powP {i j k : Int} (ha : EvX rInt ta Γ Γ1 i) (hb : EvX rInt tb Γ1 Γ2 j) (e : pyPow i j = some k) : EvX rInt (tOp (rI CPow fun i j => .int (i ^ j.toNat)) ta tb) Γ Γ2 k := by
  unfold pyPow at e; split at e <;> cases e
  exact ev_pow ha hb (by assumption)
theorem ev_addS {x y z : Str} (ha : EvX rStr ta Γ Γ1 x) (hb : EvX rStr tb Γ1 Γ2 y) (e : pyAddS x y = some z) : EvX rStr (tOp (fun x y H Q => ∃ i j, x = .str i ∧ y = .str j ∧ i.length + j.length ≤ sizeLine ∧ Q (.str (i ++ j)) H) ta tb) Γ Γ2 z := by
  unfold pyAddS at e; split at e <;> cases e
  exact ev_op ha hb fun H B u v _ ku kv Q q => ⟨x, y, ku, kv, by assumption, q _ rfl⟩
theorem ev_ixS {z c : Str} {i : Int} (ha : EvX rStr ta Γ Γ1 z) (hb : EvX rInt tb Γ1 Γ2 i) (e : pyIxS z i = some c) : EvX rStr (tOp rIxS ta tb) Γ Γ2 c := by
  unfold pyIxS at e; split at e
  · rename_i hz
    cases q : atI z.cps.toList i with
    | none => rw [q] at e; cases e
    | some n =>
      rw [q] at e; cases e
      exact ev_op ha hb fun H B u v _ ku kv Q k => ⟨z, i, n, ku, kv, hz, q, k _ rfl⟩
  · cases e
theorem sg_of {x : Str} {c : Nat} (h : x.cps.toList = [c]) : x = ⟨#[c]⟩ := by
  cases x with
  | mk cps => simp only at h; congr 1; exact Array.toList_inj.mp h
theorem ev_inSg {x z : Str} {b : Bool} (ha : EvX rStr ta Γ Γ1 x) (hb : EvX rStr tb Γ1 Γ2 z) (e : pyInSg x z = some b) : EvX rBool (tOp (fun x y H Q => ∃ (c : Nat) (z : Str), x = .str ⟨#[c]⟩ ∧ y = .str z ∧ Q (.bl (decide (c ∈ z.cps.toList))) H) ta tb) Γ Γ2 b := by
  unfold pyInSg at e; split at e
  · rename_i c hc
    cases e
    exact ev_op ha hb fun H B u v _ ku kv Q k => ⟨c, z, by rw [ku, sg_of hc], kv, k _ rfl⟩
  · cases e
theorem ev_ninSg {x z : Str} {b : Bool} (ha : EvX rStr ta Γ Γ1 x) (hb : EvX rStr tb Γ1 Γ2 z) (e : pyInSg x z = some b) : EvX rBool (tOp (fun x y H Q => ∃ (c : Nat) (z : Str), x = .str ⟨#[c]⟩ ∧ y = .str z ∧ Q (.bl (!decide (c ∈ z.cps.toList))) H) ta tb) Γ Γ2 (!b) := by
  unfold pyInSg at e; split at e
  · rename_i c hc
    cases e
    exact ev_op ha hb fun H B u v _ ku kv Q k => ⟨c, z, by rw [ku, sg_of hc], kv, k _ rfl⟩
  · cases e
/-! ### slices -/
def EvO (t : TO) (Γ Γ' : List Sl) (o : Option Int) : Prop := ∀ (A : Amb) (σ : L2.St) (H B : Hp), Frm A σ H B Γ → ∀ Q : Option Int → Hp → Prop, (∀ H' B', Frm A σ H' B' Γ' → Same B B' → Q o H') → t σ H Q
theorem eo_none : EvO tNoPart Γ Γ none := fun A σ H B F Q q => q H B F (Same.refl _)
theorem eo_some {j : Int} (h : EvX rInt te Γ Γ1 j) : EvO (tPart te) Γ Γ1 (some j) := fun A σ H B F Q q => h A σ H B F _ fun v H' B' F' s k => ⟨j, k, q H' B' F' s⟩
theorem ev_slS {z y : Str} {lo hi : Option Int} {tl th : TO} (h : EvX rStr te Γ Γ1 z) (hl : EvO tl Γ1 Γ2 lo) (hh : EvO th Γ2 Γ3 hi) (e : pySlS z lo hi = some y) : EvX rStr (L2.tSl C8.rSlX te tl th) Γ Γ3 y := by
  unfold pySlS at e; split at e <;> cases e
  exact fun A σ H B F Q q => h A σ H B F _ fun v H1 B1 F1 s1 k1 => hl A σ H1 B1 F1 _ fun H2 B2 F2 s2 => hh A σ H2 B2 F2 _ fun H3 B3 F3 s3 => ⟨z, k1, by assumption, q _ H3 B3 F3 ((s1.trans s2).trans s3) rfl⟩
def cut {α : Type} (xs : List α) (lo hi : Option Int) : List α := (xs.drop (HT.sIx xs.length 0 lo)).take (HT.sIx xs.length xs.length hi - HT.sIx xs.length 0 lo)
theorem paired_cut {F : V → α → Prop} {vs : List V} {lo hi : Option Int} (h : Paired F vs xs) : Paired F (cutV vs lo hi) (cut xs lo hi) := by
  unfold cutV cut
  rw [Paired.len h]
  exact Paired.takeN _ (Paired.dropN _ h)
theorem cut_len (lo hi : Option Int) (vs : List V) : (cutV vs lo hi).length ≤ vs.length := by
  unfold cutV
  rw [List.length_take, List.length_drop]; omega
theorem ec_slL {lo hi : Option Int} {tl th : TO} (h : EvX (rLst r) te Γ Γ1 xs) (hl : EvO tl Γ1 Γ2 lo) (hh : EvO th Γ2 Γ3 hi) : EvC (cLst r) (L2.tSl (rSlL K) te tl th) Γ Γ3 (cut xs lo hi) :=
  fun A σ H B F Q q => h A σ H B F _ fun v H1 B1 F1 s1 k1 => hl A σ H1 B1 F1 _ fun H2 B2 F2 s2 => hh A σ H2 B2 F2 _ fun H3 B3 F3 s3 => by
    obtain ⟨a, vs, rfl, ha, pv⟩ := ob_lst F3.bh ((rLst r).mono (s2.trans s3) k1)
    exact ⟨a, vs, rfl, SqL.of ha, fun l hl => ec_fresh (c := cLst r) (o := .lst (cutV vs lo hi)) F3 hl (Nat.le_trans (cut_len lo hi vs) (F3.sz _ _ ha)) (fun p o H2 B2 F2 n2 s4 k2 => q p o H2 B2 F2 n2 (((s1.trans s2).trans s3).trans s4) k2) ⟨_, rfl, paired_cut pv⟩⟩
/-! ### built-ins of one argument -/
theorem ev_B1 {R : List V → Hp → VK → Prop} (h : EvX ra ta Γ Γ1 a) (k : ∀ (H B : Hp) (u : V), Sz H → Same B H → ra.rel B u a → ∀ Q : VK, (∀ o, rb.rel B o b → Q o H) → R [u] H Q) : EvX rb (tCB R (tCons ta tNil)) Γ Γ1 b := fun A σ H B F Q q =>
  h A σ H B F _ fun v H1 B1 F1 s1 k1 => k H1 B1 v F1.sz F1.bh k1 Q fun o ko => q o H1 B1 F1 s1 ko
theorem ec_B1 {R : List V → Hp → VK → Prop} {cb : Cl β} (h : EvX ra ta Γ Γ1 a) (k : ∀ (H B : Hp) (u : V), Sz H → Same B H → ra.rel B u a → ∀ Q : VK, (∀ p o, H p = none → szO o → cb.ok B o b → Q (.ref p) (upd H p o)) → R [u] H Q) : EvC cb (tCB R (tCons ta tNil)) Γ Γ1 b := fun A σ H B F Q q =>
  h A σ H B F _ fun v H1 B1 F1 s1 k1 => k H1 B1 v F1.sz F1.bh k1 Q fun p o hp ho ko => q p o _ B1 (F1.fresh hp ho) (F1.H0none hp) s1 ko
abbrev RLen (K : PySem.W.Frag) : List V → Hp → VK → Prop := fun xs H Q => ∃ p ys, xs = [.ref p] ∧ (SqL K H p ys ∨ SqT K H p ys) ∧ Q (.int ys.length) H
theorem ev_lenL (h : EvX (rLst r) ta Γ Γ1 xs) : EvX rInt (tCB (RLen K) (tCons ta tNil)) Γ Γ1 (xs.length : Int) := ev_B1 h fun H B u _ s k Q q => by
  obtain ⟨p, vs, rfl, hp, kv⟩ := ob_lst s k
  exact ⟨p, vs, rfl, .inl (SqL.of hp), q _ (by rw [Paired.len kv]; rfl)⟩
theorem ev_lenT (h : EvX (rTpl r) ta Γ Γ1 xs) : EvX rInt (tCB (RLen K) (tCons ta tNil)) Γ Γ1 (xs.length : Int) := ev_B1 h fun H B u _ s k Q q => by
  obtain ⟨p, vs, rfl, hp, kv⟩ := ob_tpl s k
  exact ⟨p, vs, rfl, .inr (SqT.of hp), q _ (by rw [Paired.len kv]; rfl)⟩
theorem ev_lenC {ns : List Int} (h : EvX (rScr K) ta Γ Γ1 ns) : EvX rInt (tCB (RLen K) (tCons ta tNil)) Γ Γ1 (ns.length : Int) := ev_B1 h fun H B u _ s k Q q => by
  obtain ⟨p, rfl, hp⟩ := k
  exact ⟨p, _, rfl, .inl (s.seq hp), q _ (by rw [List.length_map]; rfl)⟩
theorem ev_lenS {z : Str} {n : Int} (h : EvX rStr ta Γ Γ1 z) (e : pyLenS z = some n) : EvX rInt (tCB (fun xs H Q => ∃ z, xs = [.str z] ∧ z.length ≤ sizeLine ∧ Q (.int z.length) H) (tCons ta tNil)) Γ Γ1 n := by
  unfold pyLenS at e; split at e <;> cases e
  exact ev_B1 h fun H B u _ s k Q q => ⟨z, by rw [k], by assumption, q _ rfl⟩
theorem ev_int1 {j : Int} (h : EvX rInt ta Γ Γ1 j) : EvX rInt (tCB (fun xs H Q => (∃ i, xs = [.int i] ∧ Q (.int i) H) ∨ ∃ k, xs = [.bl k] ∧ Q (.int (if k then 1 else 0)) H) (tCons ta tNil)) Γ Γ1 j := ev_B1 h fun H B u _ s k Q q => .inl ⟨j, by rw [k], q _ rfl⟩
abbrev RList (K : PySem.W.Frag) : List V → Hp → VK → Prop := fun xs H Q => ∃ p ys, xs = [.ref p] ∧ (SqL K H p ys ∨ SqT K H p ys) ∧ ∀ l, H l = none → Q (.ref l) (upd H l (.lst ys))
theorem ec_listL (h : EvX (rLst r) ta Γ Γ1 xs) : EvC (cLst r) (tCB (RList K) (tCons ta tNil)) Γ Γ1 xs := ec_B1 h fun H B u z s k Q q => by
  obtain ⟨p, vs, rfl, hp, kv⟩ := ob_lst s k
  exact ⟨p, vs, rfl, .inl (SqL.of hp), fun l hl => q l _ hl (show vs.length ≤ sizeLine from z p _ hp) ⟨vs, rfl, kv⟩⟩
theorem ec_listT (h : EvX (rTpl r) ta Γ Γ1 xs) : EvC (cLst r) (tCB (RList K) (tCons ta tNil)) Γ Γ1 xs := ec_B1 h fun H B u z s k Q q => by
  obtain ⟨p, vs, rfl, hp, kv⟩ := ob_tpl s k
  exact ⟨p, vs, rfl, .inr (SqT.of hp), fun l hl => q l _ hl (show vs.length ≤ sizeLine from z p _ hp) ⟨vs, rfl, kv⟩⟩
theorem paired_ints : ∀ (ns : List Int) (B : Hp), Paired (rInt.rel B) (ns.map V.int) ns
  | [], _ => .nil
  | n :: ns, B => .cons rfl (paired_ints ns B)
def pyScr (ns : List Int) : Option (List Int) := if ns.length ≤ 100000 then some ns else none
theorem ec_listC {ns l : List Int} (h : EvX (rScr K) ta Γ Γ1 ns) (e : pyScr ns = some l) : EvC (cLst rInt) (tCB (RList K) (tCons ta tNil)) Γ Γ1 l := by
  unfold pyScr at e; split at e <;> cases e
  rename_i hl
  exact ec_B1 h fun H B u z s k Q q => by
    obtain ⟨p, rfl, hp⟩ := k
    exact ⟨p, _, rfl, .inl (s.seq hp), fun l hl => q l _ hl (by show (ns.map V.int).length ≤ _; rw [List.length_map]; exact Nat.le_trans (by assumption) (by decide)) ⟨_, rfl, paired_ints ns B⟩⟩
theorem ev_ixC {ns : List Int} {j v : Int} (ha : EvX (rScr K) ta Γ Γ1 ns) (hb : EvX rInt tb Γ1 Γ2 j) (e : atI ns j = some v) : EvX rInt (tOp (rIxL K) ta tb) Γ Γ2 v :=
  ev_op ha hb fun H B u w s ku kw Q q => by
    obtain ⟨p, rfl, hp⟩ := ku
    obtain ⟨o, ho, ko⟩ := atI_rel (paired_ints ns B) e
    exact ⟨p, _, j, o, rfl, kw, s.seq hp, ho, q o ko⟩
theorem ec_tupL (h : EvX (rLst r) ta Γ Γ1 xs) : EvC (cTpl r) (tCB (fun xs H Q => ∃ p ys, xs = [.ref p] ∧ ((SqL K H p ys ∧ ∀ l, H l = none → Q (.ref l) (upd H l (.tup ys))) ∨ (SqT K H p ys ∧ Q (.ref p) H))) (tCons ta tNil)) Γ Γ1 xs := ec_B1 h fun H B u z s k Q q => by
  obtain ⟨p, vs, rfl, hp, kv⟩ := ob_lst s k
  exact ⟨p, vs, rfl, .inl ⟨SqL.of hp, fun l hl => q l _ hl (show vs.length ≤ sizeLine from z p _ hp) ⟨vs, rfl, kv⟩⟩⟩
theorem ev_tupT (h : EvX (rTpl r) ta Γ Γ1 xs) : EvX (rTpl r) (tCB (fun xs H Q => ∃ p ys, xs = [.ref p] ∧ ((SqL K H p ys ∧ ∀ l, H l = none → Q (.ref l) (upd H l (.tup ys))) ∨ (SqT K H p ys ∧ Q (.ref p) H))) (tCons ta tNil)) Γ Γ1 xs := ev_B1 h fun H B u _ s k Q q => by
  obtain ⟨p, vs, e, hp, kv⟩ := ob_tpl s k
  exact ⟨p, vs, by rw [e], .inr ⟨SqT.of hp, by rw [← e]; exact q _ k⟩⟩
theorem ev_allL {bs : List Bool} (h : EvX (rLst rBool) ta Γ Γ1 bs) : EvX rBool (tCB (rAll K) (tCons ta tNil)) Γ Γ1 (bs.all id) := ev_B1 h fun H B u _ s k Q q => by
  obtain ⟨p, vs, rfl, hp, kv⟩ := ob_lst s k
  exact ⟨p, bs, rfl, by rw [← Paired.mapEq (fun a b h => h) kv]; exact SqL.of hp, q _ rfl⟩
/-! ### the frame's own objects -/
theorem cel_at {A : Amb} {σ : L2.St} {H B : Hp} (F : Frm A σ H B Γ) (h : Γ[i]? = some (.cel p c a)) : σ[i]? = some (some (V.ref p)) ∧ ∃ o, H p = some o ∧ c.ok B o a := by
  obtain ⟨e, _, _, o, ho, k⟩ := F.sl i _ h
  exact ⟨e, o, ho, k⟩
/-- an item of the frame's own list of known form -/
theorem ev_celR {k : Nat} {f : α → β} (h : Γ[i]? = some (.cel p (cHls w) a)) (g : Acc w k rb f) : EvX rb (tOp (rIxL K) (tVar i) (tC (.int (k : Int)))) Γ Γ (f a) := fun A σ H B F Q q => by
  obtain ⟨e, o, ho, vs, rfl, kw⟩ := cel_at F h
  obtain ⟨u, hu, ku⟩ := g B vs a kw
  exact ⟨_, e, p, vs, (k : Int), u, rfl, rfl, SqL.of ho, atI_nat hu, q u H B F (Same.refl _) ku⟩
/-- such an item is stored -/
def Upd {α β : Type} (w : Rw α) (k : Nat) (r : Rp β) (f : α → β → α) : Prop := ∀ B vs a v b, w.rel B vs a → r.rel B v b → k < vs.length ∧ w.rel B (vs.set k v) (f a b)
theorem upd1 : Upd (w1 ra) 0 ra (fun _ b => b) := fun B vs a v b ⟨u, e, _⟩ k => ⟨by rw [e]; exact Nat.zero_lt_one, v, by rw [e]; rfl, k⟩
theorem upd0 {w : Rw β} : Upd (wC ra w) 0 ra (fun a b => (b, a.2)) := fun B vs a v b ⟨u, t, e, _, q⟩ k => ⟨by rw [e, List.length_cons]; omega, v, t, by rw [e]; rfl, k, q⟩
theorem updS {w : Rw β} {rc : Rp γ} {k : Nat} {f : β → γ → β} (h : Upd w k rc f) : Upd (wC ra w) (k + 1) rc (fun a b => (a.1, f a.2 b)) := fun B vs a v b ⟨u, t, e, q1, q2⟩ kv => by
  obtain ⟨h1, h2⟩ := h B t a.2 v b q2 kv
  exact ⟨by rw [e, List.length_cons]; omega, u, t.set k v, by rw [e]; rfl, q1, h2⟩
theorem nx_setR {A : Amb} {D : Ends} {k : Nat} {f : α → β → α} (h : EvX rb te Γ Γ1 b) (hi : Γ1[i]? = some (.cel p (cHls w) a)) (g : Upd w k rb f) (n : Nx A D.nx (Γ1.set i (.cel p (cHls w) (f a b)))) : Nx A (tAsg te (gSub (tVar i) (tC (.int (k : Int))) rSetL) D) Γ := fun σ H B F =>
  h A σ H B F _ fun v H1 B1 F1 s1 k1 => by
    obtain ⟨e, o, ho, vs, rfl, kw⟩ := cel_at F1 hi
    obtain ⟨hk, kw'⟩ := g B1 vs a v b kw k1
    refine ⟨_, e, p, vs, (k : Int), k, rfl, rfl, ho, ?_, ?_⟩
    · unfold ixN; rw [if_pos (by omega), if_pos (by omega)]; simp
    · exact n σ _ B1 (F1.write hi (c' := cHls w) (o' := .lst (vs.set k v)) ⟨_, rfl, kw'⟩ (by show (vs.set k v).length ≤ _; rw [List.length_set]; exact F1.sz _ _ ho))
end
end G

set_option maxHeartbeats 4000000
/-! # G: how mirrors are written; small words -/
namespace G
open PySem PySem.Spec PyProof.Rows L2
section
variable {α β γ ρ ς τ : Type}
def bindO (e : Option α) (k : α → Option β) : Option β := match e with
  | none => none
  | some x => k x
def letO (e : α) (k : α → Option β) : Option β := k e
def iteO (c : Bool) (x y : Option β) : Option β := match c with
  | true => x
  | false => y
def stepO (R : Step ρ ς) (k : ς → Option ρ) : Option ρ := match R with
  | .ret b => some b
  | .nx s => k s
  | .brk _ => none
def stepL (R : Step ρ ς) (k : ς → Option (Step ρ τ)) : Option (Step ρ τ) := match R with
  | .ret b => some (.ret b)
  | .nx s => k s
  | .brk _ => none
theorem bindO_some {e : Option α} {k : α → Option β} {b : β} (h : bindO e k = some b) : ∃ x, e = some x ∧ k x = some b := by
  cases e with
  | none => cases h
  | some x => exact ⟨x, rfl, h⟩
theorem letO_some {e : α} {k : α → Option β} {b : β} (h : letO e k = some b) : ∃ x, x = e ∧ k x = some b := ⟨e, rfl, h⟩
theorem iteO_t {c : Bool} {x y : Option β} {b : Option β} (hc : c = true) (h : iteO c x y = b) : x = b := by subst hc; exact h
theorem iteO_f {c : Bool} {x y : Option β} {b : Option β} (hc : c = false) (h : iteO c x y = b) : y = b := by subst hc; exact h
theorem stepO_ret {b b' : ρ} {k : ς → Option ρ} (h : stepO (.ret b) k = some b') : b = b' := Option.some.inj h
theorem stepO_nx {s : ς} {k : ς → Option ρ} {b : Option ρ} (h : stepO (.nx s) k = b) : k s = b := h
theorem stepL_ret {b : ρ} {k : ς → Option (Step ρ τ)} {st : Step ρ τ} (h : stepL (.ret b) k = some st) : st = .ret b := (Option.some.inj h).symm
theorem stepL_nx {s : ς} {k : ς → Option (Step ρ τ)} {b : Option (Step ρ τ)} (h : stepL (.nx s) k = b) : k s = b := h
@[simp] theorem bindO_s (x : α) (k : α → Option β) : bindO (some x) k = k x := rfl
@[simp] theorem bindO_n (k : α → Option β) : bindO none k = none := rfl
@[simp] theorem letO_s (x : α) (k : α → Option β) : letO x k = k x := rfl
@[simp] theorem iteO_T (x y : Option β) : iteO true x y = x := rfl
@[simp] theorem iteO_F (x y : Option β) : iteO false x y = y := rfl
@[simp] theorem stepO_N (s : ς) (k : ς → Option ρ) : stepO (.nx s) k = k s := rfl
@[simp] theorem stepO_R (b : ρ) (k : ς → Option ρ) : stepO (.ret b) k = some b := rfl
@[simp] theorem stepL_N (s : ς) (k : ς → Option (Step ρ τ)) : stepL (.nx s) k = k s := rfl
@[simp] theorem stepL_R (b : ρ) (k : ς → Option (Step ρ τ)) : stepL (.ret b) k = some (.ret b) := rfl
end
section
variable {α β γ ρ ς : Type} {r : Rp α} {rb : Rp β} {c : Cl α} {te ta : TE} {tt : TT} {Γ Γ1 : List Sl} {a a' : α} {b b' : Bool} {A : Amb} {P : L2.St → Hp → Prop} {D : Ends} {i : Nat} {p : Addr} {K : PySem.W.Frag} {xs : List α}
theorem et_to (h : EvT tt Γ Γ1 b) (e : b = b') : EvT tt Γ Γ1 b' := e ▸ h
theorem ec_to (h : EvC c te Γ Γ1 a) (e : a = a') : EvC c te Γ Γ1 a' := e ▸ h
theorem nx_go {σ : L2.St} {H B : Hp} (F : Frm A σ H B Γ) (h : Nx A P Γ) : P σ H := h σ H B F
/-- the datum of the frame's own object by another name -/
theorem nx_cel (h : Γ[i]? = some (.cel p c a)) (e : a = a') (k : Nx A P (Γ.set i (.cel p c a'))) : Nx A P Γ := by
  subst e
  have : Γ.set i (.cel p c a) = Γ := by
    obtain ⟨hi, q⟩ := List.getElem?_eq_some_iff.mp h
    rw [← q, List.set_getElem_self]
  rw [this] at k; exact k
theorem Frm.recast {σ : L2.St} {H B : Hp} (F : Frm A σ H B Γ) (i : Nat) {s s' : Sl} (h : Γ[i]? = some s) (k : ∀ o, SlO σ H B o i s → SlO σ H B o i s') : Frm A σ H B (Γ.set i s') :=
  F.put rfl (fun _ _ => rfl) fun o _ q => k o (q s h)
theorem nx_toOpt (i : Nat) (n : NN r) (h : Γ[i]? = some (.imm r a)) (k : Nx A P (Γ.set i (.imm (rOpt r) (some a)))) : Nx A P Γ := fun σ H B F => k σ H B (F.recast i h fun o ⟨v, e, q⟩ => ⟨v, e, q, n _ _ _ q⟩)
theorem nx_toNone {u : Unit} (i : Nat) (h : Γ[i]? = some (.imm rNon u)) (k : Nx A P (Γ.set i (.imm (rOpt r) none))) : Nx A P Γ := fun σ H B F => k σ H B (F.recast i h fun o ⟨v, e, q⟩ => ⟨v, e, q⟩)
/-- a script's walk -/
theorem it_scr {ns : List Int} (h : EvX (rScr K) te Γ Γ1 ns) (hz : ns.length ≤ 100000) : ItX rInt (iList K te) Γ Γ1 ns := fun A σ H B F R q => h A σ H B F _ fun v H' B' F' s k => by
  obtain ⟨p, rfl, hp⟩ := k
  refine ⟨p, rfl, ⟨_, F'.bh.seq hp⟩, q _ H' B' F' s ⟨Nat.le_trans hz (by decide), fun H2 B2 s1 s2 => ?_, fun i H2 B2 s1 s2 hi => ?_, fun i x H2 B2 v H3 s1 s2 hx hy A σ Γ F => ?_⟩⟩
  · exact ⟨_, s2.seq (s1.seq hp), by rw [List.length_map]; exact Nat.le_refl _⟩
  · exact ⟨_, .int ns[i], s2.seq (s1.seq hp), by rw [List.getElem?_map, List.getElem?_eq_getElem hi]; rfl⟩
  · obtain ⟨rfl, hv⟩ := hy
    have e := hv _ (s2.seq (s1.seq hp))
    rw [List.getElem?_map, hx] at e
    cases e
    exact ⟨B2, F, Same.refl _, rfl⟩
end
/-! ### a new object handed back -/
def SpC {α β : Type} (w : Rw α) (c : Cl β) (m : α → Option β) : Sp := fun vs H Q _ => ∃ B a b, Sz H ∧ Same B H ∧ w.rel B vs a ∧ m a = some b ∧ ∀ p o H' B', Post ((amb0 B H).add p o) H' B' → H p = none → c.ok B' o b → Q (.ref p) H'
section
variable {α β γ : Type} {w : Rw α} {c : Cl β} {A : Amb} {Γ Γ1 : List Sl} {te : TE} {D : Ends} {K : PySem.W.Frag}
/-- what the caller knows of a new object -/
def RtC (A : Amb) (c : Cl β) (b : β) (rt : VK) : Prop := ∀ p o H' B', Post (A.add p o) H' B' → A.H0 p = none → c.ok B' o b → rt (.ref p) H'
theorem nx_retC {a b : β} (h : EvC c te Γ Γ1 a) (e : some a = some b) (k : RtC A c b D.rt) : Nx A (tRet te D) Γ := fun σ H B F => h A σ H B F _ fun p o H' B' F' n _ q => k p o H' B' F'.post n (by cases e; exact q)
theorem Frm.afterC {σ : L2.St} {H H' B B' : Hp} {p : Addr} {o : HO} (F : Frm A σ H B Γ) (P : Post ((amb0 B H).add p o) H' B') (hp : H p = none) : Frm (A.add p o) σ H' B' Γ := by
  have kp : ∀ q u, H q = some u → H' q = some u := fun q u e => P.keep q u (fun z => z) (by show upd H p o q = some u; rw [upd_ne (ne_of_none e hp)]; exact e)
  have al : ∀ q, H q ≠ none → H' q ≠ none := fun q n => by
    cases e : H q with
    | none => exact absurd e n
    | some u => rw [kp q u e]; simp
  have ou : ∀ q, H q ≠ none → B q = none → B' q = none := fun q n z => P.out q (by
    have hq : q ≠ p := fun e => n (by rw [e]; exact hp)
    show upd H p o q ≠ none; rw [upd_ne hq]; exact n) z
  have bb : Same B B' := P.b0
  have h0 := F.H0none hp
  refine F.move ⟨P.bh, fun q u e => bb q u (F.b0 q u e), fun q u m e => ?_, fun q n z => ?_, fun q n => ?_, fun q u e => ?_, fun q m => ?_, A.up _ _ bb F.ph, P.sz⟩ bb fun q h => ⟨ou q h.2.1 h.1, ?_, kp q⟩
  · by_cases hq : q = p
    · subst hq
      have e' : upd A.H0 q o q = some u := e
      rw [upd_same] at e'
      cases e'
      exact P.keep q o (fun z => z) upd_same
    · have e' : upd A.H0 p o q = some u := e
      rw [upd_ne hq] at e'
      exact kp q u (F.keep q u m e')
  · by_cases hq : q = p
    · subst hq
      refine P.out q (by show upd H q o q ≠ none; rw [upd_same]; simp) ?_
      show B q = none
      cases e : B q with
      | none => rfl
      | some u => have := F.bh q u e; rw [hp] at this; cases this
    · have n' : upd A.H0 p o q ≠ none := n
      rw [upd_ne hq] at n'
      exact ou q (F.alive q n') (F.out q n' z)
  · by_cases hq : q = p
    · subst hq
      rw [P.keep q o (fun z => z) upd_same]; simp
    · have n' : upd A.H0 p o q ≠ none := n
      rw [upd_ne hq] at n'
      exact al q (F.alive q n')
  · have hq : q ≠ p := fun z => by rw [z] at e; exact absurd (F.sub p u e) (by rw [h0]; simp)
    show upd A.H0 p o q = some u
    rw [upd_ne hq]; exact F.sub q u e
  · have := F.mh q m
    have hq : q ≠ p := fun z => this (by rw [z]; exact h0)
    show upd A.H0 p o q ≠ none
    rw [upd_ne hq]; exact this
  · have hq : q ≠ p := fun z => h.2.1 (by rw [z]; exact hp)
    rcases h.2.2 with m | m
    · exact .inl (by show upd A.H0 p o q = none; rw [upd_ne hq]; exact m)
    · exact .inr m
theorem ec_call {m : α → Option β} {a : α} {b : β} {E : XK} {ta : TA} (h : EvW w ta Γ Γ1 a) (e : m a = some b) : EvC c (tCall (SpC w c m) [] E ta) Γ Γ1 b := fun A σ H B F Q q => h A σ H B F _ fun vs H1 B1 F1 s1 k1 => by
  rw [List.append_nil]
  exact ⟨B1, a, b, F1.sz, F1.bh, k1, e, fun p o H2 B2 P hp k => q p o H2 B2 (F1.afterC P hp) (F1.H0none hp) (s1.trans P.b0) k⟩
end
/-- the sizes of what is tracked are known to whoever runs -/
theorem sz_of_hok {P : Program} {w : World} {H : Hp} {h : Heap} (x : HOk P w H h) : Sz H := fun p o e => by
  have k := x p o e
  cases o with
  | lst xs => exact k.1
  | tup xs => exact k.1
  | dK kvs => exact k.1
  | dT kvs => exact k.1
  | _ => trivial
theorem pss_sz {X : Cx} {st : List Stmt} {t : TS} (h : PSs X st t) : PSs X st (fun D σ H => Sz H → t D σ H) := ⟨fun pins s σ H D I q => h.run pins s σ H D I (q (sz_of_hok I.hok))⟩
/-- as SpP, the sizes not asked for -/
def SpL {α β : Type} (w : Rw α) (r : Rp β) (m : α → Option β) : Sp := fun vs H Q _ => ∃ B a b, Same B H ∧ w.rel B vs a ∧ m a = some b ∧ Rt (amb0 B H) (psi r) b Q
end G

set_option maxHeartbeats 4000000
/-! # G: a statement with more behind it -/
namespace G
open PySem PySem.Spec PyProof.Rows L2
section
variable {α β γ ρ ς : Type} {r ra : Rp α} {rb : Rp β} {c : Cl α} {cc : Cl γ} {w : Rw α} {te : TE} {tt : TT} {t t' u : TS} {D : Ends} {A : Amb} {Γ Γ1 Γ2 M : List Sl} {a : α} {b : β} {i : Nat} {K : PySem.W.Frag} {P : L2.St → Hp → Prop} {ψ : ρ → Hp → Hp → V → Prop} {p : Addr}
theorem sq_next (h : Nx A (u D) Γ) : Nx A (tSeq tNext u D) Γ := h
theorem sq_brk (h : Nx A D.bk Γ) : Nx A (tSeq tBreak u D) Γ := h
theorem sq_cont (h : Nx A D.ct Γ) : Nx A (tSeq tCont u D) Γ := h
theorem sq_asg (h : EvX r te Γ Γ1 a) (k : Nx A (u D) (Γ1.set i (.imm r a))) : Nx A (tSeq (tAsg te (gName i)) u D) Γ := nx_asg (D := { D with nx := u D }) h k
theorem sq_asgC (h : EvC c te Γ Γ1 a) (k : ∀ p, ¬ A.m p → Nx A (u D) (Γ1.set i (.cel p c a))) : Nx A (tSeq (tAsg te (gName i)) u D) Γ := nx_asgC (D := { D with nx := u D }) h k
theorem sq_if {b : Bool} (h : EvT tt Γ Γ1 b) (h1 : b = true → Nx A (t { D with nx := u D }) Γ1) (h2 : b = false → Nx A (t' { D with nx := u D }) Γ1) : Nx A (tSeq (tIfS tt t t') u D) Γ := nx_if (D := { D with nx := u D }) h h1 h2
theorem sq_drop (h : EvX r te Γ Γ1 a) (k : Nx A (u D) Γ1) : Nx A (tSeq (tDrop te) u D) Γ := nx_drop (D := { D with nx := u D }) h k
theorem sq_ret {b : α} (h : EvX r te Γ Γ1 a) (e : some a = some b) (k : Rt A (psi r) b D.rt) : Nx A (tSeq (tRet te) u D) Γ := nx_ret (D := { D with nx := u D }) h e k
theorem sq_retS {st : γ} {b : α × γ} (h : EvX r te Γ Γ1 a) (hi : Γ1[i]? = some (.cel p cc st)) (e : some (a, st) = some b) (k : Rt A (psiS p cc r) b D.rt) : Nx A (tSeq (tRet te) u D) Γ := nx_retS (D := { D with nx := u D }) h hi e k
theorem sq_retC {a b : α} (h : EvC c te Γ Γ1 a) (e : some a = some b) (k : RtC A c b D.rt) : Nx A (tSeq (tRet te) u D) Γ := nx_retC (D := { D with nx := u D }) h e k
theorem sq_asgT {g : TG} {vs : List Nat} {Γf : α → List Sl} (h : EvX r te Γ Γ1 a) (hg : TgX g r vs Γ1 Γf) (k : Nx A (u D) (Γf a)) : Nx A (tSeq (tAsg te g) u D) Γ := nx_asgT (D := { D with nx := u D }) h hg k
theorem sq_setR {k : Nat} {f : α → β → α} (h : EvX rb te Γ Γ1 b) (hi : Γ1[i]? = some (.cel p (cHls w) a)) (g : Upd w k rb f) (n : Nx A (u D) (Γ1.set i (.cel p (cHls w) (f a b)))) : Nx A (tSeq (tAsg te (gSub (tVar i) (tC (.int (k : Int))) rSetL)) u D) Γ := nx_setR (D := { D with nx := u D }) h hi g n
theorem sq_for {wi : TI} {g : TG} {tb : TS} {vs : List Nat} {xs : List α} (f : α → ς → Option (Step ρ ς)) (mk : ς → List Sl) {Γf : α → ς → List Sl} {s0 : ς} {R0 : Step ρ ς}
    (hi : ItX r wi Γ Γ1 xs) (e : forL f xs s0 = some R0) (h0 : ∀ A' : Amb, A'.m = A.m → Nx A' (Fin A' (mk s0)) Γ1)
    (hg : ∀ s, TgX g r vs (mk s) (fun x => Γf x s))
    (hb : ∀ (A' : Amb) (D' : Ends) (x : α) (s : ς) (st : Step ρ ς), A'.m = A.m → f x s = some st → Conts A' ψ D' mk st → Nx A' (tb D') (Γf x s))
    (hr : ∀ b, R0 = .ret b → Rt A ψ b D.rt) (hd : ∀ s, R0 = .nx s → Nx A (u D) (mk s)) : Nx A (tSeq (tFor wi g tb) u D) Γ := nx_for (D := { D with nx := u D }) f mk hi e h0 hg hb hr hd
end
end G

set_option maxHeartbeats 4000000
/-! # G: objects of own classes, errors -/
namespace G
open PySem PySem.Spec PyProof.Rows L2
section
variable {α β γ ρ ς ε : Type} {r ra : Rp α} {rb : Rp β} {rc : Rp γ} {te ta tb : TE} {Γ Γ1 Γ2 : List Sl} {K : PySem.W.Frag} {a : α} {b : β} {w : Rw α} {C : Addr} {names : List Str}
/-- an instance of the class at C, its attributes in the order of their storing -/
def cIns {α : Type} (C : Addr) (names : List Str) (w : Rw α) : Cl α := ⟨fun H o a => ∃ dx vs, o = .ins C dx (names.zip vs) ∧ vs.length = names.length ∧ w.rel H vs a, fun s ⟨dx, vs, e, l, h⟩ => ⟨dx, vs, e, l, w.mono s h⟩⟩
def rIns {α : Type} (C : Addr) (names : List Str) (w : Rw α) : Rp α := rOb (cIns C names w)
theorem zip_lookup : ∀ {names : List Str} {vs : List V} {k : Nat} {nm : Str} {v : V}, names.Nodup → names[k]? = some nm → vs[k]? = some v → (names.zip vs).lookup nm = some v
  | [], _, _, _, _, _, h, _ => by simp at h
  | _ :: _, [], _, _, _, _, _, h => by simp at h
  | n :: ns, u :: us, 0, nm, v, _, h1, h2 => by
    simp at h1 h2; subst h1; subst h2
    simp [List.lookup]
  | n :: ns, u :: us, k + 1, nm, v, nd, h1, h2 => by
    have h1' : ns[k]? = some nm := by simpa using h1
    have h2' : us[k]? = some v := by simpa using h2
    have hne : nm ≠ n := fun e => (List.nodup_cons.mp nd).1 (by rw [← e]; exact List.mem_of_getElem? h1')
    show List.lookup nm ((n, u) :: ns.zip us) = some v
    have e : (nm == n) = false := beq_eq_false_iff_ne.mpr hne
    simp only [List.lookup, e]
    exact zip_lookup (List.nodup_cons.mp nd).2 h1' h2'
theorem zip_none : ∀ {names : List Str} {vs : List V} {nm : Str}, nm ∉ names → (names.zip vs).lookup nm = none
  | [], _, _, _ => by simp
  | _ :: _, [], _, _ => by simp
  | n :: ns, u :: us, nm, h => by
    show List.lookup nm ((n, u) :: ns.zip us) = none
    have e : (nm == n) = false := beq_eq_false_iff_ne.mpr fun e => h (by rw [e]; exact List.mem_cons_self)
    simp only [List.lookup, e]
    exact zip_none fun z => h (List.mem_cons_of_mem _ z)
theorem putF_zip : ∀ {names : List Str} {vs : List V} {nm : Str} {v : V}, nm ∉ names → vs.length = names.length → putF nm v (names.zip vs) = (names ++ [nm]).zip (vs ++ [v])
  | [], [], _, _, _, _ => rfl
  | [], _ :: _, _, _, _, h => by cases h
  | _ :: _, [], _, _, _, h => by cases h
  | n :: ns, u :: us, nm, v, h, l => by
    show (if n = nm then (n, v) :: ns.zip us else (n, u) :: putF nm v (ns.zip us)) = (n, u) :: (ns ++ [nm]).zip (us ++ [v])
    rw [if_neg fun e => h (by rw [e]; exact List.mem_cons_self), putF_zip (fun z => h (List.mem_cons_of_mem _ z)) (by simpa using l)]
theorem ob_ins {B H : Hp} {u : V} (s : Same B H) (h : (rIns C names w).rel B u a) : ∃ p dx vs, u = .ref p ∧ H p = some (.ins C dx (names.zip vs)) ∧ vs.length = names.length ∧ w.rel B vs a := by
  obtain ⟨p, o, e, hp, dx, vs, rfl, l, k⟩ := h
  exact ⟨p, dx, vs, e, s _ _ hp, l, k⟩
theorem ev_fld {k : Nat} {nm : Str} {f : α → β} (h : EvX (rIns C names w) te Γ Γ1 a) (g : Acc w k rb f) (hk : names[k]? = some nm) (nd : names.Nodup) (c : Cls K C) (na : NoAttr K C nm) : EvX rb (tFld K te nm) Γ Γ1 (f a) := fun A σ H B F Q q =>
  h A σ H B F _ fun v H1 B1 F1 s1 k1 => by
    obtain ⟨p, dx, vs, rfl, hp, l, kw⟩ := ob_ins F1.bh k1
    obtain ⟨u, hu, ku⟩ := g B1 vs a kw
    exact ⟨p, C, dx, _, u, rfl, hp, c, na, zip_lookup nd hk hu, q u H1 B1 F1 s1 ku⟩
theorem ev_celFld {i : Nat} {p : Addr} {k : Nat} {nm : Str} {f : α → β} (h : Γ[i]? = some (.cel p (cIns C names w) a)) (g : Acc w k rb f) (hk : names[k]? = some nm) (nd : names.Nodup) (c : Cls K C) (na : NoAttr K C nm) : EvX rb (tFld K (tVar i) nm) Γ Γ (f a) := fun A σ H B F Q q => by
  obtain ⟨e, o, ho, dx, vs, rfl, l, kw⟩ := cel_at F h
  obtain ⟨u, hu, ku⟩ := g B vs a kw
  exact ⟨_, e, p, C, dx, _, u, rfl, ho, c, na, zip_lookup nd hk hu, q u H B F (Same.refl _) ku⟩
/-- one attribute more -/
def Snoc {α β γ : Type} (w : Rw α) (r : Rp β) (w' : Rw γ) (f : α → β → γ) : Prop := ∀ B vs a v b, w.rel B vs a → r.rel B v b → w'.rel B (vs ++ [v]) (f a b)
theorem snoc0 : Snoc w0 ra (w1 ra) (fun _ b => b) := fun B vs a v b h k => ⟨v, by rw [show vs = [] from h]; rfl, k⟩
theorem snoc1 : Snoc (w1 ra) rb (wC ra (w1 rb)) (fun a b => (a, b)) := fun B vs a v b ⟨u, e, h⟩ k => ⟨u, [v], by rw [e]; rfl, h, v, rfl, k⟩
theorem snocC {w : Rw β} {w' : Rw ς} {f : β → γ → ς} (s : Snoc w rc w' f) : Snoc (wC ra w) rc (wC ra w') (fun a b => (a.1, f a.2 b)) := fun B vs a v b ⟨u, t, e, h, g⟩ k => ⟨u, t ++ [v], by rw [e]; rfl, h, s B t a.2 v b g k⟩
theorem sq_fld {A : Amb} {D : Ends} {u : TS} {i : Nat} {p : Addr} {nm : Str} {w' : Rw γ} {f : α → β → γ} (h : EvX rb te Γ Γ1 b) (hi : Γ1[i]? = some (.cel p (cIns C names w) a)) (sn : Snoc w rb w' f) (nn : nm ∉ names) (hl : names.length < 900) (c : Cls K C) (na : NoAttr K C nm)
    (k : Nx A (u D) (Γ1.set i (.cel p (cIns C (names ++ [nm]) w') (f a b)))) : Nx A (tSeq (sFld K (tVar i) te nm) u D) Γ := fun σ H B F => h A σ H B F _ fun v H1 B1 F1 s1 k1 => by
  obtain ⟨e, o, ho, dx, vs, rfl, l, kw⟩ := cel_at F1 hi
  refine ⟨_, e, p, C, dx, _, rfl, ho, c, na, by rw [List.length_zip]; omega, ?_⟩
  exact k σ _ B1 (F1.write hi (c' := cIns C (names ++ [nm]) w') (o' := .ins C dx (putF nm v (names.zip vs))) ⟨dx, vs ++ [v], by rw [putF_zip nn l], by rw [List.length_append, List.length_append, l]; rfl, sn B1 vs a v b kw k1⟩ trivial)
end

/-! ### errors -/
inductive Res (ε β : Type) where
  | ok (b : β)
  | er (e : ε)
def resO {ε β γ : Type} (x : Res ε β) (k : β → Option (Res ε γ)) : Option (Res ε γ) := match x with
  | .ok b => k b
  | .er e => some (.er e)
@[simp] theorem resO_ok {ε β γ : Type} (b : β) (k : β → Option (Res ε γ)) : resO (.ok b) k = k b := rfl
@[simp] theorem resO_er {ε β γ : Type} (e : ε) (k : β → Option (Res ε γ)) : resO (.er e) k = some (.er e) := rfl
/-- how an error of ε lies: its class, its dict's address -/
abbrev ER (ε : Type) := Hp → Value → Option Addr → ε → Prop
def ErAt {α : Type} (H : Hp) (cls : Value) (d : Option Addr) (C : Addr) (names : List Str) (w : Rw α) (a : α) : Prop :=
  cls = .ref C ∧ ∃ dd fs vs, d = some dd ∧ H dd = some (.xd fs) ∧ w.rel H vs a ∧ ∀ (k : Nat) (nm : Str), names[k]? = some nm → fs.lookup nm = vs[k]?
def RtE {ε : Type} (A : Amb) (R : ER ε) (e : ε) (E : XK) : Prop := ∀ cls d H' B', Post A H' B' → R B' cls d e → E cls d H'
def SpX {ε α β : Type} (R : ER ε) (w : Rw α) (r : Rp β) (m : α → Option (Res ε β)) : Sp := fun vs H Q E => ∃ B a x, Sz H ∧ Same B H ∧ w.rel B vs a ∧ m a = some x ∧ (∀ b, x = .ok b → Rt (amb0 B H) (psi r) b Q) ∧ ∀ e, x = .er e → RtE (amb0 B H) R e E
/-- what an __init__ leaves -/
def RtI {β : Type} (A : Amb) (p : Addr) (c : Cl β) (b : β) (Q : VK) : Prop := ∀ H' B', Post A H' B' → (∃ o, H' p = some o ∧ c.ok B' o b) → Q .non H'
def SpI {ε α β : Type} (R : ER ε) (C : Addr) (w : Rw α) (c : Cl β) (m : α → Option (Res ε β)) : Sp := fun vs H Q E => ∃ p dx vs' B a x, vs = .ref p :: vs' ∧ H p = some (.ins C dx []) ∧ B p = none ∧ Sz H ∧ Same B H ∧ w.rel B vs' a ∧ m a = some x ∧
  (∀ b, x = .ok b → RtI (ambS B H p) p c b Q) ∧ ∀ e, x = .er e → RtE (ambS B H p) R e E
/-- an error's __init__: its arguments are stored, one or two -/
def SpE1 (C : Addr) (nm : Str) : Sp := fun vs H Q _ => ∃ a v, vs = [.ref a, v] ∧ H a = some (exo a C none) ∧ ∀ dx, H dx = none → dx ≠ a → Q .non (upd (upd H dx (exd dx [(nm, v)])) a (exo a C (some dx)))
def SpE2 (C : Addr) (n1 n2 : Str) : Sp := fun vs H Q _ => ∃ a v u, vs = [.ref a, v, u] ∧ H a = some (exo a C none) ∧ ∀ dx, H dx = none → dx ≠ a → Q .non (upd (upd H dx (exd dx [(n2, u), (n1, v)])) a (exo a C (some dx)))
section
variable {P : Program} {w : World} {K : PySem.W.Frag} {mg : Str → Option Value} {base : Heap}
/-- the body «self.nm = nm» -/
theorem okE1 {f C : Addr} {fd : FuncData} {st : Stmt} {N : List Str} {qual nm p1 : Str} {pos1 pos2 pos3 pos4 : Pos} (F : Fun K "__init__" qual st f fd) (S : FnScope N ["self", p1] (defScope st)) (T : OexC K C) (na : PySem.W.findIn K (.ref C) nm = some none)
    (hb : defBody st = [.Assign [.Attribute (.Name "self" pos1) nm pos2] (.Name p1 pos3) pos4]) (h0 : N[0]? = some ("self" : Str)) (h1 : N[1]? = some p1) (v0 : Vis (defScope st) ("self" : Str)) (v1 : Vis (defScope st) p1)
    (d0 : (p1 == ("__debug__" : Str)) = false) (d1 : (p1 == ("__classdict__" : Str)) = false) (hl : N.length = 2) : FnOk P w K mg base CX0 1 f fd ["self", p1] (SpE1 C nm) := by
  refine F.ok S (fun vs H Q E h => ?_) (fun cdv A outer s H vs Q E hr h => ?_)
  · obtain ⟨a, v, rfl, _⟩ := h; rfl
  · obtain ⟨a, v, rfl, ha, k⟩ := h
    rw [hb]
    refine ⟨_, pss_one (ps_ost (pe_var (i := 0) h0 v0) (pe_var (i := 1) h1 v1 d0 d1)), ?_⟩
    have hN : L2.start N [.ref a, v] = [some (.ref a), some v] := by
      unfold L2.start; simp [hl]
    rw [hN]
    exact ⟨v, rfl, _, rfl, a, C, rfl, T, na, .inl ⟨ha, fun dx n ne => k dx n ne⟩⟩
end
theorem upd_comm {H : Hp} {a b : Addr} {o u : HO} (h : a ≠ b) : upd (upd H a o) b u = upd (upd H b u) a o := by
  funext c; unfold upd
  by_cases h1 : c = b
  · by_cases h2 : c = a
    · exact absurd (h2.symm.trans h1) h
    · rw [if_pos h1, if_neg h2, if_pos h1]
  · rw [if_neg h1]
    by_cases h2 : c = a
    · rw [if_pos h2, if_pos h2]
    · rw [if_neg h2, if_neg h2, if_neg h1]
theorem del_made {H : Hp} {a dx : Addr} {o1 o2 o3 o4 : HO} (ha : H a = none) (ne : dx ≠ a) : upd (del (upd (upd (upd H a o1) dx o2) a o3) a) dx o4 = upd H dx o4 := by
  funext c
  by_cases h1 : c = dx
  · rw [h1, upd_same, upd_same]
  · rw [upd_ne h1, upd_ne h1]
    by_cases h2 : c = a
    · rw [h2, del_same, ha]
    · rw [del_ne h2, upd_ne h2, upd_ne h1, upd_ne h2]
section
variable {α β γ ρ ς ε : Type} {r ra : Rp α} {rb : Rp β} {te : TE} {ta : TA} {Γ Γ1 Γ2 : List Sl} {K : PySem.W.Frag} {a : α} {b : β} {w : Rw α} {C : Addr} {A : Amb} {D : Ends} {u : TS} {R : ER ε} {E : XK}
theorem Frm.plus {σ : L2.St} {H B : Hp} {p : Addr} {o : HO} (F : Frm A σ H B Γ) (hp : H p = none) (ho : szO o) : Frm A σ (upd H p o) (upd B p o) Γ := (F.fresh hp ho).adopt (F.H0none hp) F.sub F.mh
/-- raise C(x): one argument -/
theorem sq_raise1 {nm : Str} {W : WX} {e : ε} (h : EvX r te Γ Γ1 a) (k : RtE A R e E) (hR : ∀ B cls d, ErAt B cls d C [nm] (w1 r) a → R B cls d e) (hW : ∀ cls d σ H, E cls d H → W cls d σ H) :
    Nx A (tSeq (fun _ σ H => tMkO C (SpE1 C nm) [] (tCons te tNil) σ H fun cls d H' => W cls d σ H') u D) Γ := fun σ H B F => h A σ H B F _ fun v H1 B1 F1 s1 k1 => by
  refine ⟨by show 1 ≤ 1000; decide, fun x hx => ⟨x, v, rfl, upd_same, fun dx n ne => ⟨rfl, dx, [(nm, v)], upd_same, ?_, ?_, ?_⟩⟩⟩
  · rw [upd_ne ne, upd_same]
  · rw [upd_ne ne] at n; exact n
  · have n1 : H1 dx = none := by rw [upd_ne ne] at n; exact n
    rw [del_made hx ne]
    refine hW _ _ _ _ (k _ _ _ _ (F1.plus (o := .xd [(nm, v)]) n1 trivial).post (hR _ _ _ ⟨rfl, dx, [(nm, v)], [v], rfl, upd_same, ⟨v, rfl, ?_⟩, fun j m hj => ?_⟩))
    · exact r.mono (fun b o q => by rw [upd_ne (ne_of_none (F1.bh b o q) n1)]; exact q) k1
    · cases j with
      | zero => simp at hj; subst hj; simp [List.lookup]
      | succ j => simp at hj
end
/-! ### a call that may raise -/
/-- an expression with two ends; W is what is wished of an error -/
def EvR {ε α : Type} (R : ER ε) (r : Rp α) (te : (L2.St → XK) → TE) (Γ Γ' : List Sl) (x : Res ε α) : Prop := ∀ (A : Amb) (σ : L2.St) (H B : Hp), Frm A σ H B Γ → ∀ (E : L2.St → XK) (Q : VK),
  (∀ b, x = .ok b → ∀ v H' B', Frm A σ H' B' Γ' → Same B B' → r.rel B' v b → Q v H') → (∀ e, x = .er e → ∀ cls d H' B', Frm A σ H' B' Γ' → Same B B' → R B' cls d e → E σ cls d H') → te E σ H Q
/-- C(e, ..) whose __init__ may raise, within a try -/
def tMakeS (C : Addr) (sp : Sp) (E : L2.St → XK) (t : TA) : TE := fun σ H Q => t σ H fun vs H1 => ∀ x dx, H1 x = none → H1 dx = none → dx ≠ x →
  sp (.ref x :: vs) (upd (upd H1 dx (.own x)) x (.ins C dx [])) (fun v H2 => v = .non ∧ Q (.ref x) H2) (E σ)
section
variable {X : Cx} {CX : CXT} {k : Nat} {f C : Addr} {fd : FuncData} {ps : List Str} {sp : Sp} {E : L2.St → XK} {x : Str} {p pos : Pos} {e : Expr} {es : List Expr} {t : TA}
theorem run_makeS {pins : List (Addr × Obj)} {σ : L2.St} {H : Hp} {s : Shared} {Q : VK} {us : List Value} {vs : List V} (M : Mk X.K C f) (F : FnOk X.prog X.w X.K X.mg X.base CX k f fd ps sp) (hr : Room (k + 1) X.A) (hb : Binds X.K fd ps [])
    (hx : ∀ (pins : List (Addr × Obj)) (H' : Hp) (s : Shared) (e : Value) (s' : Shared), Inv X pins σ H' s → CX X.stack H' s (E σ) e s' → X.xe e s') (I : Inv X pins σ H s) (r : Vals vs us)
    (h : ∀ x dx, H x = none → H dx = none → dx ≠ x → sp (.ref x :: vs) (upd (upd H dx (.own x)) x (.ins C dx [])) (fun v H2 => v = .non ∧ Q (.ref x) H2) (E σ)) :
    wpAny (model X.prog X.w) X.A (call (.ref C) us) (EP X pins σ Q) X.xe s := by
  have hq := h (s.heap.objs.size + 1) s.heap.objs.size (I.hok.fresh (Nat.le_succ _)) (I.hok.fresh (Nat.le_refl _)) (Nat.ne_of_lt (Nat.lt_succ_self _))
  have I2 := Inv.made (C := C) I
  have r2 : Vals (V.ref (s.heap.objs.size + 1) :: vs) (Value.ref (s.heap.objs.size + 1) :: us) := .cons rfl r
  have hl : (Value.ref (s.heap.objs.size + 1) :: us).length = ps.length := by
    have e := r2.length
    rw [F.len _ _ _ _ hq] at e
    exact e.symm
  have bb := hb _ (Value.ref (s.heap.objs.size + 1) :: us) I2.kIn (by rw [List.append_nil]; exact hl)
  rw [List.append_nil] at bb
  refine wpAny_call (make_map (f := f) I.kIn M.makes M.init (beq_iff_eq.mp M.fn) (codeAny_mono (F.run _ X.stack _ _ ⟨Value.ref (s.heap.objs.size + 1) :: us, []⟩ (Value.ref (s.heap.objs.size + 1) :: us) _ _ (E σ) (hr.make C us [])
    (I2.env0.make C us []) bb r2 hq) fun r s' hq' => ?_))
  cases r with
  | error e => exact hx pins _ _ e s' I2 hq'
  | ok fl =>
    cases fl with
    | ret u =>
      obtain ⟨v, H2, os2, bare2, un2, hok2, rv, ev, q2⟩ := hq'
      subst ev
      exact ⟨rv, .ref (s.heap.objs.size + 1), H2, I2.call' (ch := []) os2 un2 hok2 bare2 (fun b z => absurd z (by simp)), rfl, q2⟩
    | next => exact False.elim hq'
    | brk => exact False.elim hq'
    | cont => exact False.elim hq'
theorem pe_makeS (M : Mk X.K C f) (F : FnOk X.prog X.w X.K X.mg X.base CX k f fd ps sp) (hr : Room (k + 1) X.A) (hg : Gl X x) (hm : X.mg x = some (.ref C)) (hb : Binds X.K fd ps [])
    (hx : ∀ σ, PassesAt CX X σ (E σ)) (ha : PA X (e :: es) t) (hdb : (x == ("__debug__" : Str)) = false := by decide) (he : starEach (e :: es) X.env = (false, eval e X.env) :: starEach es X.env := by rfl) (hpl : (backTo pos (starEach es X.env)).any (·.1) = false := by rfl) :
    PE X (.Call (.Name x p) (e :: es) [] pos) (tMakeS C sp E t) := by
  refine ⟨fun pins s σ H Q I h => ?_⟩
  refine wpAny_Call_Name_kw (ld_glob I hg hm ?_ hdb)
  refine PySem.W.callWith_K (h₀ := X.base) I.ok.mod.kin M.kp (thn (ha.run pos pins s σ H _ I h) fun us s1 ⟨vs, H1, I1, r, q⟩ => ⟨I1.kIn, ?_⟩) he hpl
  exact run_makeS M F hr hb (fun pins H' s e s' I' c => hx σ pins H' s e s' I' c) I1 r q
end
section
variable {α β γ ρ ς ε : Type} {r ra : Rp α} {rb : Rp β} {ta : TA} {Γ Γ1 Γ2 : List Sl} {K : PySem.W.Frag} {a : α} {b : β} {w : Rw α} {C : Addr} {names : List Str} {A : Amb} {D : Ends} {u : TS} {R : ER ε}
/-- what an object is, behind its making -/
theorem made_frame {σ : L2.St} {H B : Hp} {x dx : Addr} (F : Frm A σ H B Γ) (hx : H x = none) (hd : H dx = none) (ne : dx ≠ x) {H' B' : Hp}
    (P : Post (ambS (upd B dx (.own x)) (upd (upd H dx (.own x)) x (.ins C dx [])) x) H' B') {o : HO} (ho : H' x = some o) : Frm (A.add x o) σ H' B' Γ := by
  have kp : ∀ q u, H q = some u → H' q = some u := fun q u e => P.keep q u (fun (z : q = x) => by rw [z, hx] at e; cases e) (by
    show upd (upd H dx (.own x)) x (.ins C dx []) q = some u
    rw [upd_ne (ne_of_none e hx), upd_ne (ne_of_none e hd)]; exact e)
  have bdx : B dx = none := by
    cases e : B dx with
    | none => rfl
    | some u => have := F.bh dx u e; rw [hd] at this; cases this
  have bb : Same B B' := fun q u e => P.b0 q u (by show upd B dx (.own x) q = some u; rw [upd_ne (ne_of_none e bdx)]; exact e)
  have nout : ∀ q, H q ≠ none → B q = none → B' q = none := fun q n z => by
    have q1 : q ≠ x := fun e => n (by rw [e]; exact hx)
    have q2 : q ≠ dx := fun e => n (by rw [e]; exact hd)
    exact P.out q (by show upd (upd H dx (.own x)) x (.ins C dx []) q ≠ none; rw [upd_ne q1, upd_ne q2]; exact n) (by show upd B dx (.own x) q = none; rw [upd_ne q2]; exact z)
  have al : ∀ q, H q ≠ none → H' q ≠ none := fun q n => by
    cases e : H q with
    | none => exact absurd e n
    | some u => rw [kp q u e]; simp
  have h0 := F.H0none hx
  have bx : B' x = none := P.out x (by show upd (upd H dx (.own x)) x (.ins C dx []) x ≠ none; rw [upd_same]; simp) (by
    show upd B dx (.own x) x = none
    rw [upd_ne (Ne.symm ne)]
    cases e : B x with
    | none => rfl
    | some u => have := F.bh x u e; rw [hx] at this; cases this)
  refine F.move ⟨P.bh, fun q u e => bb q u (F.b0 q u e), fun q u m e => ?_, fun q n z => ?_, fun q n => ?_, fun q u e => ?_, fun q m => ?_, A.up _ _ bb F.ph, P.sz⟩ bb fun q h => ⟨nout q h.2.1 h.1, ?_, kp q⟩
  · by_cases hq : q = x
    · subst hq
      have e' : upd A.H0 q o q = some u := e
      rw [upd_same] at e'
      cases e'; exact ho
    · have e' : upd A.H0 x o q = some u := e
      rw [upd_ne hq] at e'
      exact kp q u (F.keep q u m e')
  · by_cases hq : q = x
    · rw [hq]; exact bx
    · have n' : upd A.H0 x o q ≠ none := n
      rw [upd_ne hq] at n'
      exact nout q (F.alive q n') (F.out q n' z)
  · by_cases hq : q = x
    · rw [hq, ho]; simp
    · have n' : upd A.H0 x o q ≠ none := n
      rw [upd_ne hq] at n'
      exact al q (F.alive q n')
  · have hq : q ≠ x := fun z => by rw [z] at e; exact absurd (F.sub x u e) (by rw [h0]; simp)
    show upd A.H0 x o q = some u
    rw [upd_ne hq]; exact F.sub q u e
  · have := F.mh q m
    have hq : q ≠ x := fun z => this (by rw [z]; exact h0)
    show upd A.H0 x o q ≠ none
    rw [upd_ne hq]; exact this
  · have hq : q ≠ x := fun z => h.2.1 (by rw [z]; exact hx)
    rcases h.2.2 with m | m
    · exact .inl (by show upd A.H0 x o q = none; rw [upd_ne hq]; exact m)
    · exact .inr m
theorem made_pre {σ : L2.St} {H B : Hp} {x dx : Addr} (F : Frm A σ H B Γ) (hx : H x = none) (hd : H dx = none) (ne : dx ≠ x) :
    Sz (upd (upd H dx (.own x)) x (.ins C dx [])) ∧ Same (upd B dx (.own x)) (upd (upd H dx (.own x)) x (.ins C dx [])) ∧ (upd B dx (.own x)) x = none ∧ Same B (upd B dx (.own x)) := by
  have bx : B x = none := by
    cases e : B x with
    | none => rfl
    | some u => have := F.bh x u e; rw [hx] at this; cases this
  have bdx : B dx = none := by
    cases e : B dx with
    | none => rfl
    | some u => have := F.bh dx u e; rw [hd] at this; cases this
  refine ⟨(F.sz.upd (o := .own x) trivial).upd (o := .ins C dx []) trivial, fun q u e => ?_, by rw [upd_ne (Ne.symm ne)]; exact bx, fun q u e => by rw [upd_ne (ne_of_none e bdx)]; exact e⟩
  by_cases hq : q = dx
  · subst hq
    rw [upd_same] at e; cases e
    rw [upd_ne ne, upd_same]
  · rw [upd_ne hq] at e
    rw [upd_ne (ne_of_none (F.bh q u e) hx), upd_ne hq]; exact F.bh q u e
/-- a class is called; its __init__ may raise -/
theorem er_make {wb : Rw β} {m : α → Option (Res ε β)} {x : Res ε β} (hmono : ∀ {H H' cls d e}, Same H H' → R H cls d e → R H' cls d e) (h : EvW w ta Γ Γ1 a) (e : m a = some x) :
    EvR R (rIns C names wb) (fun E => tMakeS C (SpI R C w (cIns C names wb) m) E ta) Γ Γ1 x := fun A σ H B F E Q qo qe => h A σ H B F _ fun vs H1 B1 F1 s1 k1 => by
  intro y dy hy hd ne
  obtain ⟨p1, p2, p3, p4⟩ := made_pre (C := C) F1 hy hd ne
  refine ⟨y, dy, vs, upd B1 dy (.own y), a, x, rfl, upd_same, p3, p1, p2, w.mono p4 k1, e, fun b hb H2 B2 P ⟨o, ho, k⟩ => ⟨rfl, ?_⟩, fun er he cls d H2 B2 P k => ?_⟩
  · have F2 := made_frame (A := A) F1 hy hd ne P ho
    have n0 := F1.H0none hy
    have F3 := F2.adopt n0 F1.sub F1.mh
    have hB2 : B2 y = none := P.out y (by show upd (upd H1 dy (.own y)) y (.ins C dy []) y ≠ none; rw [upd_same]; simp) p3
    have s3 : Same B2 (upd B2 y o) := fun q u e => by rw [upd_ne (ne_of_none e hB2)]; exact e
    exact qo b hb _ _ _ F3 (s1.trans (p4.trans (P.b0.trans s3))) ⟨y, o, rfl, upd_same, (cIns C names wb).mono s3 k⟩
  · -- the object is let go: it is forgotten among what is hidden
    have hox : ∃ o, H2 y = some o := by
      cases q : H2 y with
      | none => exact absurd q (P.alive y (by show upd (upd H1 dy (.own y)) y (.ins C dy []) y ≠ none; rw [upd_same]; simp))
      | some o => exact ⟨o, rfl⟩
    obtain ⟨o, ho⟩ := hox
    exact qe er he cls d _ _ ((made_frame (A := A) F1 hy hd ne P ho).drop (F1.H0none hy) F1.sub F1.mh) (s1.trans (p4.trans P.b0)) k
end
end G

set_option maxHeartbeats 4000000
/-! # G: more words: in, ==, +, append, enumerate -/
namespace G
open PySem PySem.Spec PyProof.Rows L2
section
variable {α β γ ρ ς ε : Type} {r ra : Rp α} {rb : Rp β} {c : Cl α} {te ta tb : TE} {Γ Γ1 Γ2 : List Sl} {K : PySem.W.Frag} {a x : α} {b : β} {w : Rw α} {xs ys zs : List α} {i : Nat} {p : Addr} {A : Amb} {D : Ends} {u : TS}
/-! ### in -/
structure Fl {α : Type} [DecidableEq α] (r : Rp α) extends Sc r where
  fl : ∀ a, flatV (val a) = true
  eq : ∀ a b, eqV (val a) (val b) = decide (a = b)
theorem bq_int (i j : Int) : (i == j) = decide (i = j) := by by_cases h : i = j <;> simp [h]
theorem bq_str (i j : Str) : (i == j) = decide (i = j) := by by_cases h : i = j <;> simp [h]
theorem bq_bool (i j : Bool) : (i == j) = decide (i = j) := by cases i <;> cases j <;> rfl
def fl_int : Fl rInt := { scInt with fl := fun _ => rfl, eq := bq_int }
def fl_str : Fl rStr := { scStr with fl := fun _ => rfl, eq := bq_str }
def fl_bool : Fl rBool := { scBool with fl := fun _ => rfl, eq := bq_bool }
theorem Fl.vals [DecidableEq α] (f : Fl r) {B : Hp} {vs : List V} (h : Paired (r.rel B) vs xs) : vs = xs.map f.val := Paired.mapEq (fun _ _ k => f.ok k) h
theorem Fl.inv [DecidableEq α] (f : Fl r) (a : α) : ∀ xs : List α, inV (f.val a) (xs.map f.val) = decide (a ∈ xs)
  | [] => rfl
  | x :: xs => by
    have ih := f.inv a xs
    unfold inV at ih ⊢
    rw [List.map_cons, List.any_cons, ih, f.eq]
    by_cases h : x = a
    · subst h; simp
    · have h' : ¬ a = x := fun e => h e.symm
      by_cases h2 : a ∈ xs <;> simp [h, h', h2]
theorem Fl.allf [DecidableEq α] (f : Fl r) : ∀ xs : List α, (xs.map f.val).all flatV = true
  | [] => rfl
  | x :: xs => by rw [List.map_cons, List.all_cons, f.fl, f.allf xs]; rfl
theorem rin_of [DecidableEq α] (f : Fl r) {H B : Hp} {v : V} {vs : List V} {q : Addr} (neg : Bool) (hs : SqL K H q vs ∨ SqT K H q vs) (hv : r.rel B v a) (hp : Paired (r.rel B) vs xs) {Q : VK} (k : Q (.bl (if neg then !decide (a ∈ xs) else decide (a ∈ xs))) H) : rIn K neg v (.ref q) H Q := by
  rw [f.ok hv]
  refine ⟨q, vs, rfl, hs, f.fl a, by rw [f.vals hp]; exact f.allf xs, ?_⟩
  rw [f.vals hp, f.inv]; exact k
theorem ev_inL [DecidableEq α] (f : Fl r) (ha : EvX r ta Γ Γ1 a) (hb : EvX (rLst r) tb Γ1 Γ2 xs) : EvX rBool (tOp (rIn K false) ta tb) Γ Γ2 (decide (a ∈ xs)) := ev_op ha hb fun H B u v s ku kv Q q => by
  obtain ⟨p, vs, rfl, hp, k⟩ := ob_lst s kv
  exact rin_of f false (.inl (SqL.of hp)) ku k (q _ rfl)
theorem ev_ninL [DecidableEq α] (f : Fl r) (ha : EvX r ta Γ Γ1 a) (hb : EvX (rLst r) tb Γ1 Γ2 xs) : EvX rBool (tOp (rIn K true) ta tb) Γ Γ2 (!decide (a ∈ xs)) := ev_op ha hb fun H B u v s ku kv Q q => by
  obtain ⟨p, vs, rfl, hp, k⟩ := ob_lst s kv
  exact rin_of f true (.inl (SqL.of hp)) ku k (q _ rfl)
theorem ev_inT [DecidableEq α] (f : Fl r) (ha : EvX r ta Γ Γ1 a) (hb : EvX (rTpl r) tb Γ1 Γ2 xs) : EvX rBool (tOp (rIn K false) ta tb) Γ Γ2 (decide (a ∈ xs)) := ev_op ha hb fun H B u v s ku kv Q q => by
  obtain ⟨p, vs, rfl, hp, k⟩ := ob_tpl s kv
  exact rin_of f false (.inr (SqT.of hp)) ku k (q _ rfl)
theorem ev_ninT [DecidableEq α] (f : Fl r) (ha : EvX r ta Γ Γ1 a) (hb : EvX (rTpl r) tb Γ1 Γ2 xs) : EvX rBool (tOp (rIn K true) ta tb) Γ Γ2 (!decide (a ∈ xs)) := ev_op ha hb fun H B u v s ku kv Q q => by
  obtain ⟨p, vs, rfl, hp, k⟩ := ob_tpl s kv
  exact rin_of f true (.inr (SqT.of hp)) ku k (q _ rfl)
theorem cel_lst {A : Amb} {σ : L2.St} {H B : Hp} (F : Frm A σ H B Γ) (h : Γ[i]? = some (.cel p (cLst r) xs)) : σ[i]? = some (some (V.ref p)) ∧ ∃ vs, H p = some (.lst vs) ∧ Paired (r.rel B) vs xs := by
  obtain ⟨e, o, ho, vs, rfl, k⟩ := cel_at F h
  exact ⟨e, vs, ho, k⟩
theorem ev_inCel [DecidableEq α] (ha : EvX r ta Γ Γ1 a) (hi : Γ1[i]? = some (.cel p (cLst r) xs)) (f : Fl r) : EvX rBool (tOp (rIn K false) ta (tVar i)) Γ Γ1 (decide (a ∈ xs)) := fun A σ H B F Q q => ha A σ H B F _ fun v H' B' F' s k => by
  obtain ⟨e, vs, hp, kp⟩ := cel_lst F' hi
  exact ⟨_, e, rin_of f false (.inl (SqL.of hp)) k kp (q _ H' B' F' s rfl)⟩
theorem ev_ninCel [DecidableEq α] (ha : EvX r ta Γ Γ1 a) (hi : Γ1[i]? = some (.cel p (cLst r) xs)) (f : Fl r) : EvX rBool (tOp (rIn K true) ta (tVar i)) Γ Γ1 (!decide (a ∈ xs)) := fun A σ H B F Q q => ha A σ H B F _ fun v H' B' F' s k => by
  obtain ⟨e, vs, hp, kp⟩ := cel_lst F' hi
  exact ⟨_, e, rin_of f true (.inl (SqL.of hp)) k kp (q _ H' B' F' s rfl)⟩
/-! ### a list of the frame's own -/
theorem ev_lenCel (hi : Γ[i]? = some (.cel p (cLst r) xs)) : EvX rInt (tCB (RLen K) (tCons (tVar i) tNil)) Γ Γ (xs.length : Int) := fun A σ H B F Q q => by
  obtain ⟨e, vs, hp, kp⟩ := cel_lst F hi
  exact ⟨_, e, p, vs, rfl, .inl (SqL.of hp), by rw [Paired.len kp]; exact q _ H B F (Same.refl _) rfl⟩
theorem ev_ixCel {j : Int} (hi : Γ[i]? = some (.cel p (cLst r) xs)) (hi1 : Γ1[i]? = some (.cel p (cLst r) xs)) (hb : EvX rInt tb Γ Γ1 j) (e : atI xs j = some a) : EvX r (tOp (rIxL K) (tVar i) tb) Γ Γ1 a := fun A σ H B F Q q => by
  obtain ⟨e1, vs, hp, kp⟩ := cel_lst F hi
  refine ⟨_, e1, hb A σ H B F _ fun v H' B' F' s k => ?_⟩
  obtain ⟨e2, vs2, hp2, kp2⟩ := cel_lst F' hi1
  obtain ⟨o, ho, ko⟩ := atI_rel kp2 e
  exact ⟨p, vs2, j, o, rfl, k, SqL.of hp2, ho, q o H' B' F' s ko⟩
def pyApp (xs : List α) (a : α) : Option (List α) := if xs.length < 1000000 then some (xs ++ [a]) else none
theorem sq_app {rx : Rp γ} {x0 : List γ} (h : EvX r te Γ Γ1 a) (hi0 : Γ[i]? = some (.cel p (cLst rx) x0)) (hi : Γ1[i]? = some (.cel p (cLst r) xs)) (e : pyApp xs a = some ys) (k : Nx A (u D) (Γ1.set i (.cel p (cLst r) ys))) :
    Nx A (tSeq (tDrop (tBM K "list" rAppend (tVar i) (tCons te tNil))) u D) Γ := fun σ H B F => by
  unfold pyApp at e
  split at e
  · rename_i hl
    cases e
    obtain ⟨e1, vs, hp, kp⟩ := cel_lst F hi0
    refine ⟨_, e1, .inl ⟨rfl, vs, SqL.of hp⟩, h A σ H B F _ fun v H1 B1 F1 s1 k1 => ?_⟩
    obtain ⟨e2, vs2, hp2, kp2⟩ := cel_lst F1 hi
    have hz : vs2.length < sizeLine := by rw [Paired.len kp2]; exact Nat.lt_of_lt_of_le hl (by decide)
    refine ⟨p, vs2, v, rfl, rfl, hp2, hz, k σ _ B1 (F1.write hi (c' := cLst r) (o' := .lst (vs2 ++ [v])) ⟨_, rfl, Paired.app kp2 (.cons k1 .nil)⟩ (by show (vs2 ++ [v]).length ≤ sizeLine; rw [List.length_append, List.length_singleton]; omega))⟩
  · cases e
/-! ### + -/
def pyCat (xs ys : List α) : Option (List α) := if xs.length + ys.length ≤ 1000000 then some (xs ++ ys) else none
theorem ec_cat (ha : EvX (rLst r) ta Γ Γ1 xs) (hb : EvX (rLst r) tb Γ1 Γ2 ys) (e : pyCat xs ys = some zs) : EvC (cLst r) (tOp rCat ta tb) Γ Γ2 zs := by
  unfold pyCat at e
  split at e
  · rename_i hl
    cases e
    refine ev_opC ha hb fun H B u v z s ku kv Q q => ?_
    obtain ⟨p, vs, rfl, hp, k⟩ := ob_lst s ku
    obtain ⟨p2, ws, rfl, hp2, k2⟩ := ob_lst s kv
    have hz : vs.length + ws.length ≤ sizeLine := by rw [Paired.len k, Paired.len k2]; exact Nat.le_trans hl (by decide)
    exact ⟨p, p2, vs, ws, rfl, rfl, hp, hp2, hz, fun l hl => q l _ hl (by show (vs ++ ws).length ≤ sizeLine; rw [List.length_append]; exact hz) ⟨_, rfl, Paired.app k k2⟩⟩
  · cases e
/-! ### enumerate -/
def enumF {α : Type} (n : Nat) : List α → List (Int × α)
  | [] => []
  | a :: xs => (((n : Nat) : Int), a) :: enumF (n + 1) xs
def enumL {α : Type} (xs : List α) : List (Int × α) := enumF 0 xs
theorem enumF_len : ∀ (xs : List α) (n : Nat), (enumF n xs).length = xs.length
  | [], _ => rfl
  | _ :: xs, n => by show (enumF (n + 1) xs).length + 1 = _; rw [enumF_len xs]; rfl
theorem enumF_get : ∀ {xs : List α} {n i : Nat} {y : Int × α}, (enumF n xs)[i]? = some y → ∃ a, xs[i]? = some a ∧ y = (((n + i : Nat) : Int), a)
  | [], _, _, _, h => by cases h
  | a :: xs, n, 0, y, h => by
    have h' : (((n : Nat) : Int), a) = y := by simpa [enumF] using h
    exact ⟨a, rfl, h'.symm⟩
  | a :: xs, n, i + 1, y, h => by
    have h' : (enumF (n + 1) xs)[i]? = some y := by simpa [enumF] using h
    obtain ⟨b, h1, h2⟩ := enumF_get h'
    refine ⟨b, by simpa using h1, ?_⟩
    rw [h2, show n + 1 + i = n + (i + 1) by omega]
theorem enumL_len (xs : List α) : (enumL xs).length = xs.length := enumF_len xs 0
theorem it_enum (h : EvX (rLst r) te Γ Γ1 xs) : ItX (rTup (wC rInt (w1 r))) (iEnum K (tCons te tNil)) Γ Γ1 (enumL xs) := fun A σ H B F R q => h A σ H B F _ fun v H' B' F' s k => by
  obtain ⟨p, o, rfl, hp, vs, rfl, kp⟩ := k
  refine ⟨p, vs, rfl, SqL.of (F'.bh _ _ hp), q _ H' B' F' s ⟨by rw [enumL_len, ← Paired.len kp]; exact F'.sz _ _ (F'.bh _ _ hp), fun H2 B2 s1 s2 => ?_, fun i H2 B2 s1 s2 hi => ?_, fun i x H2 B2 v H3 s1 s2 hx hy A σ Γ F => ?_⟩⟩
  · exact ⟨vs, SqL.of (s2 _ _ (s1 _ _ hp)), by rw [enumL_len, Paired.len kp]; exact Nat.le_refl _⟩
  · rw [enumL_len] at hi
    obtain ⟨y, hy⟩ : ∃ y, vs[i]? = some y := ⟨_, List.getElem?_eq_getElem (by rw [Paired.len kp]; exact hi)⟩
    exact ⟨vs, y, SqL.of (s2 _ _ (s1 _ _ hp)), hy⟩
  · obtain ⟨T, y', rfl, hT, rfl, hv⟩ := hy
    obtain ⟨a, ha, rfl⟩ := enumF_get hx
    obtain ⟨y2, hy', ky⟩ := Paired.getR kp ha
    have e := (hv vs (SqL.of (s2 _ _ (s1 _ _ hp)))).symm
    rw [hy'] at e; obtain rfl := Option.some.inj e
    have hB : B2 T = none := by
      cases q : B2 T with
      | none => rfl
      | some u => have := F.bh T u q; rw [hT] at this; cases this
    have s' : Same B2 (upd B2 T (.tup [.int (i : Nat), y'])) := fun b u e => by rw [upd_ne (ne_of_none e hB)]; exact e
    refine ⟨_, F.plus (o := .tup [.int (i : Nat), y']) hT (by show 2 ≤ sizeLine; decide), s', T, _, rfl, upd_same, _, rfl, .int (i : Nat), [y'], rfl, ?_, y', rfl, r.mono s' (r.mono s1 ky)⟩
    show V.int (i : Nat) = V.int ((0 + i : Nat) : Int)
    rw [Nat.zero_add]
end
end G

set_option maxHeartbeats 4000000
/-! # G: try; classes that are made; methods; data that are compared -/
namespace G
open PySem PySem.Spec PyProof.Rows L2
/-! ### try -/
/-- the suite is told where its reading is told -/
def tSui (X : Cx) (st : List Stmt) : Addr → Value → Option Addr → TS := fun a cls d D σ H => ∃ t : TS, (∀ (oe : Obj) (pn : List (Addr × Obj)), Zc cls d oe → (∃ vs, oe.data = .fields vs) → PSs (X.suite a ((a, oe) :: pn)) st t) ∧ t D σ H
def tBod (X : Cx) (st : List Stmt) (W : WX) : TS := fun D σ H => ∃ t : TS, (∀ (pn : List (Addr × Obj)) (xe : Value → Shared → Prop), Takes (X.tr pn xe) W → PassesOwn (model X.prog X.w) X.A X.env xe → PSs (X.tr pn xe) st t) ∧ t D σ H
section
variable {X : Cx} {x n : Str} {c : Value} {i : Nat} {body suite : List Stmt} {b₀ : Stmt} {np pos pos' : Pos} {Wout : WX}
theorem ps_tryG (hs : X.stack = X.env :: X.outer) (hf : X.env.frame = some X.env.locals) (hN : X.N.Nodup) (hi : X.N[i]? = some n) (hln : X.env.kindOf n = some .local) (hc : Names X x c) (tk : Takes X Wout) :
    PS X (.Try body [.ExceptHandler (some (.Name x np)) (some n) (b₀ :: suite) pos'] [] [] pos) (fun D σ H => tBod X body (wAs X.K c i (tSui X (b₀ :: suite)) Wout D) D σ H) :=
  ps_try_as (tb := fun W => tBod X body W) (ts := tSui X (b₀ :: suite)) hs hf hN hi hln hc tk
    (fun W pn xe tk' po => ⟨fun pins s σ H D I ⟨t, ht, q⟩ => (ht pn xe tk' po).run pins s σ H D I q⟩)
    (fun a oe cls d pn hz hf' => ⟨fun pins s σ H D I ⟨t, ht, q⟩ => (ht oe pn hz hf').run pins s σ H D I q⟩)
end
section
variable {α β γ ρ ς ε ε' : Type} {r ra : Rp α} {rb : Rp β} {rc : Rp γ} {te tb : TE} {ta : TA} {Γ Γ1 Γ2 : List Sl} {K : PySem.W.Frag} {a : α} {b : β} {w : Rw α} {C : Addr} {names : List Str} {A : Amb} {D : Ends} {u : TS} {R : ER ε} {i : Nat}
def resX {ε β γ : Type} (x : Res ε β) (k : β → Option γ) (l : ε → Option γ) : Option γ := match x with
  | .ok b => k b
  | .er e => l e
@[simp] theorem resX_ok (b : β) (k : β → Option γ) (l : ε → Option γ) : resX (.ok b) k l = k b := rfl
@[simp] theorem resX_er (e : ε) (k : β → Option γ) (l : ε → Option γ) : resX (.er e) k l = l e := rfl
/-- what goes on with an error -/
def NxE (W : WX) (A : Amb) (Γ : List Sl) (R : ER ε) (e : ε) : Prop := ∀ cls d σ H B, Frm A σ H B Γ → R B cls d e → W cls d σ H
theorem sq_asgR {W : WX} {tf : (L2.St → XK) → TE} {x : Res ε α} {k : α → Option γ} {l : ε → Option γ} {z : γ} (h : EvR R r tf Γ Γ1 x) (e : resX x k l = some z)
    (ko : ∀ y, k y = some z → Nx A (u D) (Γ1.set i (.imm r y))) (ke : ∀ y, l y = some z → NxE W A Γ1 R y) : Nx A (tSeq (tAsg (tf (WE W)) (gName i)) u D) Γ := fun σ H B F =>
  h A σ H B F _ _ (fun b hb v H' B' F' _ q => ko b (by rw [hb] at e; exact e) _ _ _ (F'.set q)) (fun y hy cls d H' B' F' _ q => ke y (by rw [hy] at e; exact e) _ _ _ _ _ F' q)
theorem sq_dropR {W : WX} {tf : (L2.St → XK) → TE} {x : Res ε α} {k : α → Option γ} {l : ε → Option γ} {z : γ} (h : EvR R r tf Γ Γ1 x) (e : resX x k l = some z)
    (ko : ∀ y, k y = some z → Nx A (u D) Γ1) (ke : ∀ y, l y = some z → NxE W A Γ1 R y) : Nx A (tSeq (tDrop (tf (WE W))) u D) Γ := fun σ H B F =>
  h A σ H B F _ _ (fun b hb v H' B' F' _ q => ko b (by rw [hb] at e; exact e) _ _ _ F') (fun y hy cls d H' B' F' _ q => ke y (by rw [hy] at e; exact e) _ _ _ _ _ F' q)
theorem sq_try {X : Cx} {st : List Stmt} {W : Ends → WX} {t : TS} (hb : ∀ (pn : List (Addr × Obj)) (xe : Value → Shared → Prop), Takes (X.tr pn xe) (W { D with nx := u D }) → PassesOwn (model X.prog X.w) X.A X.env xe → PSs (X.tr pn xe) st t)
    (h : Nx A (t { D with nx := u D }) Γ) : Nx A (tSeq (fun D σ H => tBod X st (W D) D σ H) u D) Γ := fun σ H B F => ⟨t, hb, h σ H B F⟩
/-- the error in a suite -/
def rExc (p : Addr) (d : Option Addr) (C : Addr) (names : List Str) (w : Rw α) : Rp α := ⟨fun H v x => v = .ref p ∧ ErAt H (.ref C) d C names w x, fun s ⟨e, h1, dd, fs, vs, h2, h3, h4, h5⟩ => ⟨e, h1, dd, fs, vs, h2, s _ _ h3, w.mono s h4, h5⟩⟩
theorem ev_xf {p : Addr} {d : Option Addr} {k : Nat} {nm : Str} {f : α → β} (h : EvX (rExc p d C names w) te Γ Γ1 a) (g : Acc w k rb f) (hk : names[k]? = some nm) : EvX rb (tXf p (.ref C) d C nm te) Γ Γ1 (f a) := fun A σ H B F Q q =>
  h A σ H B F _ fun v H1 B1 F1 s1 ⟨e, _, dd, fs, vs, h2, h3, h4, h5⟩ => by
    obtain ⟨y, hy, ky⟩ := g B1 vs a h4
    exact ⟨e, rfl, dd, fs, y, h2, F1.bh _ _ h3, by rw [h5 k nm hk, hy], q y H1 B1 F1 s1 ky⟩
theorem Frm.unset {σ : L2.St} {H B : Hp} (F : Frm A σ H B Γ) (i : Nat) : Frm A (σ.set i none) H B (Γ.set i .no) :=
  F.put (List.length_set) (fun j ne => by rw [List.getElem?_set_ne ne]) fun _ _ _ => trivial
theorem nx_unset {P : L2.St → Hp → Prop} (h : Nx A P (Γ.set i .no)) : Nx A (fun σ H => P (σ.set i none) H) Γ := fun σ H B F => h _ _ _ (F.unset i)
theorem nx_unsetE {D : Ends} (h : Nx A D.nx (Γ.set i .no)) : Nx A ({ nx := fun σ' H' => D.nx (σ'.set i none) H', rt := D.rt, bk := fun σ' H' => D.bk (σ'.set i none) H', ct := fun σ' H' => D.ct (σ'.set i none) H' } : Ends).nx Γ := nx_unset h
/-- an error of the class at C reaches «except C as n» -/
theorem nxe_as {X : Cx} {st : List Stmt} {c : Value} {Wout : WX} {e : α} (hx : PySem.W.exmOne K (.ref C) c = some true)
    (k : ∀ (p : Addr) (d : Option Addr), ∃ t : TS, (∀ (oe : Obj) (pn : List (Addr × Obj)), Zc (.ref C) d oe → (∃ vs, oe.data = .fields vs) → PSs (X.suite p ((p, oe) :: pn)) st t) ∧
      Nx A (t { nx := fun σ' H' => D.nx (σ'.set i none) H', rt := D.rt, bk := fun σ' H' => D.bk (σ'.set i none) H', ct := fun σ' H' => D.ct (σ'.set i none) H' }) (Γ.set i (.imm (rExc p d C names w) e))) :
    NxE (wAs K c i (tSui X st) Wout D) A Γ (fun B cls d x => ErAt B cls d C names w x) e := fun cls d σ H B F he => by
  obtain ⟨rfl, h⟩ := id he
  refine ⟨true, hx, fun _ p hp => ?_, fun q => Bool.noConfusion q⟩
  obtain ⟨t, h1, h2⟩ := k p d
  exact ⟨t, h1, h2 _ _ _ (F.set ⟨rfl, he⟩)⟩
abbrev erC (C : Addr) (names : List Str) (w : Rw α) : ER α := fun B cls d x => ErAt B cls d C names w x
/-- one of two kinds of errors -/
abbrev erS (R1 : ER ε) (R2 : ER ε') : ER (ε ⊕ ε') := fun B cls d x => match x with
  | .inl a => R1 B cls d a
  | .inr b => R2 B cls d b
theorem erC_mono {H H' : Hp} {cls : Value} {d : Option Addr} {e : α} (s : Same H H') (h : erC C names w H cls d e) : erC C names w H' cls d e := by
  obtain ⟨h1, dd, fs, vs, h2, h3, h4, h5⟩ := h
  exact ⟨h1, dd, fs, vs, h2, s _ _ h3, w.mono s h4, h5⟩
theorem erS_mono {R1 : ER ε} {R2 : ER ε'} (h1 : ∀ {H H' : Hp} {cls d e}, Same H H' → R1 H cls d e → R1 H' cls d e) (h2 : ∀ {H H' : Hp} {cls d e}, Same H H' → R2 H cls d e → R2 H' cls d e) {H H' : Hp} {cls : Value} {d : Option Addr} {e : ε ⊕ ε'} (s : Same H H') (h : erS R1 R2 H cls d e) : erS R1 R2 H' cls d e := by
  cases e with
  | inl a => exact h1 s h
  | inr b => exact h2 s h
theorem sq_asgMk {W : WX} {wb : Rw β} {m : α → Option (Res ε β)} {x : Res ε β} {k : β → Option γ} {l : ε → Option γ} {z : γ} (hmono : ∀ {H H' : Hp} {cls d e}, Same H H' → R H cls d e → R H' cls d e) (h : EvW w ta Γ Γ1 a) (e : m a = some x) (q : resX x k l = some z)
    (ko : ∀ y, k y = some z → Nx A (u D) (Γ1.set i (.imm (rIns C names wb) y))) (ke : ∀ y, l y = some z → NxE W A Γ1 R y) : Nx A (tSeq (tAsg (tMakeS C (SpI R C w (cIns C names wb) m) (WE W) ta) (gName i)) u D) Γ :=
  sq_asgR (tf := fun E => tMakeS C (SpI R C w (cIns C names wb) m) E ta) (er_make hmono h e) q ko ke
/-! ### a class whose __init__ does not raise -/
def SpJ {α β : Type} (C : Addr) (w : Rw α) (c : Cl β) (m : α → Option β) : Sp := fun vs H Q E => ∃ p dx vs' B a b, vs = .ref p :: vs' ∧ H p = some (.ins C dx []) ∧ B p = none ∧ Sz H ∧ Same B H ∧ w.rel B vs' a ∧ m a = some b ∧ RtI (ambS B H p) p c b Q
theorem ev_make {wb : Rw β} {m : α → Option β} {E : XK} (h : EvW w ta Γ Γ1 a) (e : m a = some b) : EvX (rIns C names wb) (tMake C (SpJ C w (cIns C names wb) m) [] E ta) Γ Γ1 b := fun A σ H B F Q q => h A σ H B F _ fun vs H1 B1 F1 s1 k1 => by
  intro y dy hy hd ne
  obtain ⟨p1, p2, p3, p4⟩ := made_pre (C := C) F1 hy hd ne
  refine ⟨y, dy, vs, upd B1 dy (.own y), a, b, by rw [List.append_nil], upd_same, p3, p1, p2, w.mono p4 k1, e, fun H2 B2 P ⟨o, ho, k⟩ => ⟨rfl, ?_⟩⟩
  have F2 := made_frame (A := A) F1 hy hd ne P ho
  have F3 := F2.adopt (F1.H0none hy) F1.sub F1.mh
  have hB2 : B2 y = none := P.out y (by show upd (upd H1 dy (.own y)) y (.ins C dy []) y ≠ none; rw [upd_same]; simp) p3
  have s3 : Same B2 (upd B2 y o) := fun q u e => by rw [upd_ne (ne_of_none e hB2)]; exact e
  exact q _ _ _ F3 (s1.trans (p4.trans (P.b0.trans s3))) ⟨y, o, rfl, upd_same, (cIns C names wb).mono s3 k⟩
/-! ### methods -/
theorem ins_no {vs : List V} {nm : Str} (hn : nm ∉ names) : (names.zip vs).lookup nm = none := zip_none hn
theorem ev_meth {w' : Rw β} {m : α × β → Option γ} {E : XK} {nm : Str} {z : γ} (h : EvX (rIns C names w) te Γ Γ1 a) (hb : EvW w' ta Γ1 Γ2 b) (e : m (a, b) = some z) (hn : nm ∉ names) :
    EvX rc (tMeth C nm (SpP (wC (rIns C names w) w') rc m) [] E te ta) Γ Γ2 z := fun A σ H B F Q q => h A σ H B F _ fun v H1 B1 F1 s1 k1 => by
  obtain ⟨p, dx, vs, rfl, hp, l, kw⟩ := ob_ins F1.bh k1
  refine ⟨p, dx, _, rfl, hp, ins_no hn, hb A σ H1 B1 F1 _ fun us H2 B2 F2 s2 k2 => ?_⟩
  rw [List.append_nil]
  exact ⟨B2, (a, b), z, F2.sz, F2.bh, ⟨_, us, rfl, (rIns C names w).mono s2 k1, k2⟩, e, fun H3 B3 v3 P k3 => q v3 H3 B3 (F2.after P) ((s1.trans s2).trans P.b0) k3⟩
theorem ec_meth {w' : Rw β} {c : Cl γ} {m : α × β → Option γ} {E : XK} {nm : Str} {z : γ} (h : EvX (rIns C names w) te Γ Γ1 a) (hb : EvW w' ta Γ1 Γ2 b) (e : m (a, b) = some z) (hn : nm ∉ names) :
    EvC c (tMeth C nm (SpC (wC (rIns C names w) w') c m) [] E te ta) Γ Γ2 z := fun A σ H B F Q q => h A σ H B F _ fun v H1 B1 F1 s1 k1 => by
  obtain ⟨p, dx, vs, rfl, hp, l, kw⟩ := ob_ins F1.bh k1
  refine ⟨p, dx, _, rfl, hp, ins_no hn, hb A σ H1 B1 F1 _ fun us H2 B2 F2 s2 k2 => ?_⟩
  rw [List.append_nil]
  exact ⟨B2, (a, b), z, F2.sz, F2.bh, ⟨_, us, rfl, (rIns C names w).mono s2 k1, k2⟩, e, fun q2 o H3 B3 P hq k3 => q q2 o H3 B3 (F2.afterC P hq) (F2.H0none hq) ((s1.trans s2).trans P.b0) k3⟩
theorem ev_meth0 {m : α → Option γ} {E : XK} {nm : Str} {z : γ} (h : EvX (rIns C names w) te Γ Γ1 a) (e : m a = some z) (hn : nm ∉ names) :
    EvX rc (tMeth C nm (SpP (w1 (rIns C names w)) rc m) [] E te tNil) Γ Γ1 z := fun A σ H B F Q q => h A σ H B F _ fun v H1 B1 F1 s1 k1 => by
  obtain ⟨p, dx, vs, rfl, hp, l, kw⟩ := ob_ins F1.bh k1
  exact ⟨p, dx, _, rfl, hp, ins_no hn, B1, a, z, F1.sz, F1.bh, ⟨_, rfl, k1⟩, e, fun H3 B3 v3 P k3 => q v3 H3 B3 (F1.after P) (s1.trans P.b0) k3⟩
theorem ec_meth0 {c : Cl γ} {m : α → Option γ} {E : XK} {nm : Str} {z : γ} (h : EvX (rIns C names w) te Γ Γ1 a) (e : m a = some z) (hn : nm ∉ names) :
    EvC c (tMeth C nm (SpC (w1 (rIns C names w)) c m) [] E te tNil) Γ Γ1 z := fun A σ H B F Q q => h A σ H B F _ fun v H1 B1 F1 s1 k1 => by
  obtain ⟨p, dx, vs, rfl, hp, l, kw⟩ := ob_ins F1.bh k1
  exact ⟨p, dx, _, rfl, hp, ins_no hn, B1, a, z, F1.sz, F1.bh, ⟨_, rfl, k1⟩, e, fun q2 o H3 B3 P hq k3 => q q2 o H3 B3 (F1.afterC P hq) (F1.H0none hq) (s1.trans P.b0) k3⟩
/-! ### isinstance, the answer known -/
def TyR (K : PySem.W.Frag) (r : Rp α) (t : Value) : Prop := ∀ H v a, r.rel H v a → TyX K H v t
theorem ev_isi {t v : Value} {c : V} {k : Bool} (h : EvX r te Γ Γ1 a) (ty : TyR K r t) (hc : ClsV c v) (kit : PySem.W.kitOne K t v = some k) : EvX rBool (tCB (rIsi K) (tCons te (tCons (tC c) tNil))) Γ Γ1 k := fun A σ H B F Q q =>
  h A σ H B F _ fun x H1 B1 F1 s1 k1 => ⟨x, c, t, v, k, rfl, hc, ty _ _ _ (r.mono F1.bh k1), kit, q _ _ _ F1 s1 rfl⟩
theorem ty_bool : TyR K rBool (.type "bool") := fun H v a h => by rw [show v = _ from h]; exact .base (.bl _)
theorem ty_int : TyR K rInt (.type "int") := fun H v a h => by rw [show v = _ from h]; exact .base (.int _)
theorem ty_str : TyR K rStr (.type "str") := fun H v a h => by rw [show v = _ from h]; exact .base (.str _)
theorem ty_non : TyR K rNon (.type "NoneType") := fun H v a h => by rw [show v = _ from h]; exact .base .non
theorem ty_lst : TyR K (rOb (cLst r)) (.type "list") := fun H v a ⟨p, o, e, hp, vs, eo, k⟩ => by subst e; subst eo; exact .base (.lst hp)
theorem ty_hls : TyR K (rOb (cHls w)) (.type "list") := fun H v a ⟨p, o, e, hp, vs, eo, k⟩ => by subst e; subst eo; exact .base (.lst hp)
theorem ty_tpl : TyR K (rOb (cTpl r)) (.type "tuple") := fun H v a ⟨p, o, e, hp, vs, eo, k⟩ => by subst e; subst eo; exact .base (.tup hp)
theorem ty_tup : TyR K (rOb (cTup w)) (.type "tuple") := fun H v a ⟨p, o, e, hp, vs, eo, k⟩ => by subst e; subst eo; exact .base (.tup hp)
theorem nn_ins : NN (rIns C names w) := nn_ob
end
/-! ### data of any shape -/
theorem Same.seqT {K : PySem.W.Frag} {H H' : Hp} {a : Addr} {xs : List V} (e : Same H H') (h : SqT K H a xs) : SqT K H' a xs := by
  rcases h with (h | ⟨o, h⟩) | h
  · exact .inl (.inl (e _ _ h))
  · exact .inl (.inr ⟨o, e _ _ h⟩)
  · exact .inr h
mutual
theorem dp_mono {K : PySem.W.Frag} {H H' : Hp} (s : Same H H') : ∀ (d : PyData) (v : V), Dp K H v d → Dp K H' v d
  | .none, _, h => by cases h; exact .non
  | .bool b, _, h => by cases h; exact .bl b
  | .int i, _, h => by cases h; exact .int i
  | .str x, _, h => by cases h; exact .str x
  | .list ds, _, h => by
    cases h with
    | lst hs ha => exact .lst (s.seq hs) (dpAll_mono s ds _ ha)
  | .tuple ds, _, h => by
    cases h with
    | tup hs ha => exact .tup (Same.seqT s hs) (dpAll_mono s ds _ ha)
  | .dict _, _, h => by cases h
theorem dpAll_mono {K : PySem.W.Frag} {H H' : Hp} (s : Same H H') : ∀ (ds : List PyData) (vs : List V), DpAll K H vs ds → DpAll K H' vs ds
  | [], _, h => by cases h; exact .nil
  | d :: ds, _, h => by
    cases h with
    | cons h1 h2 => exact .cons (dp_mono s d _ h1) (dpAll_mono s ds _ h2)
end
def rDyn (K : PySem.W.Frag) : Rp PyData := ⟨fun H v d => Dp K H v d, fun s h => dp_mono s _ _ h⟩
def Da {α : Type} (K : PySem.W.Frag) (r : Rp α) (f : α → PyData) : Prop := ∀ H v a, r.rel H v a → Dp K H v (f a)
def DaW {α : Type} (K : PySem.W.Frag) (w : Rw α) (f : α → List PyData) : Prop := ∀ H vs a, w.rel H vs a → DpAll K H vs (f a)
def dOpt {α : Type} (f : α → PyData) : Option α → PyData
  | none => .none
  | some a => f a
def dLst {α : Type} (f : α → PyData) (xs : List α) : PyData := .list (xs.map f)
def dTpl {α : Type} (f : α → PyData) (xs : List α) : PyData := .tuple (xs.map f)
def dTup {α : Type} (f : α → List PyData) (a : α) : PyData := .tuple (f a)
def dHls {α : Type} (f : α → List PyData) (a : α) : PyData := .list (f a)
def dw0 : Unit → List PyData := fun _ => []
def dw1 {α : Type} (f : α → PyData) (a : α) : List PyData := [f a]
def dwC {α β : Type} (f : α → PyData) (g : β → List PyData) (a : α × β) : List PyData := f a.1 :: g a.2
def dNon : Unit → PyData := fun _ => .none
def dId : PyData → PyData := fun d => d
section
variable {α β γ : Type} {K : PySem.W.Frag} {r ra : Rp α} {rb : Rp β} {w : Rw α} {wb : Rw β} {f : α → PyData} {g : β → PyData} {fw : α → List PyData} {gw : β → List PyData} {Γ Γ1 Γ2 : List Sl} {te ta tb : TE} {x : α} {y : β}
theorem da_int : Da K rInt PyData.int := fun H v a h => by rw [show v = _ from h]; exact .int a
theorem da_str : Da K rStr PyData.str := fun H v a h => by rw [show v = _ from h]; exact .str a
theorem da_bool : Da K rBool PyData.bool := fun H v a h => by rw [show v = _ from h]; exact .bl a
theorem da_non : Da K rNon dNon := fun H v a h => by rw [show v = _ from h]; exact .non
theorem da_dyn : Da K (rDyn K) dId := fun H v a h => h
theorem da_opt (h : Da K r f) : Da K (rOpt r) (dOpt f) := fun H v a k => by
  cases a with
  | none => rw [show v = _ from k]; exact .non
  | some a => exact h H v a k.1
theorem dp_all (h : Da K r f) {H : Hp} : ∀ {vs : List V} {xs : List α}, Paired (r.rel H) vs xs → DpAll K H vs (xs.map f)
  | _, _, .nil => .nil
  | _, _, .cons q t => .cons (h _ _ _ q) (dp_all h t)
theorem da_lst (h : Da K r f) : Da K (rOb (cLst r)) (dLst f) := fun H v a ⟨p, o, e, hp, vs, eo, k⟩ => by
  subst e; subst eo
  exact .lst (SqL.of hp) (dp_all h k)
theorem da_tpl (h : Da K r f) : Da K (rOb (cTpl r)) (dTpl f) := fun H v a ⟨p, o, e, hp, vs, eo, k⟩ => by
  subst e; subst eo
  exact .tup (SqT.of hp) (dp_all h k)
theorem da_tup (h : DaW K w fw) : Da K (rOb (cTup w)) (dTup fw) := fun H v a ⟨p, o, e, hp, vs, eo, k⟩ => by
  subst e; subst eo
  exact .tup (SqT.of hp) (h _ _ _ k)
theorem da_hls (h : DaW K w fw) : Da K (rOb (cHls w)) (dHls fw) := fun H v a ⟨p, o, e, hp, vs, eo, k⟩ => by
  subst e; subst eo
  exact .lst (SqL.of hp) (h _ _ _ k)
theorem daw_0 : DaW K w0 dw0 := fun H vs a h => by rw [show vs = [] from h]; exact .nil
theorem daw_1 (h : Da K r f) : DaW K (w1 r) (dw1 f) := fun H vs a ⟨v, e, k⟩ => by rw [e]; exact .cons (h _ _ _ k) .nil
theorem daw_C (h : Da K r f) (hw : DaW K wb gw) : DaW K (wC r wb) (dwC f gw) := fun H vs a ⟨v, t, e, k, k2⟩ => by rw [e]; exact .cons (h _ _ _ k) (hw _ _ _ k2)
theorem ev_dyn (d : Da K r f) (h : EvX r te Γ Γ1 x) : EvX (rDyn K) te Γ Γ1 (f x) := fun A σ H B F Q q => h A σ H B F Q fun v H' B' F' s k => q v H' B' F' s (d _ _ _ k)
theorem nn_dyn_tup {K : PySem.W.Frag} : True := trivial
def pyEq (d e : PyData) : Option Bool := if SeqAt.shaped d = true ∧ SeqAt.shaped e = true then some (PyData.eqv d e) else none
theorem ev_eqD {b : Bool} (da : Da K ra f) (db : Da K rb g) (ha : EvX ra ta Γ Γ1 x) (hb : EvX rb tb Γ1 Γ2 y) (e : pyEq (f x) (g y) = some b) : EvX rBool (tOp (rEqD K) ta tb) Γ Γ2 b := by
  unfold pyEq at e
  split at e
  · rename_i hs
    cases e
    exact ev_op ha hb fun H B u v s ku kv Q q => ⟨_, _, dp_mono s _ _ (da _ _ _ ku), dp_mono s _ _ (db _ _ _ kv), hs.1, hs.2, q _ rfl⟩
  · cases e
theorem ev_neD {b : Bool} (da : Da K ra f) (db : Da K rb g) (ha : EvX ra ta Γ Γ1 x) (hb : EvX rb tb Γ1 Γ2 y) (e : pyEq (f x) (g y) = some b) : EvX rBool (tOp (rNeD K) ta tb) Γ Γ2 (!b) := by
  unfold pyEq at e
  split at e
  · rename_i hs
    cases e
    exact ev_op ha hb fun H B u v s ku kv Q q => ⟨_, _, dp_mono s _ _ (da _ _ _ ku), dp_mono s _ _ (db _ _ _ kv), hs.1, hs.2, q _ rfl⟩
  · cases e
end
end G

set_option maxHeartbeats 4000000
/-! # G: len(set(..)) -/
namespace G
open PySem PySem.Spec PyProof.Rows L2
/-- the different ones, in the order of coming -/
def dst {α : Type} [DecidableEq α] (xs : List α) : List α := xs.foldl (fun l x => if x ∈ l then l else l ++ [x]) []
section
variable {κ : Type} [DecidableEq κ]
theorem dst_app (xs : List κ) (x : κ) : dst (xs ++ [x]) = if x ∈ dst xs then dst xs else dst xs ++ [x] := by
  unfold dst
  rw [List.foldl_append]
  rfl
theorem mem_dstF {x : κ} : ∀ (xs l : List κ), x ∈ xs.foldl (fun l x => if x ∈ l then l else l ++ [x]) l ↔ x ∈ l ∨ x ∈ xs
  | [], l => by simp
  | y :: ys, l => by
    rw [List.foldl_cons, mem_dstF ys]
    by_cases h : y ∈ l
    · rw [if_pos h, List.mem_cons]
      exact ⟨fun q => q.elim .inl fun q => .inr (.inr q), fun q => q.elim .inl fun q => q.elim (fun e => .inl (e ▸ h)) .inr⟩
    · rw [if_neg h, List.mem_append, List.mem_singleton, List.mem_cons, or_assoc]
theorem mem_dst {x : κ} {xs : List κ} : x ∈ dst xs ↔ x ∈ xs := by
  unfold dst
  rw [mem_dstF]
  simp
theorem dst_le : ∀ xs : List κ, (dst xs).length ≤ xs.length := fun xs => by
  suffices h : ∀ (ys l : List κ), (ys.foldl (fun l x => if x ∈ l then l else l ++ [x]) l).length ≤ l.length + ys.length by simpa [dst] using h xs []
  intro ys
  induction ys with
  | nil => intro l; simp
  | cons y ys ih =>
    intro l
    rw [List.foldl_cons]
    refine Nat.le_trans (ih _) ?_
    rw [List.length_cons]
    split
    · omega
    · rw [List.length_append, List.length_singleton]; omega
variable {prog : Program} {w : World} {knd : KeyKind prog w κ} {A : Around} {R : Result → Shared → Prop} {E : Value → Shared → Prop} {it : Addr} {fp wr : List Addr} {Gg : Array GenState → Array GenState → Prop} {n : Nat} {P : Nat → Value → Prop} {St : Nat → Shared → Prop} {z : Shared}
/-- what is walked goes into the set at D -/
theorem fill_loop (W : WalksS prog w A.in1 it fp wr Gg n P St) (D : Addr) (hD : D ∉ fp) (ks : List κ) (hn : ks.length = n) (hb : n < 2000)
    (hv : ∀ (i : Nat) (v : Value), P i v → ∃ k, ks[i]? = some k ∧ knd.is k v = true ∧ v.scannable = true) : ∀ (m i : Nat) (z : Shared), n - i = m → i ≤ n → St i z →
      z.heap.SetOf knd D (fun x => decide (x ∈ ks.take i)) (dst (ks.take i)).length →
      (∀ z2, Moved (D :: wr) Gg z z2 → z2.heap.SetOf knd D (fun x => decide (x ∈ ks)) (dst ks).length → R (.ok (.ret .none)) z2) →
      codeAny (model prog w) A (.builtin "set.update.loop" ⟨[.ref D, .ref it], []⟩) R z := by
  have hw : D ∉ wr := fun q => hD (W.sub _ q)
  have up : ∀ b ∈ wr, b ∈ D :: wr := fun b q => List.mem_cons_of_mem D q
  have mv : ∀ {g g2 : Heap} {S : κ → Bool} {c : Nat}, (∀ o, g.get? D = some o → g2.get? D = some o) → g.SetOf knd D S c → g2.SetOf knd D S c := fun k ⟨o, es, ep, t, ho, r⟩ => ⟨o, es, ep, t, k o ho, r⟩
  intro m
  induction m with
  | zero =>
    intro i z e le st so fin
    have e2 : i = n := by omega
    subst e2
    refine codeAny_builtin PyProof.Rows.F.entry_set_update_loop ?_
    rw [Around.under_plainId (A := A) PyProof.Rows.F.plain_set_update_loop _]
    show wpAny _ A.in1 (pyNext (.ref it) >>= _) _ _ z
    refine wpAny_bind (W.done z _ _ st fun z2 m2 => ?_)
    show wpAny _ A.in1 (ret Value.none) _ _ z2
    have so2 := mv (m2.heap D · hw) so
    rw [List.take_of_length_le (by omega)] at so2
    exact wpAny_pure (fin z2 (m2.mono up) so2)
  | succ m ih =>
    intro i z e le st so fin
    have lt : i < n := by omega
    refine codeAny_builtin PyProof.Rows.F.entry_set_update_loop ?_
    rw [Around.under_plainId (A := A) PyProof.Rows.F.plain_set_update_loop _]
    show wpAny _ A.in1 (pyNext (.ref it) >>= _) _ _ z
    refine wpAny_bind (W.item i z _ _ lt st fun v z2 hP st2 m2 => ?_)
    obtain ⟨k, hk, hkv, hsc⟩ := hv i v hP
    have so2 := mv (m2.heap D · hw) so
    have tk : ks.take (i + 1) = ks.take i ++ [k] := by rw [List.take_add_one, hk]; rfl
    show wpAny _ A.in1 (holding [v] (setAdd D v) >>= _) _ _ z2
    refine wpAny_bind (wpAny_holding ?_)
    unfold setAdd
    refine wpAny_holding (wpAny_bind (knd.pyHash hkv ?_))
    have dl := dst_le (ks.take i)
    have tl : (ks.take i).length ≤ i := by rw [List.length_take]; omega
    refine wpAny_setAddHashed_of (s := { z2 with toks := z2.toks + 1 }) hkv hsc so2 (by unfold scanBound; omega) fun g sb so3 => ?_
    have so4 : g.SetOf knd D (fun x => decide (x ∈ ks.take (i + 1))) (dst (ks.take (i + 1))).length := by
      refine PyProof.Rows.SetOf_congr so3 (fun x => ?_) ?_
      · rw [tk]
        by_cases h1 : x ∈ ks.take i <;> by_cases h2 : x = k <;> simp [h1, h2, List.mem_append]
      · rw [tk, dst_app]
        by_cases h1 : k ∈ ks.take i
        · rw [if_pos (decide_eq_true h1), if_pos (mem_dst.mpr h1)]
        · rw [if_neg (by simpa using h1), if_neg (fun q => h1 (mem_dst.mp q)), List.length_append, List.length_singleton]
    refine wpAny_pure (And.intro (plainId_quiet PyProof.Rows.F.plain_set_update_loop _) (ih (i + 1) _ (by omega) lt (W.frame _ z2 _ _ st2 (Nat.le_succ _) fun b q o ho => (sb.2 b (fun h => hD (h ▸ q))).trans ho) so4 fun z3 m3 so5 => fin z3 ?_ so5))
    exact Moved.trans W.gtrans ((m2.mono up).then_heap (Nat.le_succ _) fun b o q ho => (sb.2 b (fun h => q (h ▸ List.mem_cons_self))).trans ho) m3

set_option maxHeartbeats 8000000 in
theorem set_of_list {p : Addr} {its : Array Value} {ks : List κ} {G : Value → Shared → Prop} (hd : A.handled = none) (hp : z.heap.IsList p its) (hn : ks.length = its.size) (hb : its.size < 2000)
    (hv : ∀ (i : Nat) (v : Value), its[i]? = some v → ∃ k, ks[i]? = some k ∧ knd.is k v = true ∧ v.scannable = true)
    (fin : ∀ (g : Heap) (tk : Nat), g.SetOf knd z.heap.objs.size (fun x => decide (x ∈ ks)) (dst ks).length → (∀ b o, z.heap.get? b = some o → g.get? b = some o) → G (.ref z.heap.objs.size) { z with heap := g, toks := tk }) :
    wpAny (model prog w) A (call (.type "set") [.ref p]) G E z := by
  obtain ⟨mc, mt, m0⟩ := PySem.F.called_set.mro
  have m1 := PySem.F.called_set.made
  have m2 := PySem.F.called_set.sub
  refine wpAny_call (codeAny_of_tree ?_)
  show wpAny _ _ (callAny (.type "set") (_ : Args)) _ _ z
  refine wpAny_pure (And.intro (Code.quiet_builtin _ (by decide +kernel)) (codeAny_builtin PySem.F.entry_type_call ?_))
  rw [Around.under_plain (weight_type_call_type "set" [Value.ref p] ([] : List (Str × Value))) (by rfl)]
  have m3 := PySem.F.called_set.notType
  have m4 := PySem.F.called_set.canCreate
  have m5 := PySem.F.typeCall_set_1 (Value.ref p)
  repeat (any_goals (first | assumption | wp_step))
  let ob : Bool → Obj := fun led => { cls := .type "set", dict := none, data := .set #[] 0 (.fresh 0 0 led) }
  refine codeAny_mono (code_set_new_1 (Value.ref p) (E := E) (Q₁ := fun v z1 => ∃ led : Bool, v = Value.ref z.heap.objs.size ∧ z1 = { z with heap := z.heap.push (ob led) }) fun led => ⟨led, rfl, rfl⟩) fun r0 z1 q0 => ?_
  cases r0 with
  | error e => exact q0
  | ok fl0 =>
    cases fl0 with
    | next => exact q0.elim
    | brk => exact q0.elim
    | cont => exact q0.elim
    | ret v0 =>
      obtain ⟨led, rfl, rfl⟩ := q0
      have at0 : (z.heap.push (ob led)).get? z.heap.objs.size = some (ob led) := Heap.get?_push_size _ rfl
      have ty0 : Shared.TypeIs { z with heap := z.heap.push (ob led) } (.ref z.heap.objs.size) "set" := ⟨_, at0, rfl⟩
      have i1 := PySem.F.called_set.init.lookup
      have i2 := PySem.F.called_set.init.bind (Value.ref z.heap.objs.size)
      repeat (any_goals (first | assumption | wp_step))
      refine codeAny_mono (codeAny_call_builtin (R := wants (fun v z2 => v = .none ∧ ∃ g tk, z2 = { z with heap := g, toks := tk } ∧ g.SetOf knd z.heap.objs.size (fun x => decide (x ∈ ks)) (dst ks).length ∧
          (∀ b o, z.heap.get? b = some o → g.get? b = some o)) E) PySem.F.called_set.init.plain PySem.F.entry_set_init (check_set_init_1 ty0 ?_)) fun r2 z2 q2 => ?_
      · obtain ⟨u0, a0, c0, n0, d0⟩ := hp
        obtain ⟨uc, ud, ux, us⟩ := u0
        simp only at c0 d0
        subst c0; subst d0
        have a1 : (z.heap.push (ob led)).get? p = some { cls := .type "list", dict := ud, data := .seq its n0, slots := us } := Heap.get?_push_of_some _ a0
        have s1 := PySem.F.sub_list_set
        have s2 := PySem.F.sub_list_frozenset
        have s3 : (Value.type "list" == Value.type "dict") = false := by decide
        have l1 : (z.heap.push (ob led)).IsList p its := ⟨_, a1, rfl, n0, rfl⟩
        unfold Builtin.«set.__init__» noKeywords Builtin.Frozenset.updateFrom
        generalize hit : pyIter = itf
        wp_walk
        subst hit
        refine wpAny_pyIter_list l1 (wpAny_bind (wpAny_runValue ?_))
        have pl : p < z.heap.objs.size := Heap.lt_size a0
        have h3 : A.in1.in1.in1.handled = none := by simp [hd]
        have sz1 : (z.heap.push (ob led)).objs.size = z.heap.objs.size + 1 := Heap.size_push ..
        have ne1 : p ≠ (z.heap.push (ob led)).objs.size := by rw [sz1]; exact Nat.ne_of_lt (Nat.lt_succ_of_lt pl)
        have sf : z.heap.objs.size ∉ [(z.heap.push (ob led)).objs.size, p] := fun hm => by
          rw [sz1] at hm
          rcases List.mem_cons.mp hm with e | hm
          · exact Nat.ne_of_lt (Nat.lt_succ_self _) e
          · exact Nat.ne_of_gt pl (List.mem_singleton.mp hm)
        refine fill_loop ((Walks.list h3 _ p ne1 its).toS) z.heap.objs.size sf ks hn hb hv (its.size - 0) 0 _ (by omega) (Nat.zero_le _) ⟨⟨_, Heap.get?_push_size _ rfl, rfl, rfl⟩, l1.push _⟩ ?w0 ?w1
        case w0 =>
          exact PyProof.Rows.SetOf_congr ((PyProof.Rows.setObjOf_fresh (knd := knd) led).setOf (Heap.get?_push_of_some _ at0) (by unfold scanBound; omega)) (fun x => by simp) (by simp [dst])
        case w1 =>
          intro z3 mv st3
          obtain ⟨g3, e3, d3, t3, o3⟩ := z3
          obtain rfl : e3 = z.gens := mv.gens
          obtain rfl : d3 = z.drawn := mv.drawn
          obtain rfl : o3 = z.os := mv.os
          show wpAny _ _ _ _ _ (_ : Shared)
          refine wpAny_pure ?_
          show wpAny _ _ (ret Value.none) _ _ (_ : Shared)
          refine wpAny_pure ⟨rfl, g3, t3, rfl, st3, fun b o hbo => mv.heap b o (fun hm => ?_) (Heap.get?_push_of_some _ (Heap.get?_push_of_some _ hbo))⟩
          have bl := Heap.lt_size hbo
          rcases List.mem_cons.mp hm with e | hm
          · exact Nat.ne_of_lt bl e
          · rw [List.mem_singleton, sz1] at hm; exact Nat.ne_of_lt (Nat.lt_succ_of_lt bl) hm
      · cases r2 with
        | error e => exact q2
        | ok fl2 =>
          cases fl2 with
          | next => exact q2.elim
          | brk => exact q2.elim
          | cont => exact q2.elim
          | ret v2 =>
            obtain ⟨rfl, g2, t2, rfl, st2, kp2⟩ := q2
            repeat (any_goals (first | assumption | wp_step))
            exact fin _ _ st2 kp2

set_option maxHeartbeats 8000000 in
theorem set_of_tuple {p : Addr} {its : Array Value} {ks : List κ} {G : Value → Shared → Prop} (hd : A.handled = none) (hp : z.heap.IsTuple p its) (hn : ks.length = its.size) (hb : its.size < 2000)
    (hv : ∀ (i : Nat) (v : Value), its[i]? = some v → ∃ k, ks[i]? = some k ∧ knd.is k v = true ∧ v.scannable = true)
    (fin : ∀ (g : Heap) (tk : Nat), g.SetOf knd z.heap.objs.size (fun x => decide (x ∈ ks)) (dst ks).length → (∀ b o, z.heap.get? b = some o → g.get? b = some o) → G (.ref z.heap.objs.size) { z with heap := g, toks := tk }) :
    wpAny (model prog w) A (call (.type "set") [.ref p]) G E z := by
  obtain ⟨mc, mt, m0⟩ := PySem.F.called_set.mro
  have m1 := PySem.F.called_set.made
  have m2 := PySem.F.called_set.sub
  refine wpAny_call (codeAny_of_tree ?_)
  show wpAny _ _ (callAny (.type "set") (_ : Args)) _ _ z
  refine wpAny_pure (And.intro (Code.quiet_builtin _ (by decide +kernel)) (codeAny_builtin PySem.F.entry_type_call ?_))
  rw [Around.under_plain (weight_type_call_type "set" [Value.ref p] ([] : List (Str × Value))) (by rfl)]
  have m3 := PySem.F.called_set.notType
  have m4 := PySem.F.called_set.canCreate
  have m5 := PySem.F.typeCall_set_1 (Value.ref p)
  repeat (any_goals (first | assumption | wp_step))
  let ob : Bool → Obj := fun led => { cls := .type "set", dict := none, data := .set #[] 0 (.fresh 0 0 led) }
  refine codeAny_mono (code_set_new_1 (Value.ref p) (E := E) (Q₁ := fun v z1 => ∃ led : Bool, v = Value.ref z.heap.objs.size ∧ z1 = { z with heap := z.heap.push (ob led) }) fun led => ⟨led, rfl, rfl⟩) fun r0 z1 q0 => ?_
  cases r0 with
  | error e => exact q0
  | ok fl0 =>
    cases fl0 with
    | next => exact q0.elim
    | brk => exact q0.elim
    | cont => exact q0.elim
    | ret v0 =>
      obtain ⟨led, rfl, rfl⟩ := q0
      have at0 : (z.heap.push (ob led)).get? z.heap.objs.size = some (ob led) := Heap.get?_push_size _ rfl
      have ty0 : Shared.TypeIs { z with heap := z.heap.push (ob led) } (.ref z.heap.objs.size) "set" := ⟨_, at0, rfl⟩
      have i1 := PySem.F.called_set.init.lookup
      have i2 := PySem.F.called_set.init.bind (Value.ref z.heap.objs.size)
      repeat (any_goals (first | assumption | wp_step))
      refine codeAny_mono (codeAny_call_builtin (R := wants (fun v z2 => v = .none ∧ ∃ g tk, z2 = { z with heap := g, toks := tk } ∧ g.SetOf knd z.heap.objs.size (fun x => decide (x ∈ ks)) (dst ks).length ∧
          (∀ b o, z.heap.get? b = some o → g.get? b = some o)) E) PySem.F.called_set.init.plain PySem.F.entry_set_init (check_set_init_1 ty0 ?_)) fun r2 z2 q2 => ?_
      · obtain ⟨u0, a0, c0, n0, d0⟩ := hp
        obtain ⟨uc, ud, ux, us⟩ := u0
        simp only at c0 d0
        subst c0; subst d0
        have a1 : (z.heap.push (ob led)).get? p = some { cls := .type "tuple", dict := ud, data := .seq its n0, slots := us } := Heap.get?_push_of_some _ a0
        have s1 := PySem.F.sub_tuple_set
        have s2 := PySem.F.sub_tuple_frozenset
        have s3 : (Value.type "tuple" == Value.type "dict") = false := by decide
        have l1 : (z.heap.push (ob led)).IsTuple p its := ⟨_, a1, rfl, n0, rfl⟩
        unfold Builtin.«set.__init__» noKeywords Builtin.Frozenset.updateFrom
        generalize hit : pyIter = itf
        wp_walk
        subst hit
        refine wpAny_pyIter_tuple l1 (wpAny_bind (wpAny_runValue ?_))
        have pl : p < z.heap.objs.size := Heap.lt_size a0
        have h3 : A.in1.in1.in1.handled = none := by simp [hd]
        have sz1 : (z.heap.push (ob led)).objs.size = z.heap.objs.size + 1 := Heap.size_push ..
        have ne1 : p ≠ (z.heap.push (ob led)).objs.size := by rw [sz1]; exact Nat.ne_of_lt (Nat.lt_succ_of_lt pl)
        have sf : z.heap.objs.size ∉ [(z.heap.push (ob led)).objs.size, p] := fun hm => by
          rw [sz1] at hm
          rcases List.mem_cons.mp hm with e | hm
          · exact Nat.ne_of_lt (Nat.lt_succ_self _) e
          · exact Nat.ne_of_gt pl (List.mem_singleton.mp hm)
        refine fill_loop ((Walks.tuple h3 _ p ne1 its).toS) z.heap.objs.size sf ks hn hb hv (its.size - 0) 0 _ (by omega) (Nat.zero_le _) ⟨⟨_, Heap.get?_push_size _ rfl, rfl, rfl⟩, l1.push _⟩ ?w0 ?w1
        case w0 =>
          exact PyProof.Rows.SetOf_congr ((PyProof.Rows.setObjOf_fresh (knd := knd) led).setOf (Heap.get?_push_of_some _ at0) (by unfold scanBound; omega)) (fun x => by simp) (by simp [dst])
        case w1 =>
          intro z3 mv st3
          obtain ⟨g3, e3, d3, t3, o3⟩ := z3
          obtain rfl : e3 = z.gens := mv.gens
          obtain rfl : d3 = z.drawn := mv.drawn
          obtain rfl : o3 = z.os := mv.os
          show wpAny _ _ _ _ _ (_ : Shared)
          refine wpAny_pure ?_
          show wpAny _ _ (ret Value.none) _ _ (_ : Shared)
          refine wpAny_pure ⟨rfl, g3, t3, rfl, st3, fun b o hbo => mv.heap b o (fun hm => ?_) (Heap.get?_push_of_some _ (Heap.get?_push_of_some _ hbo))⟩
          have bl := Heap.lt_size hbo
          rcases List.mem_cons.mp hm with e | hm
          · exact Nat.ne_of_lt bl e
          · rw [List.mem_singleton, sz1] at hm; exact Nat.ne_of_lt (Nat.lt_succ_of_lt bl) hm
      · cases r2 with
        | error e => exact q2
        | ok fl2 =>
          cases fl2 with
          | next => exact q2.elim
          | brk => exact q2.elim
          | cont => exact q2.elim
          | ret v2 =>
            obtain ⟨rfl, g2, t2, rfl, st2, kp2⟩ := q2
            repeat (any_goals (first | assumption | wp_step))
            exact fin _ _ st2 kp2

end
theorem val_str : ∀ {xs : List Str} {us : List Value}, Vals (xs.map V.str) us → ∀ (i : Nat) (v : Value), us[i]? = some v → ∃ x t, xs[i]? = some x ∧ v = .str x t
  | [], _, .nil, i, v, h => by simp at h
  | x :: xs, _, .cons ⟨t, e⟩ r, 0, v, h => ⟨x, t, rfl, by simp at h; rw [← h, e]⟩
  | x :: xs, _, .cons _ r, i + 1, v, h => by
    obtain ⟨y, t, h1, h2⟩ := val_str r i v (by simpa using h)
    exact ⟨y, t, by simpa using h1, h2⟩
/-- len(set(texts)), texts a list or a tuple -/
def tLenSt (K : PySem.W.Frag) (ta : TE) : TE := fun σ H Q => ta σ H fun x H1 => ∃ (l : Addr) (xs : List Str), x = .ref l ∧ (SqL K H1 l (xs.map V.str) ∨ SqT K H1 l (xs.map V.str)) ∧ xs.length ≤ 1000 ∧ Q (.int ((dst xs).length : Nat)) H1
theorem pe_lenSt {X : Cx} {a : Expr} {ta : TE} {p p2 q pos : Pos} (hc : X.calm = true) (hg : Gl X "len") (hm : X.mg "len" = none) (hg2 : Gl X "set") (hm2 : X.mg "set" = none) (ha : PE X a ta)
    (na : starEach [a] X.env = (false, eval a X.env) :: starEach [] X.env := by rfl) : PE X (.Call (.Name "len" p) [.Call (.Name "set" p2) [a] [] q] [] pos) (tLenSt X.K ta) := by
  refine ⟨fun pins s σ H Q I h => Call_ (ld_blt I hg hm boot_len ?_)⟩
  refine PyProof.Rows.callWith_builtin1 (PyProof.Rows.args_cons (Call_ (ld_blt I hg2 hm2 boot_set ?_)) rfl) rfl rfl
  refine PyProof.Rows.callWith_type1 (PyProof.Rows.args_cons (thn (ha.run pins s σ H _ I h) fun v s1 ⟨x, H1, I1, r1, q1⟩ => PyProof.Rows.args_nil ?_) na) na rfl
  obtain ⟨l, xs, rfl, hq, hl, q1⟩ := q1
  cases r1
  have fin : ∀ (g : Heap) (tk : Nat), g.SetOf (PySem.strKind X.prog X.w) s1.heap.objs.size (fun x => decide (x ∈ xs)) (dst xs).length → (∀ b o, s1.heap.get? b = some o → g.get? b = some o) →
      wpAny (model X.prog X.w) X.A (spliced (backTo pos (starEach [] X.env))) (fun vs s₂ => wpAny (model X.prog X.w) X.A (call (.builtin "len") (Value.ref s1.heap.objs.size :: vs)) (EP X pins σ Q) X.xe s₂) X.xe { s1 with heap := g, toks := tk } := fun g tk so kp => by
    refine PyProof.Rows.args_nil ?_
    have dl := dst_le xs
    obtain ⟨o, es, ep, t, ho, hex, hd, _, _, _, hf, hn⟩ := so
    have I2 : Inv X pins σ H1 { s1 with heap := g, toks := tk } := I1.kept fun b o e => kp b o e
    exact call_len_set ho hex hd hf (by rw [hn] <;> omega) ⟨.int ((dst xs).length : Nat), H1, I2.tok _, ⟨_, by rw [hn]⟩, q1⟩
  have hv : ∀ {its : List Value}, Vals (xs.map V.str) its → ∀ (i : Nat) (v : Value), its.toArray[i]? = some v → ∃ k, xs[i]? = some k ∧ (PySem.strKind X.prog X.w).is k v = true ∧ v.scannable = true := fun r i v e => by
    obtain ⟨x, t, h1, rfl⟩ := val_str r i v (by simpa using e)
    exact ⟨x, h1, strKind_is _ _ _ _, rfl⟩
  rcases hq with hq | hq
  · obtain ⟨its, r, pl, hz⟩ := I1.list hq
    have hs : its.toArray.size = xs.length := by rw [List.size_toArray, ← r.length, List.length_map]
    exact set_of_list (I1.ok.hd hc) pl.isList hs.symm (by rw [hs]; omega) (hv r) fin
  · obtain ⟨its, r, pl, hz⟩ := I1.tuple hq
    have hs : its.toArray.size = xs.length := by rw [List.size_toArray, ← r.length, List.length_map]
    exact set_of_tuple (I1.ok.hd hc) pl hs.symm (by rw [hs]; omega) (hv r) fin
section
variable {K : PySem.W.Frag} {te : TE} {Γ Γ1 : List Sl} {xs : List Str} {n : Int}
def pyLenSt (xs : List Str) : Option Int := if xs.length ≤ 1000 then some ((dst xs).length : Nat) else none
theorem ev_lenStL (h : EvX (rLst rStr) te Γ Γ1 xs) (e : pyLenSt xs = some n) : EvX rInt (tLenSt K te) Γ Γ1 n := by
  unfold pyLenSt at e
  split at e
  · rename_i hl
    cases e
    intro A σ H B F Q q
    refine h A σ H B F _ fun v H1 B1 F1 s1 k1 => ?_
    obtain ⟨p, vs, rfl, hp, k⟩ := ob_lst F1.bh k1
    exact ⟨p, xs, rfl, .inl (by rw [show xs.map V.str = vs from (fl_str.vals k).symm]; exact SqL.of hp), hl, q _ _ _ F1 s1 rfl⟩
  · cases e
theorem ev_lenStT (h : EvX (rTpl rStr) te Γ Γ1 xs) (e : pyLenSt xs = some n) : EvX rInt (tLenSt K te) Γ Γ1 n := by
  unfold pyLenSt at e
  split at e
  · rename_i hl
    cases e
    intro A σ H B F Q q
    refine h A σ H B F _ fun v H1 B1 F1 s1 k1 => ?_
    obtain ⟨p, vs, rfl, hp, k⟩ := ob_tpl F1.bh k1
    exact ⟨p, xs, rfl, .inr (by rw [show xs.map V.str = vs from (fl_str.vals k).symm]; exact SqT.of hp), hl, q _ _ _ F1 s1 rfl⟩
  · cases e
end
end G

set_option maxHeartbeats 4000000
/-! # G: rules whose reading names K, for use behind binders -/
namespace G
open PySem PySem.Spec PyProof.Rows L2
section
variable {X : Cx} {K : PySem.W.Frag}
theorem in_seqK (h : X.K = K) : OpR X (compareOp .In) (rIn K false) := by subst h; exact op_in_seq
theorem notIn_seqK (h : X.K = K) : OpR X (compareOp .NotIn) (rIn K true) := by subst h; exact op_notIn_seq
theorem eqDK (h : X.K = K) (hu : X.A.units + 64 < cLine) : OpR X (compareOp .Eq) (rEqD K) := by subst h; exact op_eqD hu
theorem neDK (h : X.K = K) (hu : X.A.units + 64 < cLine) : OpR X (compareOp .NotEq) (rNeD K) := by subst h; exact op_neD hu
theorem ix_listK (h : X.K = K) : IxR X (rIxL K) := by subst h; exact ix_list
theorem ix_tupK (h : X.K = K) : IxR X (rIxT K) := by subst h; exact ix_tup
theorem sl_listK (h : X.K = K) : SlR X (rSlL K) := by subst h; exact sl_list
theorem len_seqK (h : X.K = K) : CallR X (.builtin "len") (RLen K) := by subst h; exact call_len_seq
theorem list_ofK (h : X.K = K) : CallR X (.type "list") (RList K) := by subst h; exact call_list_of
theorem tuple_ofK (h : X.K = K) : CallR X (.type "tuple") (fun xs H Q => ∃ p ys, xs = [.ref p] ∧ ((SqL K H p ys ∧ ∀ l, H l = none → Q (.ref l) (upd H l (.tup ys))) ∨ (SqT K H p ys ∧ Q (.ref p) H))) := by subst h; exact call_tuple_of
theorem allK (h : X.K = K) (hc : X.calm = true) : CallR X (.builtin "all") (rAll K) := by subst h; exact cr_all hc
theorem isiK (h : X.K = K) : CallR X (.builtin "isinstance") (rIsi K) := by subst h; exact call_isi
theorem fldK {e : Expr} {ta : TE} {f : Str} {pos : Pos} (h : X.K = K) (he : PE X e ta) (hb : attributeBase e f X.env (eval e X.env) = eval e X.env) : PE X (.Attribute e f pos) (tFld K ta f) := by subst h; exact pe_fld he hb
theorem pg_tupK {es : List Expr} {k : Nat} {t : TGs} {pos : Pos} (h : X.K = K) (n : Nat) (hc : X.calm = true) (hp : PGs X es t) (hn : (assignEach es X.env).length = n := by rfl) (hst : (assignEach es X.env).findIdx? (·.1) = none := by rfl) : PG X (.Tuple es k pos) (gTup K n t) := by subst h; exact pg_tup hc hp hn hst
theorem lenStK {a : Expr} {ta : TE} {p p2 q pos : Pos} (h : X.K = K) (hc : X.calm = true) (hg : Gl X "len") (hm : X.mg "len" = none) (hg2 : Gl X "set") (hm2 : X.mg "set" = none) (ha : PE X a ta)
    (na : starEach [a] X.env = (false, eval a X.env) :: starEach [] X.env := by rfl) : PE X (.Call (.Name "len" p) [.Call (.Name "set" p2) [a] [] q] [] pos) (tLenSt K ta) := by subst h; exact pe_lenSt hc hg hm hg2 hm2 ha na
/-- an error of the class at S and «except B» -/
theorem exm_of {S B : Addr} {b : Bool} (h0 : PySem.W.subIn K (.ref B) (.type "BaseException") = some true) (h1 : PySem.W.isClsIn K B = true) (h2 : PySem.W.typeIn K (.ref B) = some (.type "type")) (h3 : PySem.W.subIn K (.ref S) (.ref B) = some b) : PySem.W.exmOne K (.ref S) (.ref B) = some b := by
  unfold PySem.W.exmOne PySem.W.kitCls
  have e1 : (PySem.W.subIn K (.ref B) (.type "BaseException") == some true) = true := by rw [h0]; rfl
  have e2 : ((PySem.W.clsIn K B).isSome && PySem.W.typeIn K (.ref B) == some (.type "type")) = true := by
    rw [h2, show (PySem.W.clsIn K B).isSome = true from h1]; rfl
  rw [if_pos e1]
  show (if ((PySem.W.clsIn K B).isSome && PySem.W.typeIn K (.ref B) == some (.type "type")) = true then PySem.W.subIn K (.ref S) (.ref B) else none) = some b
  rw [if_pos e2]
  exact h3
end
end G

set_option maxHeartbeats 4000000
/-! # G: the operators of own classes -/
namespace G
open PySem PySem.Spec PyProof.Rows L2
section
variable {X : Cx} {CX : CXT} {C f : Addr} {fd : FuncData} {ps : List Str} {n : Nat} {sp : Sp} {E : XK} {K : PySem.W.Frag}
theorem room_bool : True := trivial
/-- x in y, y of the class at C -/
def rInO (C : Addr) (sp : Sp) (neg : Bool) (E : XK) : R2 := fun x y H Q => ∃ a dx fs, y = .ref a ∧ H a = some (.ins C dx fs) ∧ sp [y, x] H (fun v H' => ∃ b, v = .bl b ∧ Q (.bl (if neg then !b else b)) H') E
theorem op_inO (hK : X.K = K) (hm : Meth K C "__contains__" f) (F : FnOk X.prog X.w X.K X.mg X.base CX n f fd ps sp) (hr : Room n X.A) (hb : Binds K fd ps []) (hx : Passes CX X E) : OpR X (compareOp .In) (rInO C sp false E) := by
  subst hK
  intro pins s σ H x y v u Q I rx ry h
  obtain ⟨a, dx, fs, rfl, ha, q⟩ := h
  cases (show u = Value.ref a from ry)
  obtain ⟨mA, J, _⟩ := ins_get I.hok ha
  obtain ⟨od, J, _⟩ := J.look
  obtain ⟨m, hF⟩ := I.fr
  refine PySem.W.in_K hF I.ok.mod.kin J hm.at_ hm.fn ?_
  refine wpAny_mono (run_fn (us := [.ref a, v]) (vs := [.ref a, x]) F hr hb .nil hx I (.cons rfl (.cons rx .nil)) (by rw [List.append_nil]; exact q)) (fun w s' z => ?_) fun _ _ e => e
  obtain ⟨z', H', I', rz, b, rfl, qz⟩ := z
  cases (show w = Value.bool b from rz)
  exact wpAny_truthy_bool ⟨.bl b, H', I', rfl, qz⟩
theorem op_ninO (hK : X.K = K) (hm : Meth K C "__contains__" f) (F : FnOk X.prog X.w X.K X.mg X.base CX n f fd ps sp) (hr : Room n X.A) (hb : Binds K fd ps []) (hx : Passes CX X E) : OpR X (compareOp .NotIn) (rInO C sp true E) := by
  subst hK
  intro pins s σ H x y v u Q I rx ry h
  obtain ⟨a, dx, fs, rfl, ha, q⟩ := h
  cases (show u = Value.ref a from ry)
  obtain ⟨mA, J, _⟩ := ins_get I.hok ha
  obtain ⟨od, J, _⟩ := J.look
  obtain ⟨m, hF⟩ := I.fr
  refine PySem.W.notIn_K hF I.ok.mod.kin J hm.at_ hm.fn ?_
  refine wpAny_mono (run_fn (us := [.ref a, v]) (vs := [.ref a, x]) F hr hb .nil hx I (.cons rfl (.cons rx .nil)) (by rw [List.append_nil]; exact q)) (fun w s' z => ?_) fun _ _ e => e
  obtain ⟨z', H', I', rz, b, rfl, qz⟩ := z
  cases (show w = Value.bool b from rz)
  exact wpAny_truthy_bool ⟨.bl (!b), H', I', rfl, qz⟩
/-- x == y, x of the class at C, whose __eq__ gives a bool; y of the type t -/
def rEqO (K : PySem.W.Frag) (C : Addr) (t : Value) (sp : Sp) (E : XK) : R2 := fun x y H Q => ∃ a dx fs, x = .ref a ∧ H a = some (.ins C dx fs) ∧ TyX K H y t ∧ PySem.W.notFirst K C t = true ∧ sp [x, y] H (fun v H' => ∃ b, v = .bl b ∧ Q v H') E
theorem op_eqO {t : Value} (hK : X.K = K) (hm : Meth K C "__eq__" f) (F : FnOk X.prog X.w X.K X.mg X.base CX n f fd ps sp) (hr : Room n X.A) (hb : Binds K fd ps []) (hx : Passes CX X E) : OpR X (compareOp .Eq) (rEqO K C t sp E) := by
  subst hK
  intro pins s σ H x y v u Q I rx ry h
  obtain ⟨a, dx, fs, rfl, ha, ty, nf, q⟩ := h
  cases (show v = Value.ref a from rx)
  obtain ⟨mA, J, _⟩ := ins_get I.hok ha
  obtain ⟨od, J, _⟩ := J.look
  obtain ⟨m, hF⟩ := I.fr
  obtain ⟨P, Z, hP, _⟩ := kit_of I ry ty
  show wpAny _ _ (richCompare .Eq (.ref a) u) _ _ _
  refine PySem.W.cmp_K (op := .Eq) (tb := t) hr.units0 hF I.ok.mod.kin J (Z.ty _ _ I.kIn hP) nf hm.at_ hm.fn ?_
  refine wpAny_mono (run_fn (us := [.ref a, u]) (vs := [.ref a, y]) F hr hb .nil hx I (.cons rfl (.cons ry .nil)) (by rw [List.append_nil]; exact q)) (fun w s' z => ?_) fun _ _ e => e
  obtain ⟨z', H', I', rz, b, rfl, qz⟩ := z
  cases (show w = Value.bool b from rz)
  exact ⟨.bl b, H', I', rfl, qz⟩
/-- x op y, both of the class at C -/
def rBinO (C : Addr) (sp : Sp) (E : XK) : R2 := fun x y H Q => ∃ a dx fs b dy gs, x = .ref a ∧ y = .ref b ∧ H a = some (.ins C dx fs) ∧ H b = some (.ins C dy gs) ∧ sp [x, y] H Q E
theorem op_binO {op : Operator} (hK : X.K = K) (hs : PySem.W.findIn K (.ref C) (PySem.dunder op.info.2) = some (some (.ref f))) (hf : PySem.W.isFn K (.ref f) = true) (sf : PySem.W.selfFirst K C = true) (F : FnOk X.prog X.w X.K X.mg X.base CX n f fd ps sp) (hr : Room n X.A) (hb : Binds K fd ps []) (hx : Passes CX X E) : OpR X (binaryOp op) (rBinO C sp E) := by
  subst hK
  intro pins s σ H x y v u Q I rx ry h
  obtain ⟨a, dx, fs, b, dy, gs, rfl, rfl, ha, hb2, q⟩ := h
  cases (show v = Value.ref a from rx)
  cases (show u = Value.ref b from ry)
  obtain ⟨mA, J, _⟩ := ins_get I.hok ha
  obtain ⟨od, J, _⟩ := J.look
  obtain ⟨mB, J', _⟩ := ins_get I.hok hb2
  obtain ⟨od', J', _⟩ := J'.look
  obtain ⟨m, hF⟩ := I.fr
  refine PySem.W.binop_K hF I.ok.mod.kin J J'.type sf hs hf ?_
  refine wpAny_mono (run_fn (us := [.ref a, .ref b]) (vs := [.ref a, .ref b]) F hr hb .nil hx I (.cons rfl (.cons rfl .nil)) (by rw [List.append_nil]; exact q)) (fun w s' z => ?_) fun _ _ e => e
  obtain ⟨z', H', I', rz, qz⟩ := z
  exact SlX.cmpback rz ⟨z', H', I', rz, qz⟩
end
section
variable {α β γ : Type} {r ra : Rp α} {rb : Rp β} {rc : Rp γ} {te ta tb : TE} {Γ Γ1 Γ2 : List Sl} {K : PySem.W.Frag} {w : Rw α} {C : Addr} {names : List Str} {x : α} {y : β} {E : XK}
theorem ev_inO {m : α × β → Option Bool} {b : Bool} (ha : EvX rb ta Γ Γ1 y) (hb : EvX (rIns C names w) tb Γ1 Γ2 x) (e : m (x, y) = some b) : EvX rBool (tOp (rInO C (SpP (wC (rIns C names w) (w1 rb)) rBool m) false E) ta tb) Γ Γ2 b := fun A σ H B F Q q =>
  ha A σ H B F _ fun u H1 B1 F1 s1 k1 => hb A σ H1 B1 F1 _ fun v H2 B2 F2 s2 k2 => by
    obtain ⟨p, dx, vs, rfl, hp, l, kw⟩ := ob_ins F2.bh k2
    exact ⟨p, dx, _, rfl, hp, B2, (x, y), b, F2.sz, F2.bh, ⟨_, _, rfl, k2, _, rfl, rb.mono s2 k1⟩, e, fun H3 B3 v3 P k3 => ⟨b, k3, q _ H3 B3 (F2.after P) ((s1.trans s2).trans P.b0) rfl⟩⟩
theorem ev_ninO {m : α × β → Option Bool} {b : Bool} (ha : EvX rb ta Γ Γ1 y) (hb : EvX (rIns C names w) tb Γ1 Γ2 x) (e : m (x, y) = some b) : EvX rBool (tOp (rInO C (SpP (wC (rIns C names w) (w1 rb)) rBool m) true E) ta tb) Γ Γ2 (!b) := fun A σ H B F Q q =>
  ha A σ H B F _ fun u H1 B1 F1 s1 k1 => hb A σ H1 B1 F1 _ fun v H2 B2 F2 s2 k2 => by
    obtain ⟨p, dx, vs, rfl, hp, l, kw⟩ := ob_ins F2.bh k2
    exact ⟨p, dx, _, rfl, hp, B2, (x, y), b, F2.sz, F2.bh, ⟨_, _, rfl, k2, _, rfl, rb.mono s2 k1⟩, e, fun H3 B3 v3 P k3 => ⟨b, k3, q _ H3 B3 (F2.after P) ((s1.trans s2).trans P.b0) rfl⟩⟩
theorem ev_eqO {t : Value} {m : α × β → Option Bool} {b : Bool} (ha : EvX (rIns C names w) ta Γ Γ1 x) (hb : EvX rb tb Γ1 Γ2 y) (ty : TyR K rb t) (nf : PySem.W.notFirst K C t = true) (e : m (x, y) = some b) : EvX rBool (tOp (rEqO K C t (SpP (wC (rIns C names w) (w1 rb)) rBool m) E) ta tb) Γ Γ2 b := fun A σ H B F Q q =>
  ha A σ H B F _ fun u H1 B1 F1 s1 k1 => hb A σ H1 B1 F1 _ fun v H2 B2 F2 s2 k2 => by
    have k1' := (rIns C names w).mono s2 k1
    obtain ⟨p, dx, vs, rfl, hp, l, kw⟩ := ob_ins F2.bh k1'
    exact ⟨p, dx, _, rfl, hp, ty _ _ _ (rb.mono F2.bh k2), nf, B2, (x, y), b, F2.sz, F2.bh, ⟨_, _, rfl, k1', _, rfl, k2⟩, e, fun H3 B3 v3 P k3 => ⟨b, k3, q _ H3 B3 (F2.after P) ((s1.trans s2).trans P.b0) k3⟩⟩
theorem ev_binO {m : α × α → Option γ} {z : γ} {x y : α} (ha : EvX (rIns C names w) ta Γ Γ1 x) (hb : EvX (rIns C names w) tb Γ1 Γ2 y) (e : m (x, y) = some z) : EvX rc (tOp (rBinO C (SpP (wC (rIns C names w) (w1 (rIns C names w))) rc m) E) ta tb) Γ Γ2 z := fun A σ H B F Q q =>
  ha A σ H B F _ fun u H1 B1 F1 s1 k1 => hb A σ H1 B1 F1 _ fun v H2 B2 F2 s2 k2 => by
    have k1' := (rIns C names w).mono s2 k1
    obtain ⟨p, dx, vs, rfl, hp, l, kw⟩ := ob_ins F2.bh k1'
    obtain ⟨p2, dx2, vs2, rfl, hp2, l2, kw2⟩ := ob_ins F2.bh k2
    exact ⟨p, dx, _, p2, dx2, _, rfl, rfl, hp, hp2, B2, (x, y), z, F2.sz, F2.bh, ⟨_, _, rfl, k1', _, rfl, k2⟩, e, fun H3 B3 v3 P k3 => q _ H3 B3 (F2.after P) ((s1.trans s2).trans P.b0) k3⟩
end
end G

set_option maxHeartbeats 4000000
/-! # G: sorted(set(..)) of ints -/
namespace G
open PySem PySem.Spec PyProof.Rows L2
section
variable {prog : Program} {w : World} {A : Around} {E : Value → Shared → Prop} {z : Shared}
set_option maxHeartbeats 8000000 in
theorem seti_of_list {p : Addr} {its : Array Value} {ks : List Int} {G : Value → Shared → Prop} (hd : A.handled = none) (hp : z.heap.IsList p its) (hn : its.size = ks.length) (hb : ks.length < 2000)
    (hv : ∀ (i : Nat) (v : Value), its[i]? = some v → ∃ k t, ks[i]? = some k ∧ v = .int k t)
    (fin : ∀ (g : Heap) (tk c : Nat), SetR w g z.heap.objs.size (fun x => decide (x ∈ ks)) c → c ≤ ks.length → (∀ b o, z.heap.get? b = some o → g.get? b = some o) → G (.ref z.heap.objs.size) { z with heap := g, toks := tk }) :
    wpAny (model prog w) A (call (.type "set") [.ref p]) G E z := by
  obtain ⟨mc, mt, m0⟩ := PySem.F.called_set.mro
  have m1 := PySem.F.called_set.made
  have m2 := PySem.F.called_set.sub
  refine wpAny_call (codeAny_of_tree ?_)
  show wpAny _ _ (callAny (.type "set") (_ : Args)) _ _ z
  refine wpAny_pure (And.intro (Code.quiet_builtin _ (by decide +kernel)) (codeAny_builtin PySem.F.entry_type_call ?_))
  rw [Around.under_plain (weight_type_call_type "set" [Value.ref p] ([] : List (Str × Value))) (by rfl)]
  have m3 := PySem.F.called_set.notType
  have m4 := PySem.F.called_set.canCreate
  have m5 := PySem.F.typeCall_set_1 (Value.ref p)
  repeat (any_goals (first | assumption | wp_step))
  let ob : Obj := { cls := .type "set", dict := none, data := .set #[] 0 (.fresh 0 0 (!w.params.followText "set-order")) }
  refine codeAny_mono (code_set_led1 (Value.ref p) (E := E) (Q₁ := fun v z1 => v = Value.ref z.heap.objs.size ∧ z1 = { z with heap := z.heap.push ob }) (And.intro rfl rfl)) fun r0 z1 q0 => ?_
  cases r0 with
  | error e => exact q0
  | ok fl0 =>
    cases fl0 with
    | next => exact q0.elim
    | brk => exact q0.elim
    | cont => exact q0.elim
    | ret v0 =>
      obtain ⟨rfl, rfl⟩ := q0
      have at0 : (z.heap.push ob).get? z.heap.objs.size = some ob := Heap.get?_push_size _ rfl
      have ty0 : Shared.TypeIs { z with heap := z.heap.push ob } (.ref z.heap.objs.size) "set" := ⟨_, at0, rfl⟩
      have i1 := PySem.F.called_set.init.lookup
      have i2 := PySem.F.called_set.init.bind (Value.ref z.heap.objs.size)
      repeat (any_goals (first | assumption | wp_step))
      refine codeAny_mono (codeAny_call_builtin (R := wants (fun v z2 => v = .none ∧ ∃ g tk c, z2 = { z with heap := g, toks := tk } ∧ SetR w g z.heap.objs.size (fun x => decide (x ∈ ks)) c ∧ c ≤ ks.length ∧
          (∀ b o, z.heap.get? b = some o → g.get? b = some o)) E) PySem.F.called_set.init.plain PySem.F.entry_set_init (check_set_init_1 ty0 ?_)) fun r2 z2 q2 => ?_
      · obtain ⟨u0, a0, c0, n0, d0⟩ := hp
        obtain ⟨uc, ud, ux, us⟩ := u0
        simp only at c0 d0
        subst c0; subst d0
        have a1 : (z.heap.push ob).get? p = some { cls := .type "list", dict := ud, data := .seq its n0, slots := us } := Heap.get?_push_of_some _ a0
        have s1 := PySem.F.sub_list_set
        have s2 := PySem.F.sub_list_frozenset
        have s3 : (Value.type "list" == Value.type "dict") = false := by decide
        have l1 : (z.heap.push ob).IsList p its := ⟨_, a1, rfl, n0, rfl⟩
        unfold Builtin.«set.__init__» noKeywords Builtin.Frozenset.updateFrom
        generalize hit : pyIter = itf
        wp_walk
        subst hit
        refine wpAny_pyIter_list l1 (wpAny_bind (wpAny_runValue ?_))
        have pl : p < z.heap.objs.size := Heap.lt_size a0
        have h3 : A.in1.in1.in1.handled = none := by simp [hd]
        have sz1 : (z.heap.push ob).objs.size = z.heap.objs.size + 1 := Heap.size_push ..
        have ne1 : p ≠ (z.heap.push ob).objs.size := by rw [sz1]; exact Nat.ne_of_lt (Nat.lt_succ_of_lt pl)
        have sf : z.heap.objs.size ∉ [(z.heap.push ob).objs.size, p] := fun hm => by
          rw [sz1] at hm
          rcases List.mem_cons.mp hm with e | hm
          · exact Nat.ne_of_lt (Nat.lt_succ_self _) e
          · exact Nat.ne_of_gt pl (List.mem_singleton.mp hm)
        refine set_update_ints ((Walks.list h3 _ p ne1 its).toS) z.heap.objs.size sf ks hn (by unfold scanBound; omega) hv (its.size - 0) 0 _ (by omega) (Nat.zero_le _) ⟨⟨_, Heap.get?_push_size _ rfl, rfl, rfl⟩, l1.push _⟩ ?w0 ?w1
        case w0 =>
          exact ⟨0, Nat.le_refl 0, setR_new_at (Heap.get?_push_of_some _ at0)⟩
        case w1 =>
          intro z3 c3 mv le3 st3
          obtain ⟨g3, e3, d3, t3, o3⟩ := z3
          obtain rfl : e3 = z.gens := mv.gens
          obtain rfl : d3 = z.drawn := mv.drawn
          obtain rfl : o3 = z.os := mv.os
          show wpAny _ _ _ _ _ (_ : Shared)
          refine wpAny_pure ?_
          show wpAny _ _ (ret Value.none) _ _ (_ : Shared)
          rw [hn] at le3
          refine wpAny_pure ⟨rfl, g3, t3, c3, rfl, st3, le3, fun b o hbo => mv.heap b o (fun hm => ?_) (Heap.get?_push_of_some _ (Heap.get?_push_of_some _ hbo))⟩
          have bl := Heap.lt_size hbo
          rcases List.mem_cons.mp hm with e | hm
          · exact Nat.ne_of_lt bl e
          · rw [List.mem_singleton, sz1] at hm; exact Nat.ne_of_lt (Nat.lt_succ_of_lt bl) hm
      · cases r2 with
        | error e => exact q2
        | ok fl2 =>
          cases fl2 with
          | next => exact q2.elim
          | brk => exact q2.elim
          | cont => exact q2.elim
          | ret v2 =>
            obtain ⟨rfl, g2, t2, c2, rfl, st2, le2, kp2⟩ := q2
            repeat (any_goals (first | assumption | wp_step))
            exact fin _ _ _ st2 le2 kp2

end
end G

set_option maxHeartbeats 4000000
/-! # G: sorted(set(ints)) as an expression -/
namespace G
open PySem PySem.Spec PyProof.Rows L2
/-- ascending, each once -/
def insI (x : Int) : List Int → List Int
  | [] => [x]
  | y :: ys => if x < y then x :: y :: ys else if x = y then y :: ys else y :: insI x ys
def sset : List Int → List Int
  | [] => []
  | x :: xs => insI x (sset xs)
theorem mem_insI {x z : Int} : ∀ {l : List Int}, z ∈ insI x l ↔ z = x ∨ z ∈ l
  | [] => by simp [insI]
  | y :: ys => by
    unfold insI
    split
    · simp
    · split
      · rename_i h; subst h; simp
      · rw [List.mem_cons, mem_insI, List.mem_cons]
        exact ⟨fun h => h.elim (fun h => .inr (.inl h)) fun h => h.elim .inl fun h => .inr (.inr h), fun h => h.elim (fun h => .inr (.inl h)) fun h => h.elim .inl fun h => .inr (.inr h)⟩
theorem sset_mem {z : Int} : ∀ {l : List Int}, z ∈ sset l ↔ z ∈ l
  | [] => by simp [sset]
  | x :: xs => by
    unfold sset
    rw [mem_insI, sset_mem, List.mem_cons]
theorem insI_asc {x : Int} : ∀ {l : List Int}, l.Pairwise (· < ·) → (insI x l).Pairwise (· < ·)
  | [], _ => by simp [insI]
  | y :: ys, h => by
    have h' := List.pairwise_cons.mp h
    unfold insI
    split
    · rename_i hx
      exact List.pairwise_cons.mpr ⟨fun z hz => (List.mem_cons.mp hz).elim (fun e => e ▸ hx) fun hz => Int.lt_trans hx (h'.1 z hz), h⟩
    · split
      · exact h
      · rename_i h1 h2
        refine List.pairwise_cons.mpr ⟨fun z hz => ?_, insI_asc h'.2⟩
        rcases mem_insI.mp hz with e | hz
        · subst e; omega
        · exact h'.1 z hz
theorem sset_asc : ∀ l : List Int, (sset l).Pairwise (· < ·)
  | [] => .nil
  | x :: xs => insI_asc (sset_asc xs)
theorem asc_eq : ∀ {a b : List Int}, a.Pairwise (· < ·) → b.Pairwise (· < ·) → (∀ z, z ∈ a ↔ z ∈ b) → a = b
  | [], [], _, _, _ => rfl
  | [], y :: ys, _, _, h => by have := (h y).mpr List.mem_cons_self; cases this
  | x :: xs, [], _, _, h => by have := (h x).mp List.mem_cons_self; cases this
  | x :: xs, y :: ys, ha, hb, h => by
    have ha' := List.pairwise_cons.mp ha
    have hb' := List.pairwise_cons.mp hb
    have e : x = y := by
      rcases List.mem_cons.mp ((h x).mp List.mem_cons_self) with e | hx
      · exact e
      · rcases List.mem_cons.mp ((h y).mpr List.mem_cons_self) with e | hy
        · exact e.symm
        · have h1 := hb'.1 x hx
          have h2 := ha'.1 y hy
          omega
    subst e
    refine congrArg _ (asc_eq ha'.2 hb'.2 fun z => ⟨fun hz => ?_, fun hz => ?_⟩)
    · rcases List.mem_cons.mp ((h z).mp (List.mem_cons_of_mem _ hz)) with e | q
      · subst e; exact absurd (ha'.1 z hz) (by omega)
      · exact q
    · rcases List.mem_cons.mp ((h z).mpr (List.mem_cons_of_mem _ hz)) with e | q
      · subst e; exact absurd (hb'.1 z hz) (by omega)
      · exact q
theorem sset_nil : sset [] = [] := rfl
def pySS (xs : List Int) : Option (List Int) := if xs.length < 64 then some (sset xs) else none
theorem val_int : ∀ {xs : List Int} {us : List Value}, Vals (xs.map V.int) us → ∀ (i : Nat) (v : Value), us[i]? = some v → ∃ x t, xs[i]? = some x ∧ v = .int x t
  | [], _, .nil, i, v, h => by simp at h
  | x :: xs, _, .cons ⟨t, e⟩ r, 0, v, h => ⟨x, t, rfl, by simp at h; rw [← h, e]⟩
  | x :: xs, _, .cons _ r, i + 1, v, h => by
    obtain ⟨y, t, h1, h2⟩ := val_int r i v (by simpa using h)
    exact ⟨y, t, by simpa using h1, h2⟩
/-- set(xs) -/
def rSetI (K : PySem.W.Frag) (w : World) : List V → Hp → VK → Prop := fun vs H Q => ∃ (a : Addr) (ns : List Int), vs = [V.ref a] ∧ SqL K H a (ns.map V.int) ∧ ns.length < 1000 ∧ ∀ (n : Nat) (p : Addr), n ≤ ns.length → H p = none → Q (.ref p) (upd H p (SetO w p (fun x => decide (x ∈ ns)) n))
theorem cr_setI {X : Cx} {K : PySem.W.Frag} (hK : X.K = K) (hc : X.calm = true) : CallR X (.type "set") (rSetI K X.w) := by
  subst hK
  intro pins s σ H vs us Q I r h
  obtain ⟨a, ns, rfl, hs, hl, q⟩ := h
  obtain ⟨its, rv, pl, hz⟩ := I.list hs
  rw [Vals.ref1 r]
  have hsz : its.toArray.size = ns.length := by rw [List.size_toArray, ← rv.length, List.length_map]
  refine seti_of_list (I.ok.hd hc) pl.isList hsz (by omega) (fun i v e => by
    obtain ⟨x, t, h1, h2⟩ := val_int rv i v (by simpa using e)
    exact ⟨x, t, h1, h2⟩) fun g tk c R le kp => ?_
  have J : Inv X pins σ (upd H s.heap.objs.size (SetO X.w s.heap.objs.size (fun x => decide (x ∈ ns)) c)) { s with heap := g, toks := tk } :=
    I.laid (t' := tk) kp (Nat.le_refl _) (setO_new R)
  exact ⟨.ref s.heap.objs.size, _, J, rfl, q c _ le (I.hok.fresh (Nat.le_refl _))⟩
section
variable {te : TE} {Γ Γ1 : List Sl} {K : PySem.W.Frag} {xs ys : List Int} {wd : World}
theorem ec_sortSet (h : EvX (rLst rInt) te Γ Γ1 xs) (e : pySS xs = some ys) : EvC (cLst rInt) (tCB (rSortedSet wd) (tCons (tCB (rSetI K wd) (tCons te tNil)) tNil)) Γ Γ1 ys := fun A σ H B F Q q => by
  unfold pySS at e
  split at e
  · rename_i hl
    cases e
    refine h A σ H B F _ fun v H1 B1 F1 s1 k1 => ?_
    obtain ⟨p, vs, rfl, hp, k⟩ := ob_lst F1.bh k1
    refine ⟨p, xs, rfl, ?_, by omega, fun n p0 hn h0 => ?_⟩
    · rw [show xs.map V.int = vs from (fl_int.vals k).symm]; exact SqL.of hp
    · have F2 := (F1.fresh h0 (o := SetO wd p0 (fun x => decide (x ∈ xs)) n) trivial).drop (F1.H0none h0) F1.sub F1.mh
      refine ⟨p0, _, n, rfl, upd_same, by omega, fun ns p1 asc mem len h1 => ?_⟩
      have en : ns = sset xs := asc_eq asc (sset_asc xs) fun z => by rw [mem z, sset_mem, decide_eq_true_eq]
      subst en
      refine ec_fresh (c := cLst rInt) (o := .lst ((sset xs).map V.int)) F2 h1 ?_ (fun p o H' B' F' n' s' k' => q p o H' B' F' n' (s1.trans s') k') ⟨_, rfl, paired_ints _ _⟩
      show ((sset xs).map V.int).length ≤ sizeLine
      rw [List.length_map, len]
      exact Nat.le_trans (show n ≤ 64 by omega) (by decide)
  · cases e
end
end G

set_option maxHeartbeats 4000000
/-! # G: attributes as targets -/
namespace G
open PySem PySem.Spec PyProof.Rows L2
/-- the target e.f -/
def gFld (K : PySem.W.Frag) (ta : TE) (f : Str) : TG := fun y σ H Q => ta σ H fun x H1 => ∃ a C dx fs, x = .ref a ∧ H1 a = some (.ins C dx fs) ∧ Cls K C ∧ NoAttr K C f ∧ fs.length < 1000 ∧ Q σ (upd H1 a (.ins C dx (putF f y fs)))
theorem pg_fld {X : Cx} {K : PySem.W.Frag} {o : Expr} {ta : TE} {f : Str} {pos : Pos} (hK : X.K = K) (ho : PE X o ta) : PG X (.Attribute o f pos) (gFld K ta f) := by
  subst hK
  refine ⟨fun pins s σ H v u Q I r h => ?_⟩
  rw [arm_assign_Attribute]
  refine wpAny_bind (wpAny_holding (thn (ho.run pins s σ H _ I h) fun ov s1 ⟨x, H1, I1, rx, a, C, dx, fs, ex, ea, c, n, l, q⟩ => ?_))
  subst ex
  obtain rfl : ov = Value.ref a := rx
  refine wpAny_bind (wpAny_standAt (wpAny_bind (wpAny_holding (setattr_ok I1 ea c n l r fun s3 I3 => ?_))))
  exact wpAny_release ⟨σ, _, I3, q⟩
/-- a target that may change the frame's own objects -/
def TgH {α : Type} (g : TG) (r : Rp α) (Γ : List Sl) (Γf : α → List Sl) : Prop := ∀ (A : Amb) (σ : L2.St) (H B : Hp) (v : V) (x : α), Frm A σ H B Γ → r.rel B v x → ∀ Q : L2.St → Hp → Prop, (∀ σ' H', Frm A σ' H' B (Γf x) → Q σ' H') → g v σ H Q
def ThW {α : Type} (g : TGs) (w : Rw α) (Γ : List Sl) (Γf : α → List Sl) : Prop := ∀ (A : Amb) (σ : L2.St) (H B : Hp) (us : List V) (x : α), Frm A σ H B Γ → w.rel B us x → ∀ Q : L2.St → Hp → Prop, (∀ σ' H', Frm A σ' H' B (Γf x) → Q σ' H') → g us σ H Q
section
variable {α β γ : Type} {r : Rp α} {w : Rw β} {w' : Rw γ} {K : PySem.W.Frag} {C : Addr} {names : List Str} {Γ Γ1 : List Sl} {a : β} {i : Nat} {p : Addr} {nm : Str} {te : TE} {A : Amb} {D : Ends} {u : TS}
theorem th_name {j : Nat} : TgH (gName j) r Γ (fun x => Γ.set j (.imm r x)) := fun A σ H B v x F k Q q => q _ _ (F.set k)
theorem th_fld {f : β → α → γ} (hi : Γ[i]? = some (.cel p (cIns C names w) a)) (sn : Snoc w r w' f) (nn : nm ∉ names) (hl : names.length < 900) (c : Cls K C) (na : NoAttr K C nm) : TgH (gFld K (tVar i) nm) r Γ (fun x => Γ.set i (.cel p (cIns C (names ++ [nm]) w') (f a x))) := fun A σ H B v x F k Q q => by
  obtain ⟨e, o, ho, dx, vs, rfl, l, kw⟩ := cel_at F hi
  refine ⟨_, e, p, C, dx, _, rfl, ho, c, na, by rw [List.length_zip]; omega, ?_⟩
  exact q σ _ (F.write hi (c' := cIns C (names ++ [nm]) w') (o' := .ins C dx (putF nm v (names.zip vs))) ⟨dx, vs ++ [v], by rw [putF_zip nn l], by rw [List.length_append, List.length_append, l]; rfl, sn B vs a v x kw k⟩ trivial)
theorem th_1 {g : TG} {Γf : α → List Sl} (h : TgH g r Γ Γf) : ThW (gCons g gNil) (w1 r) Γ Γf := fun A σ H B us x F k Q q => by
  obtain ⟨v, rfl, kv⟩ := k
  exact ⟨v, [], rfl, h A σ H B v x F kv _ fun σ' H' F' => ⟨rfl, q σ' H' F'⟩⟩
theorem th_C {g : TG} {gs : TGs} {w : Rw β} {Γf : α → List Sl} {Γg : α → β → List Sl} (h : TgH g r Γ Γf) (hr : ∀ x, ThW gs w (Γf x) (Γg x)) : ThW (gCons g gs) (wC r w) Γ (fun x => Γg x.1 x.2) := fun A σ H B us x F k Q q => by
  obtain ⟨v, t, rfl, kv, kt⟩ := k
  exact ⟨v, t, rfl, h A σ H B v x.1 F kv _ fun σ' H' F' => hr x.1 A σ' H' B t x.2 F' kt _ fun σ2 H2 F2 => q σ2 H2 F2⟩
theorem th_tup {g : TGs} {n m : Nat} {w : Rw α} [k : WLen w m] {Γf : α → List Sl} (h : ThW g w Γ Γf) (e : m = n := by rfl) : TgH (gTup K n g) (rTup w) Γ Γf := fun A σ H B v x F kv Q q => by
  obtain ⟨p, vs, rfl, hp, kw⟩ := ob_tup F.bh kv
  exact ⟨p, vs, rfl, SqT.of hp, by rw [k.len kw, e], h A σ H B vs x F kw Q q⟩
theorem sq_asgH {g : TG} {x : α} {Γf : α → List Sl} (h : EvX r te Γ Γ1 x) (hg : TgH g r Γ1 Γf) (k : Nx A (u D) (Γf x)) : Nx A (tSeq (tAsg te g) u D) Γ := fun σ H B F => h A σ H B F _ fun v H' B' F' _ q =>
  hg A σ H' B' v x F' q _ fun σ2 H2 F2 => k σ2 H2 B' F2
end
end G

set_option maxHeartbeats 4000000
/-! # G: static methods -/
namespace G
open PySem PySem.Spec PyProof.Rows L2
/-- C.m is a staticmethod: its record at p, its def at g -/
structure SMet (K : PySem.W.Frag) (C : Addr) (mc : Value) (m : Str) (p g : Addr) : Prop where
  at_ : PySem.W.findCls K (.ref C) mc m = some (.get (.builtin "staticmethod.__get__") (.ref p) .none (.ref C))
  rc : ∃ rest, PySem.W.recIn K p "staticmethod" = some (.ref g :: rest)
  kp : PySem.W.keepIn K (.ref g) = true
/-- C.m(..), m a staticmethod -/
def tSm (sp : Sp) (E : L2.St → XK) (t : TA) : TE := fun σ H Q => t σ H fun vs H1 => sp vs H1 Q (E σ)
section
variable {X : Cx} {CX : CXT} {k : Nat} {C p g : Addr} {mc : Value} {sp : Sp} {E : L2.St → XK} {fd : FuncData} {ps : List Str} {e : Expr} {es : List Expr} {x m : Str} {pos apos px : Pos} {t : TA} {pl : Sem Bool}
theorem getsm_ok {pins : List (Addr × Obj)} {σ : L2.St} {H : Hp} {s : Shared} {Q : Value × List Value → Shared → Prop} {A : Around} {Ee : Value → Shared → Prop} (I : Inv X pins σ H s) (r : ClX.CRead X.K C mc) (c : SMet X.K C mc m p g)
    (h : ∀ s', Inv X pins σ H s' → Q (.ref g, []) s') : wpAny (model X.prog X.w) A (getMethod (.ref C) m pl) Q Ee s := by
  obtain ⟨rest, hp⟩ := c.rc
  refine PySem.W.method_cls I.kIn r.ga (PySem.W.cls_bind I.kIn r.rd c.at_ (wpAny_call (PySem.W.sm_get (s := { s with toks := s.toks + 1 }) I.kIn hp (PySem.W.handed_on rfl ?_))))
  exact h _ (I.tok _)
theorem pe_smeth (hg : Gl X x) (hm : X.mg x = some (.ref C)) (r : ClX.CRead X.K C mc) (c : SMet X.K C mc m p g) (F : FnOk X.prog X.w X.K X.mg X.base CX k g fd ps sp) (hr : Room k X.A) (hb : Binds X.K fd ps []) (hx : ∀ σ, PassesAt CX X σ (E σ)) (ha : PA X (e :: es) t)
    (hdb : (x == ("__debug__" : Str)) = false := by decide) (hst : starEach (e :: es) X.env = (false, eval e X.env) :: starEach es X.env := by rfl) (hpl : (backTo pos (starEach es X.env)).any (·.1) = false := by rfl)
    (ht : eval (.Call (.Attribute (.Name x px) m apos) (e :: es) [] pos) X.env = (do
      let ov ← eval (.Name x px) X.env
      standAt apos.atName
      let (f, first) ← holding [ov] (getMethod ov m pl)
      callWith pos f first (backTo pos (starEach (e :: es) X.env)) (backToKw pos (keywordEach [] X.env))) := by rfl) :
    PE X (.Call (.Attribute (.Name x px) m apos) (e :: es) [] pos) (tSm sp E t) := by
  refine ⟨fun pins s σ H Q I h => ?_⟩
  refine PySem.W.methodCall_KW (pl := pl) (ld_glob I hg hm ?_ hdb) ht
  refine getsm_ok I r c fun s2 I2 => ?_
  refine PySem.W.callWith_K (first := []) (h₀ := X.base) I2.ok.mod.kin c.kp (thn (ha.run pos pins s2 σ H _ I2 h) fun us s3 ⟨vs, H2, I3, rv, q2⟩ => ⟨I3.kIn, ?_⟩) hst hpl
  exact run_fnS F hr hb (hx σ) I3 rv q2
end
section
variable {α β γ ε : Type} {w : Rw α} {r : Rp β} {Γ Γ1 : List Sl} {ta : TA} {a : α} {b : β} {R : ER ε} {C : Addr} {names : List Str}
theorem ev_sm {m : α → Option β} {E : L2.St → XK} (h : EvW w ta Γ Γ1 a) (e : m a = some b) : EvX r (tSm (SpP w r m) E ta) Γ Γ1 b := fun A σ H B F Q q => h A σ H B F _ fun vs H1 B1 F1 s1 k1 =>
  ⟨B1, a, b, F1.sz, F1.bh, k1, e, fun H2 B2 v P k2 => q v H2 B2 (F1.after P) (s1.trans P.b0) k2⟩
/-- a def that may raise is called: both ways -/
theorem er_sm {m : α → Option (Res ε β)} {x : Res ε β} (h : EvW w ta Γ Γ1 a) (e : m a = some x) : EvR R r (fun E => tSm (SpX R w r m) E ta) Γ Γ1 x := fun A σ H B F E Q qo qe => h A σ H B F _ fun vs H1 B1 F1 s1 k1 =>
  ⟨B1, a, x, F1.sz, F1.bh, k1, e, fun b hb H2 B2 v P k2 => qo b hb v H2 B2 (F1.after P) (s1.trans P.b0) k2, fun y hy cls d H2 B2 P k2 => qe y hy cls d H2 B2 (F1.after P) (s1.trans P.b0) k2⟩
/-- .. where it does not raise -/
theorem ev_ok {tf : (L2.St → XK) → TE} {x : Res ε β} (h : EvR R r tf Γ Γ1 x) (e : x = .ok b) (E : L2.St → XK) : EvX r (tf E) Γ Γ1 b := fun A σ H B F Q q =>
  h A σ H B F E Q (fun y hy v H' B' F' s k => by rw [e] at hy; cases hy; exact q v H' B' F' s k) fun y hy => by rw [e] at hy; cases hy
end
end G

set_option maxHeartbeats 4000000
/-! # G: dicts -/
namespace G
open PySem PySem.Spec PyProof.Rows L2
/-- a key that is a value without the heap -/
structure Ky {κ : Type} [DecidableEq κ] (r : Rp κ) where
  key : κ → L2.Key
  ok : ∀ {H v k}, r.rel H v k → v = L2.kV (key k)
  inj : ∀ {a b}, key a = key b → a = b
  kn : ∀ {B k}, r.rel B (L2.kV (key k)) k
def kyInt : Ky rInt := ⟨.inl, fun h => h, fun h => Sum.inl.inj h, rfl⟩
def kyStr : Ky rStr := ⟨.inr, fun h => h, fun h => Sum.inr.inj h, rfl⟩
section
variable {κ β α γ : Type} [DecidableEq κ] {rk : Rp κ} {rv : Rp β} {r : Rp α} {te ta tb tk tv : TE} {tt : TT} {Γ Γ1 Γ2 : List Sl} {K : PySem.W.Frag} {xs : List α}
def putM (l : List (κ × β)) (k : κ) (v : β) : List (κ × β) := if (l.any fun e => decide (e.1 = k)) = true then l.map (fun e => if e.1 = k then (e.1, v) else e) else l ++ [(k, v)]
def getM (l : List (κ × β)) (k : κ) : Option β := (l.find? fun e => decide (e.1 = k)).map (·.2)
def DRel (ky : Ky rk) (rv : Rp β) (H : Hp) (e : L2.Key × V) (x : κ × β) : Prop := e.1 = ky.key x.1 ∧ rv.rel H e.2 x.2
def cDic (ky : Ky rk) (rv : Rp β) : Cl (List (κ × β)) := ⟨fun H o xs => ∃ kvs, o = .dK kvs ∧ Paired (DRel ky rv H) kvs xs, fun s ⟨kvs, e, h⟩ => ⟨kvs, e, Paired.imp2 (fun _ _ q => ⟨q.1, rv.mono s q.2⟩) h⟩⟩
theorem any_key (ky : Ky rk) {H : Hp} (k : κ) : ∀ {kvs : List (L2.Key × V)} {l : List (κ × β)}, Paired (DRel ky rv H) kvs l → (kvs.any fun e => decide (e.1 = ky.key k)) = l.any fun e => decide (e.1 = k)
  | _, _, .nil => rfl
  | _, _, .cons (a := a) (b := b) q t => by
    rw [List.any_cons, List.any_cons, any_key ky k t]
    congr 1
    by_cases h : b.1 = k
    · rw [decide_eq_true h, decide_eq_true (by rw [q.1, h])]
    · rw [decide_eq_false h, decide_eq_false fun e => h (ky.inj (by rw [← q.1]; exact e))]
theorem map_pair (ky : Ky rk) {H : Hp} {k : κ} {v : V} {b : β} (hv : rv.rel H v b) : ∀ {kvs : List (L2.Key × V)} {l : List (κ × β)}, Paired (DRel ky rv H) kvs l → Paired (DRel ky rv H) (kvs.map fun kv => if kv.1 = ky.key k then (kv.1, v) else kv) (l.map fun e => if e.1 = k then (e.1, b) else e)
  | _, _, .nil => .nil
  | _, _, .cons (a := a) (b := b') q t => by
    rw [List.map_cons, List.map_cons]
    refine .cons ?_ (map_pair ky hv t)
    by_cases e : b'.1 = k
    · rw [if_pos e, if_pos (by rw [q.1, e])]
      exact ⟨q.1, hv⟩
    · rw [if_neg e, if_neg fun z => e (ky.inj (by rw [← q.1]; exact z))]
      exact q
theorem put_pair (ky : Ky rk) {H : Hp} {k : κ} {v : V} {b : β} (hv : rv.rel H v b) {kvs : List (L2.Key × V)} {l : List (κ × β)} (h : Paired (DRel ky rv H) kvs l) : Paired (DRel ky rv H) (putK kvs (ky.key k) v) (putM l k b) := by
  unfold putK putM
  rw [any_key ky k h]
  split
  · exact map_pair ky hv h
  · exact Paired.app h (.cons ⟨rfl, hv⟩ .nil)
theorem putM_len (l : List (κ × β)) (k : κ) (v : β) : (putM l k v).length ≤ l.length + 1 := by
  unfold putM
  split
  · rw [List.length_map]; omega
  · rw [List.length_append, List.length_singleton]; omega
theorem get_pair (ky : Ky rk) {H : Hp} (k : κ) : ∀ {kvs : List (L2.Key × V)} {l : List (κ × β)}, Paired (DRel ky rv H) kvs l → (∀ b, getM l k = some b → ∃ v, valV kvs (ky.key k) = some v ∧ rv.rel H v b) ∧ (getM l k = none → valV kvs (ky.key k) = none)
  | _, _, .nil => ⟨(fun b e => by cases e), fun _ => rfl⟩
  | _, _, .cons (a := a) (b := b) (l₁ := l1) (l₂ := l2) q t => by
    have ih := get_pair ky k t
    by_cases h : b.1 = k
    · have h1 : decide (b.1 = k) = true := decide_eq_true h
      have h2 : decide (a.1 = ky.key k) = true := decide_eq_true (by rw [q.1, h])
      refine ⟨fun c e => ?_, fun e => ?_⟩
      · unfold getM at e
        rw [List.find?_cons_of_pos (by simpa using h)] at e
        have e' : b.2 = c := Option.some.inj e
        refine ⟨a.2, ?_, e' ▸ q.2⟩
        unfold valV
        rw [List.find?_cons_of_pos (by simpa using h2)]
        rfl
      · unfold getM at e
        rw [List.find?_cons_of_pos (by simpa using h)] at e
        cases e
    · have h2 : ¬ a.1 = ky.key k := fun e => h (ky.inj (by rw [← q.1]; exact e))
      have e1 : getM (b :: l2) k = getM l2 k := by
        unfold getM
        rw [List.find?_cons_of_neg (by simpa using h)]
      have e2 : valV (a :: l1) (ky.key k) = valV l1 (ky.key k) := by
        unfold valV
        rw [List.find?_cons_of_neg (by simpa using h2)]
      rw [e1, e2]
      exact ih
/-- {k: v for x in xs if t} -/
def compD {α κ β : Type} [DecidableEq κ] (f : α → Option (Option (κ × β))) : List α → List (κ × β) → Option (List (κ × β))
  | [], l => some l
  | x :: xs, l => match f x with
    | none => none
    | some none => compD f xs l
    | some (some y) => compD f xs (putM l y.1 y.2)
theorem ec_dc (ky : Ky rk) {wi : TI} {g : TG} {ws vs : List Nat} (f : α → Option (Option (κ × β))) {Γf : α → List Sl} {ys : List (κ × β)} (hi : ItX r wi Γ Γ1 xs) (e : compD f xs [] = some ys) (hg : TgX g r ws Γ1 Γf) (hw : ∀ k, k ∈ ws → k ∈ vs) (hv : wipeG Γ1 vs = Γ1) (hm : ∀ x, wipeG (Γf x) vs = Γ1)
    (hb : ∀ (x : α) (o : Option (κ × β)), f x = some o → EvT tt (Γf x) (Γf x) o.isSome ∧ ∀ y, o = some y → EvX rk tk (Γf x) (Γf x) y.1 ∧ EvX rv tv (Γf x) (Γf x) y.2) : EvC (cDic ky rv) (tDc wi g tt tk tv vs) Γ Γ1 ys := fun A σ H B F Q q => by
  refine hi A σ H B F _ fun J H1 B1 F1 sB1 Y => fun D hD => ?_
  have F2 := F1.and (Bx := B1) (Same.refl _)
  have h0D : A.H0 D = none := F1.H0none hD
  have hmD : ¬ A.m D := fun m => F.mh D m h0D
  have F3 := F2.wipe vs
  rw [hv] at F3
  have F4 := F3.fresh (o := .dK []) hD (Nat.zero_le _)
  refine ⟨fun i m H => m = xs.length - i ∧ i ≤ xs.length ∧ ∃ B acc l, Frm ((A.and B1).add D (.dK acc)) (L2.wipe σ vs) H B Γ1 ∧ Paired (DRel ky rv B) acc l ∧ acc.length ≤ i ∧ compD f (xs.drop i) l = some ys, ?_, ?_⟩
  · exact ⟨_, rfl, Nat.zero_le _, B1, [], [], F4, .nil, Nat.le_refl _, by rw [List.drop_zero]; exact e⟩
  · rintro i m H2 ⟨rfl, hil, B3, acc, l, F5, pa, hacc, e2⟩
    by_cases hlt : i < xs.length
    · right
      have hx : xs[i]? = some xs[i] := List.getElem?_eq_getElem hlt
      rw [List.drop_eq_getElem_cons hlt] at e2
      refine ⟨Y.go i H2 B3 F5.ph.2 F5.bh hlt, fun H3 => ∃ B acc l, Frm ((A.and B1).add D (.dK acc)) (L2.wipe σ vs) H3 B Γ1 ∧ Paired (DRel ky rv B) acc l ∧ acc.length ≤ i + 1 ∧ compD f (xs.drop (i + 1)) l = some ys, fun H3 h3 => ⟨_, by omega, rfl, by omega, h3⟩, fun v H3 hy => ?_⟩
      obtain ⟨B4, F6, sB4, k4⟩ := Y.yld i _ H2 B3 v H3 F5.ph.2 F5.bh hx hy _ _ _ F5
      refine hg _ _ H3 B4 v xs[i] F6 k4 _ fun σ4 F7 hl4 d4 => ⟨wipe_wipe hl4 fun k hk => d4 k fun z => hk (hw k z), ?_⟩
      have hwp := wipe_wipe hl4 fun k hk => d4 k fun z => hk (hw k z)
      have mono : ∀ {B B' : Hp}, Same B B' → Paired (DRel ky rv B) acc l → Paired (DRel ky rv B') acc l := fun s h => Paired.imp2 (fun _ _ q => ⟨q.1, rv.mono s q.2⟩) h
      unfold compD at e2
      cases q2 : f xs[i] with
      | none => rw [q2] at e2; cases e2
      | some o =>
        rw [q2] at e2
        obtain ⟨hT, hE⟩ := hb _ _ q2
        refine hT _ _ _ _ F7 _ fun H5 B5 F8 sB5 => ?_
        cases o with
        | none =>
          have F9 := F8.wipe vs
          rw [hm, hwp] at F9
          exact ⟨B5, acc, l, F9, mono (sB4.trans sB5) pa, by omega, e2⟩
        | some y =>
          obtain ⟨hK, hV⟩ := hE y rfl
          refine hK _ _ _ _ F8 _ fun u H6 B6 F9 sB6 k6 => hV _ _ _ _ F9 _ fun u2 H7 B7 F10 sB7 k7 => ?_
          have hid := F10.hid (A := A.and B1) h0D hmD
          refine ⟨acc, ky.key y.1, ky.ok k6, hid, Nat.lt_of_lt_of_le (Nat.lt_of_le_of_lt hacc hlt) Y.len, ?_⟩
          have F11 := F10.wipe vs
          rw [hm, hwp] at F11
          have pa2 := put_pair ky (k := y.1) k7 (mono (((sB4.trans sB5).trans sB6).trans sB7) pa)
          have len2 : (putK acc (ky.key y.1) u2).length ≤ i + 1 := by
            rw [Paired.len pa2]
            have h1 := putM_len l y.1 y.2
            have h2 := Paired.len pa
            omega
          have F12 := F11.hidset (A := A.and B1) (o' := .dK (putK acc (ky.key y.1) u2)) h0D hmD F.sub (Nat.le_trans len2 (Nat.le_trans hlt Y.len))
          exact ⟨B7, _, _, F12, pa2, len2, e2⟩
    · left
      have hil : i = xs.length := by omega
      subst hil
      refine ⟨Y.stop H2 B3 F5.ph.2 F5.bh, ?_⟩
      rw [List.drop_length] at e2
      unfold compD at e2
      cases e2
      have F6 := F5.unwipe hv
      have F7 : Frm ((A.add D (.dK acc)).and B1) σ H2 B3 _ := F6
      exact q D (.dK acc) H2 B3 F7.unand h0D (sB1.trans F5.ph.2) ⟨acc, rfl, pa⟩
/-! ### what is in a dict -/
theorem ob_dic (ky : Ky rk) {B H : Hp} {u : V} {l : List (κ × β)} (s : Same B H) (h : (rOb (cDic ky rv)).rel B u l) : ∃ p kvs, u = .ref p ∧ H p = some (.dK kvs) ∧ Paired (DRel ky rv B) kvs l := by
  obtain ⟨p, o, e, hp, kvs, rfl, k⟩ := h
  exact ⟨p, kvs, e, s _ _ hp, k⟩
theorem some_get (ky : Ky rk) {H : Hp} {k : κ} {kvs : List (L2.Key × V)} {l : List (κ × β)} (h : Paired (DRel ky rv H) kvs l) : (valV kvs (ky.key k)).isSome = (getM l k).isSome := by
  obtain ⟨h1, h2⟩ := get_pair ky k h
  cases q : getM l k with
  | none => rw [h2 q]; rfl
  | some b => obtain ⟨v, e, _⟩ := h1 b q; rw [e]; rfl
theorem ev_din (ky : Ky rk) {k : κ} {l : List (κ × β)} (hk : EvX rk tk Γ Γ1 k) (hd : EvX (rOb (cDic ky rv)) ta Γ1 Γ2 l) : EvX rBool (tDIn tk ta) Γ Γ2 ((getM l k).isSome) := fun A σ H B F Q q =>
  hk A σ H B F _ fun y H1 B1 F1 s1 k1 => hd A σ H1 B1 F1 _ fun x H2 B2 F2 s2 k2 => by
    obtain ⟨p, kvs, rfl, hp, kp⟩ := ob_dic ky F2.bh k2
    refine ⟨p, _, rfl, ?_, q _ _ _ F2 (s1.trans s2) (by show V.bl _ = V.bl _; rw [some_get ky kp])⟩
    rw [ky.ok k1]
    exact DGet.k hp
theorem ev_dnin (ky : Ky rk) {k : κ} {l : List (κ × β)} (hk : EvX rk tk Γ Γ1 k) (hd : EvX (rOb (cDic ky rv)) ta Γ1 Γ2 l) : EvX rBool (tDNotIn tk ta) Γ Γ2 (!(getM l k).isSome) := fun A σ H B F Q q =>
  hk A σ H B F _ fun y H1 B1 F1 s1 k1 => hd A σ H1 B1 F1 _ fun x H2 B2 F2 s2 k2 => by
    obtain ⟨p, kvs, rfl, hp, kp⟩ := ob_dic ky F2.bh k2
    refine ⟨p, _, rfl, ?_, q _ _ _ F2 (s1.trans s2) (by show V.bl _ = V.bl _; rw [some_get ky kp])⟩
    rw [ky.ok k1]
    exact DGet.k hp
theorem ev_dget (ky : Ky rk) {k : κ} {l : List (κ × β)} {b : β} (hd : EvX (rOb (cDic ky rv)) ta Γ Γ1 l) (hk : EvX rk tk Γ1 Γ2 k) (e : getM l k = some b) : EvX rv (tDGet ta tk) Γ Γ2 b := fun A σ H B F Q q =>
  hd A σ H B F _ fun x H1 B1 F1 s1 k1 => hk A σ H1 B1 F1 _ fun y H2 B2 F2 s2 k2 => by
    obtain ⟨p, kvs, rfl, hp, kp⟩ := ob_dic ky F2.bh ((rOb (cDic ky rv)).mono s2 k1)
    obtain ⟨v, ev, kv⟩ := (get_pair ky k kp).1 b e
    refine ⟨p, v, rfl, ?_, q _ _ _ F2 (s1.trans s2) kv⟩
    rw [ky.ok k2, ← ev]
    exact DGet.k hp
end
end G

set_option maxHeartbeats 4000000
/-! # G: while with more behind it; small rules by K -/
namespace G
open PySem PySem.Spec PyProof.Rows L2
section
variable {ρ ς : Type} {Γ : List Sl} {A : Amb} {ψ : ρ → Hp → Hp → V → Prop} {tt : TT} {tb u : TS} {D : Ends} {X : Cx} {K : PySem.W.Frag} {wd : World}
theorem sq_while (c : ς → Option Bool) (f : ς → Option (Step ρ ς)) (mk : ς → List Sl) {s0 : ς} {R0 : Step ρ ς} {n : Nat}
    (e : whL c f n s0 = some R0) (h0 : Nx A (Fin A (mk s0)) Γ) (ht : ∀ s b, c s = some b → EvT tt (mk s) (mk s) b)
    (hb : ∀ (D' : Ends) (s : ς) (st : Step ρ ς), f s = some st → Conts A ψ D' mk st → Nx A (tb D') (mk s))
    (hr : ∀ b, R0 = .ret b → Rt A ψ b D.rt) (hd : ∀ s, R0 = .nx s → Nx A (u D) (mk s)) : Nx A (tSeq (tWhile tt tb) u D) Γ := nx_while (D := { D with nx := u D }) c f mk e h0 ht (fun D' s st _ h k => hb D' s st h k) hr hd
theorem sortedSetK (hw : X.w = wd) (hc : X.calm = true) : CallR X (.builtin "sorted") (rSortedSet wd) := by subst hw; exact cr_sortedSet hc
end
end G

set_option maxHeartbeats 4000000
/-! # G: defaults; tuples that may be the text's own -/
namespace G
open PySem PySem.Spec PyProof.Rows L2
theorem _root_.L2.Room.units1 {k : Nat} {A : Around} (r : L2.Room k A) : A.units + 1 < cLine := by have := r.units; omega
def rTK {α : Type} (K : PySem.W.Frag) (r : Rp α) : Rp (List α) := ⟨fun H v xs => ∃ p vs, v = .ref p ∧ SqT K H p vs ∧ vs.length ≤ sizeLine ∧ Paired (r.rel H) vs xs, fun s ⟨p, vs, e, h, l, k⟩ => ⟨p, vs, e, Same.seqT s h, l, Paired.monoR s k⟩⟩
/-- what the defaults add to the written arguments -/
def DApp {α γ : Type} (w0 : Rw α) (dvs : List V) (w : Rw γ) (f : α → γ) : Prop := ∀ B vs a, w0.rel B vs a → w.rel B (vs ++ dvs) (f a)
section
variable {α β γ δ : Type} {r : Rp α} {rb : Rp β} {w0 : Rw α} {w : Rw γ} {wd : Rw δ} {dvs : List V} {Γ Γ1 : List Sl} {te : TE} {ta : TA} {K : PySem.W.Frag} {xs : List α} {a : α} {b : β} {C : Addr} {names : List Str}
theorem dapp_0 {d : δ} (h : ∀ B, wd.rel B dvs d) : DApp G.w0 dvs wd (fun _ => d) := fun B vs a e => by
  rw [show vs = [] from e]; exact h B
theorem dapp_1 {d : δ} (h : ∀ B, wd.rel B dvs d) : DApp (w1 r) dvs (wC r wd) (fun a => (a, d)) := fun B vs a ⟨v, e, k⟩ => ⟨v, dvs, by rw [e]; rfl, k, h B⟩
theorem dapp_C {f : α → γ} {rr : Rp β} (h : DApp w0 dvs w f) : DApp (wC rr w0) dvs (wC rr w) (fun a => (a.1, f a.2)) := fun B vs a ⟨v, t, e, k, k2⟩ => ⟨v, t ++ dvs, by rw [e]; rfl, k, h B t a.2 k2⟩
theorem tk_nil {e : Addr} {o : Obj} {n : Nat} (h : K.lookup e = some o) (hc : o.cls = .type "tuple") (hd : o.data = .seq #[] n) (B : Hp) : (w1 (rTK K r)).rel B [V.ref e] [] := ⟨_, rfl, e, [], rfl, .inr ⟨o, #[], n, h, hc, hd, Nat.zero_le _, .nil⟩, Nat.zero_le _, .nil⟩
/-- the text's empty tuple -/
def EmpT (K : PySem.W.Frag) (e : Addr) : Prop := ∃ (o : Obj) (n : Nat), K.lookup e = some o ∧ o.cls = .type "tuple" ∧ o.data = .seq #[] n
theorem tkE {e : Addr} (h : EmpT K e) (B : Hp) : (w1 (rTK K r)).rel B [V.ref e] [] := by
  obtain ⟨o, n, h1, h2, h3⟩ := h
  exact tk_nil h1 h2 h3 B
theorem ev_tk (h : EvX (rTpl r) te Γ Γ1 xs) : EvX (rTK K r) te Γ Γ1 xs := fun A σ H B F Q q => h A σ H B F Q fun v H' B' F' s k => q v H' B' F' s (by
  obtain ⟨p, o, rfl, hp, vs, rfl, kp⟩ := k
  exact ⟨p, vs, rfl, SqT.of hp, F'.sz _ _ (F'.bh _ _ hp), kp⟩)
theorem it_tk (h : EvX (rTK K r) te Γ Γ1 xs) : ItX r (iTup K te) Γ Γ1 xs := fun A σ H B F R q => h A σ H B F _ fun v H' B' F' s k => by
  obtain ⟨p, vs, rfl, hp, hl, kp⟩ := k
  refine ⟨p, rfl, ⟨vs, Same.seqT F'.bh hp⟩, q _ H' B' F' s ⟨by rw [← Paired.len kp]; exact hl, fun H2 B2 s1 s2 => ?_, fun i H2 B2 s1 s2 hi => ?_, fun i x H2 B2 v H3 s1 s2 hx hy A σ Γ F => ?_⟩⟩
  · exact ⟨vs, Same.seqT s2 (Same.seqT s1 hp), by rw [Paired.len kp]; exact Nat.le_refl _⟩
  · obtain ⟨y, hy⟩ : ∃ y, vs[i]? = some y := ⟨_, List.getElem?_eq_getElem (by rw [Paired.len kp]; exact hi)⟩
    exact ⟨vs, y, Same.seqT s2 (Same.seqT s1 hp), hy⟩
  · obtain ⟨rfl, hv⟩ := hy
    obtain ⟨y, hy, ky⟩ := Paired.getR kp hx
    have e := hv vs (Same.seqT s2 (Same.seqT s1 hp))
    rw [hy] at e; cases e
    exact ⟨B2, F, Same.refl _, r.mono s1 ky⟩
/-- a class is called, some parameters by their defaults -/
theorem ev_makeD {wb : Rw β} {f : α → γ} {m : γ → Option β} {E : XK} (h : EvW w0 ta Γ Γ1 a) (d : DApp w0 dvs w f) (e : m (f a) = some b) : EvX (rIns C names wb) (tMake C (SpJ C w (cIns C names wb) m) dvs E ta) Γ Γ1 b := fun A σ H B F Q q => h A σ H B F _ fun vs H1 B1 F1 s1 k1 => by
  intro y dy hy hd ne
  obtain ⟨p1, p2, p3, p4⟩ := made_pre (C := C) F1 hy hd ne
  refine ⟨y, dy, vs ++ dvs, upd B1 dy (.own y), f a, b, rfl, upd_same, p3, p1, p2, w.mono p4 (d B1 vs a k1), e, fun H2 B2 P ⟨o, ho, k⟩ => ⟨rfl, ?_⟩⟩
  have F2 := made_frame (A := A) F1 hy hd ne P ho
  have F3 := F2.adopt (F1.H0none hy) F1.sub F1.mh
  have hB2 : B2 y = none := P.out y (by show upd (upd H1 dy (.own y)) y (.ins C dy []) y ≠ none; rw [upd_same]; simp) p3
  have s3 : Same B2 (upd B2 y o) := fun q u e => by rw [upd_ne (ne_of_none e hB2)]; exact e
  exact q _ _ _ F3 (s1.trans (p4.trans (P.b0.trans s3))) ⟨y, o, rfl, upd_same, (cIns C names wb).mono s3 k⟩
end
section
variable {P : Program} {w : World} {K : PySem.W.Frag} {mg : Str → Option Value} {base : Heap} {x qual : Str} {params : Arguments} {body : List Stmt} {scope : Scope} {dvs : List V} {kws : List (Str × V)} {f : Addr} {fd : FuncData}
theorem funD_okN {N ps : List Str} {k : Nat} {sp : Sp} (F : FunD K x qual params body scope dvs kws f fd) (S : FnScope N ps scope) (len : ∀ vs H Q E, sp vs H Q E → vs.length = ps.length)
    (hbody : ∀ (cdv : Value) (A : Around) (outer : List Env) (s : Shared) (H : Hp) (vs : List V) (Q : VK) (E : XK), Room k (A.deeper (envOfC qual scope s.heap.objs.size f cdv)) → sp vs H Q E →
      ∃ t, PSs (cxOf CX0 P w K mg base N qual scope f cdv A outer s H E).nox body t ∧ t { nx := fun _ H' => Q .non H', rt := Q } (start N vs) H) : FnOk P w K mg base CX0 (k + 1) f fd ps sp :=
  F.ok S len fun cdv A outer s H vs Q E hr h => by
    obtain ⟨t, h1, h2⟩ := hbody cdv A outer s H vs Q E hr h
    exact ⟨t, h1.nox, h2⟩
end
end G

set_option maxHeartbeats 4000000
/-! # G: isinstance of a caught error; calls that may raise as statements; join -/
namespace G
open PySem PySem.Spec PyProof.Rows L2
/-- isinstance(e, c), e the error that the suite holds, its fields in the dict d -/
def rIsX (K : PySem.W.Frag) (C a : Addr) (d : Option Addr) : List V → Hp → VK → Prop := fun xs H Q => ∃ (c : V) (cv : Value) (b : Bool) (dd : Addr) (fs : List (Str × V)), xs = [.ref a, c] ∧ ClsV c cv ∧ PySem.W.kitOne K (.ref C) cv = some b ∧ d = some dd ∧ H dd = some (.xd fs) ∧ Q (.bl b) H
theorem call_isX {X : Cx} {K : PySem.W.Frag} {a D : Addr} {d : Option Addr} {oe : Obj} {pn : List (Addr × Obj)} (hK : X.K = K) (C : ExcC K D) (hz : Zc (.ref D) d oe) (hf : ∃ vs, oe.data = .fields vs) : CallR (X.suite a ((a, oe) :: pn)) (.builtin "isinstance") (rIsX K D a d) := by
  subst hK
  intro pins s σ H xs us Q I r h
  obtain ⟨c, cv, b, dd, fs, rfl, hcv, e, rfl, hdd, q⟩ := h
  cases r with
  | cons rx rr =>
    cases rr with
    | cons rt rr =>
      cases rr
      cases rx
      obtain rfl := ClsV.eq hcv rt
      obtain ⟨hget, _⟩ := I.pin (a, oe) (List.mem_append.mpr (.inl List.mem_cons_self))
      obtain ⟨vs, hv⟩ := hf
      have hx : ObjOk X.prog X.w H s.heap dd (.xd fs) := I.hok dd _ hdd
      obtain ⟨mA, hns, hr⟩ := hx
      obtain ⟨od, ho, hl⟩ := lookIn_ns hns
      have J : PySem.W.InstAt s.heap a oe D (some od) := ⟨hget, hz.1, by unfold PySem.W.notCls; rw [hv] <;> rfl, by rw [hz.2]; exact ho⟩
      have hcl : (PySem.W.clsIn X.K D).isSome = true := by
        have h1 := C.hd
        unfold PySem.W.hasDictIn at h1
        cases q : PySem.W.clsIn X.K D with
        | none => rw [q] at h1; cases h1
        | some cd => rfl
      exact PySem.W.kia_one (PySem.W.kitx_exc hcl C.hg C.hk C.hs C.ha C.hn C.ht C.hm) I.kIn J e (fun z => nomatch z) fun tk => ⟨.bl b, H, I.kept (t' := tk) fun _ _ z => z, rfl, q⟩
section
variable {α β γ ε : Type} {r : Rp β} {w : Rw α} {Γ Γ1 : List Sl} {te : TE} {ta : TA} {K : PySem.W.Frag} {a : α} {b : β} {C : Addr} {names : List Str} {A : Amb} {D : Ends} {u : TS} {R : ER ε} {i : Nat}
theorem ev_isX {p : Addr} {d : Option Addr} {c : V} {cv : Value} {k : Bool} (h : EvX (rExc p d C names w) te Γ Γ1 a) (hc : ClsV c cv) (kit : PySem.W.kitOne K (.ref C) cv = some k) : EvX rBool (tCB (rIsX K C p d) (tCons te (tCons (tC c) tNil))) Γ Γ1 k := fun A σ H B F Q q =>
  h A σ H B F _ fun v H1 B1 F1 s1 ⟨e, _, dd, fs, vs, h2, h3, h4, h5⟩ => by
    subst e
    exact ⟨c, cv, k, dd, fs, rfl, hc, kit, h2, F1.bh _ _ h3, q _ H1 B1 F1 s1 rfl⟩
theorem sq_dropSm {W : WX} {m : α → Option (Res ε β)} {x : Res ε β} {k : β → Option γ} {l : ε → Option γ} {z : γ} (h : EvW w ta Γ Γ1 a) (e : m a = some x) (q : resX x k l = some z)
    (ko : ∀ y, k y = some z → Nx A (u D) Γ1) (ke : ∀ y, l y = some z → NxE W A Γ1 R y) : Nx A (tSeq (tDrop (tSm (SpX R w r m) (WE W) ta)) u D) Γ :=
  sq_dropR (tf := fun E => tSm (SpX R w r m) E ta) (er_sm h e) q ko ke
theorem sq_asgSm {W : WX} {m : α → Option (Res ε β)} {x : Res ε β} {k : β → Option γ} {l : ε → Option γ} {z : γ} (h : EvW w ta Γ Γ1 a) (e : m a = some x) (q : resX x k l = some z)
    (ko : ∀ y, k y = some z → Nx A (u D) (Γ1.set i (.imm r y))) (ke : ∀ y, l y = some z → NxE W A Γ1 R y) : Nx A (tSeq (tAsg (tSm (SpX R w r m) (WE W) ta) (gName i)) u D) Γ :=
  sq_asgR (tf := fun E => tSm (SpX R w r m) E ta) (er_sm h e) q ko ke
def okR (x : Res ε β) : Option β := match x with
  | .ok b => some b
  | .er _ => none
@[simp] theorem okR_ok (b : β) : okR (.ok b : Res ε β) = some b := rfl
theorem okR_eq {x : Res ε β} {b : β} (h : okR x = some b) : x = .ok b := by
  cases x with
  | ok y => cases h; rfl
  | er e => cases h
theorem ev_smOk {m : α → Option (Res ε β)} {x : Res ε β} {E : L2.St → XK} (h : EvW w ta Γ Γ1 a) (e : m a = some x) (o : okR x = some b) : EvX r (tSm (SpX R w r m) E ta) Γ Γ1 b := ev_ok (tf := fun E => tSm (SpX R w r m) E ta) (er_sm h e) (okR_eq o) E
/-! ### join -/
def pyJoin (z : Str) (ys : List Str) : Option Str := if (ys.map (·.length)).sum + ys.length * z.length ≤ 16777216 then some (Txt.join z ys) else none
theorem ev_join {z o : Str} {ys : List Str} {tz : TE} {Γ2 : List Sl} (hz : EvX rStr tz Γ Γ1 z) (hy : EvX (rLst rStr) te Γ1 Γ2 ys) (e : pyJoin z ys = some o) :
    EvX rStr (tM1 (fun x xs H Q => ∃ a p, ∃ ys : List Str, x = .str a ∧ xs = [.ref p] ∧ (SqL K H p (ys.map V.str) ∨ SqT K H p (ys.map V.str)) ∧ (ys.map (·.length)).sum + ys.length * a.length ≤ 16777216 ∧ Q (.str (Txt.join a ys)) H) tz te) Γ Γ2 o := fun A σ H B F Q q => by
  unfold pyJoin at e
  split at e
  · rename_i hl
    cases e
    refine hz A σ H B F _ fun v H1 B1 F1 s1 k1 => ⟨⟨z, k1⟩, hy A σ H1 B1 F1 _ fun v2 H2 B2 F2 s2 k2 => ?_⟩
    obtain ⟨p, vs, rfl, hp, k⟩ := ob_lst F2.bh k2
    exact ⟨z, p, ys, k1, rfl, .inl (by rw [show ys.map V.str = vs from (fl_str.vals k).symm]; exact SqL.of hp), hl, q _ _ _ F2 (s1.trans s2) rfl⟩
  · cases e
theorem pe_joinK {X : Cx} {o e : Expr} {to te : TE} {apos pos : Pos} (hK : X.K = K) (h : PE X (.Call (.Attribute o "join" apos) [e] [] pos) (tM1 (fun x xs H Q => ∃ a p, ∃ ys : List Str, x = .str a ∧ xs = [.ref p] ∧ (SqL X.K H p (ys.map V.str) ∨ SqT X.K H p (ys.map V.str)) ∧ (ys.map (·.length)).sum + ys.length * a.length ≤ 16777216 ∧ Q (.str (Txt.join a ys)) H) to te)) :
    PE X (.Call (.Attribute o "join" apos) [e] [] pos) (tM1 (fun x xs H Q => ∃ a p, ∃ ys : List Str, x = .str a ∧ xs = [.ref p] ∧ (SqL K H p (ys.map V.str) ∨ SqT K H p (ys.map V.str)) ∧ (ys.map (·.length)).sum + ys.length * a.length ≤ 16777216 ∧ Q (.str (Txt.join a ys)) H) to te) := by subst hK; exact h
end
end G

set_option maxHeartbeats 4000000
/-! # G: range with ends of any size, two comparisons, the type of an instance, max and min with default=None -/
namespace G
open PySem PySem.Spec PyProof.Rows L2
section
variable {X : Cx} {K : PySem.W.Frag} {tg : Expr}
theorem turn_lng {P : Program} {w : World} (it : Addr) (lo : Int) (n : Nat) : Turn P w K tg (Itr lo n) [it] it (fun i h => IsLongIter h it (lo + (i : Nat) * 1) ((n : Int) - (i : Nat)) 1) where
  mem := List.mem_singleton.mpr rfl
  obj := fun i h st b hb => by
    cases List.mem_singleton.mp hb
    exact ⟨_, st, fun v z => by
      have y : Data.fields _ = Data.cell v := z
      cases y⟩
  keep := fun i h h' st k => k it (List.mem_singleton.mpr rfl) _ st
  item := by
    intro Y hP hw hK hc i pins s σ H E I hf st hg
    subst hP hw hK
    obtain ⟨f0, f1, _, f3, f4, f5⟩ := hf it (List.mem_singleton.mpr rfl)
    have W := Walks.longrange (prog := Y.prog) (w := Y.w) (I.ok.hd hc) it lo 1 n
    refine W.item i s _ _ hg st fun v h' tk hv st2 kk => ?_
    obtain ⟨t, rfl⟩ := hv
    have I1 : Inv Y pins σ H { s with heap := h', toks := tk } := I.turned (fun b o hb e => kk b o (by simpa using hb) e) f0 f1 f3 f4 f5
    refine ⟨_, rfl, go_of (s := { s with heap := h', toks := tk }) (n := "longrange_iterator") st2 rfl rfl (by decide) ⟨.int (lo + i), H, I1, ⟨t, ?_⟩, ⟨rfl, rfl⟩, st2, fun b hb => (hf b hb).1⟩⟩
    rw [Int.mul_one]
  done := by
    intro Y hP hw hK hc i pins s σ H E I hf st hg
    subst hP hw hK
    obtain ⟨f0, f1, _, f3, f4, f5⟩ := hf it (List.mem_singleton.mpr rfl)
    exact wpAny_pyNext_long_end (I.ok.hd hc) st (by have : n ≤ i := hg; omega) fun h' eb => ⟨rfl, I.turned (t' := s.toks) (fun b o hb e => eb b o hb e) f0 f1 f3 f4 f5⟩
  self := fun _ _ _ _ _ st h => wpAny_pyIter_longiter st h
theorem rng_any {pins : List (Addr × Obj)} {σ : L2.St} {H : Hp} {s : Shared} {R : It → Hp → Prop} {E : Value → Shared → Prop} {lo hi : Int} {t u v : Tok} {tk : Nat} (I : Inv X pins σ H s)
    (q : R (Itr lo (hi - lo).toNat) H) : wpAny (model X.prog X.w) X.A (pyIter (.ref s.heap.objs.size)) (PIE X pins σ tg R) E { s with heap := s.heap.push { cls := .type "range", data := .fields #[.int lo t, .int hi u, .int 1 v] }, toks := tk } := by
  have I1 : Inv X pins σ H { s with heap := s.heap.push { cls := .type "range", data := .fields #[.int lo t, .int hi u, .int 1 v] }, toks := tk } := I.kept fun b o e => Heap.get?_push_of_some _ e
  have e1 : lo + ((0 : Nat) : Int) * 1 = lo := by simp
  have e2 : (((hi - lo).toNat : Nat) : Int) - ((0 : Nat) : Int) = Builtin.Range.rangeSize lo hi 1 := by rw [rangeSize_one]; split <;> omega
  cases hs : Builtin.Range.small lo hi 1 with
  | true =>
    refine wpAny_pyIter_range (IsRange.new ..) hs ?_
    refine ⟨(s.heap.push { cls := .type "range", data := .fields #[.int lo t, .int hi u, .int 1 v] }).objs.size, [(s.heap.push { cls := .type "range", data := .fields #[.int lo t, .int hi u, .int 1 v] }).objs.size], _, _, H, rfl, I1.kept (t' := tk) fun b o e => Heap.get?_push_of_some _ e, turn_range _ lo (hi - lo).toNat, ?_, fun b hb => ?_, q⟩
    · show IsRangeIter _ _ (lo + ((0 : Nat) : Int) * 1) ((((hi - lo).toNat : Nat) : Int) - ((0 : Nat) : Int)) 1
      rw [e1, e2]; exact Heap.get?_push_size _ rfl
    · cases List.mem_singleton.mp hb
      exact I1.fpOk (Nat.le_refl _) (I1.hok.fresh (Nat.le_refl _))
  | false =>
    refine wpAny_pyIter_longrange (IsRange.new ..) hs ?_
    refine ⟨(s.heap.push { cls := .type "range", data := .fields #[.int lo t, .int hi u, .int 1 v] }).objs.size, [(s.heap.push { cls := .type "range", data := .fields #[.int lo t, .int hi u, .int 1 v] }).objs.size], _, _, H, rfl, I1.kept (t' := tk) fun b o e => Heap.get?_push_of_some _ e, turn_lng _ lo (hi - lo).toNat, ?_, fun b hb => ?_, q⟩
    · show IsLongIter _ _ (lo + ((0 : Nat) : Int) * 1) ((((hi - lo).toNat : Nat) : Int) - ((0 : Nat) : Int)) 1
      rw [e1, e2]; exact Heap.get?_push_size _ rfl
    · cases List.mem_singleton.mp hb
      exact I1.fpOk (Nat.le_refl _) (I1.hok.fresh (Nat.le_refl _))
theorem pi_listK {l : Expr} {tl : TE} (h : X.K = K) (hl : PE X l tl) : PI X tg l (iList K tl) := by subst h; exact pi_list hl
theorem pi_tupK {l : Expr} {tl : TE} (h : X.K = K) (hl : PE X l tl) : PI X tg l (iTup K tl) := by subst h; exact pi_tup hl
def iRng3 (ta : TA) : TI := fun σ H R => ta σ H fun vs H1 => ∃ i j : Int, vs = [.int i, .int j] ∧ R (Itr i (j - i).toNat) H1
theorem pi_range3 {a b : Expr} {ta : TA} {p pos : Pos} (hg : Gl X "range") (hm : X.mg "range" = none) (ha : PA X [a, b] ta) (hs : starEach [a, b] X.env = [(false, eval a X.env), (false, eval b X.env)] := by rfl) (hs2 : starEach [b] X.env = [(false, eval b X.env)] := by rfl) : PI X tg (.Call (.Name "range" p) [a, b] [] pos) (iRng3 ta) := by
  refine ⟨fun pins s σ H R I h => ?_⟩
  refine Call_ (ld_blt I hg hm boot_range (PyProof.Rows.callWith_type1 (thn (ha.run pos pins s σ H _ I h) fun us s1 ⟨vs, H1, I1, r1, q1⟩ => ?_) (by rw [hs, hs2]) (by rw [hs2]; rfl)))
  obtain ⟨i, j, e, q⟩ := q1
  subst e
  cases r1 with
  | cons r rr =>
    cases rr with
    | cons r2 rr =>
      cases rr
      obtain ⟨t, rfl⟩ := r
      obtain ⟨u, rfl⟩ := r2
      exact call_range_2 (rng_any I1 q)
end
section
variable {α β γ : Type} {r ra : Rp α} {rb : Rp β} {te ta tb tc : TE} {Γ Γ1 Γ2 : List Sl} {K : PySem.W.Frag} {w : Rw α} {C : Addr} {names : List Str}
def pyRng3 (i j : Int) : Option (List Int) := if j - i ≤ 1000000 then some (rng i (j - i).toNat) else none
theorem it_rng3 {ta : TA} {i j : Int} {l : List Int} (h : EvW (wC rInt (w1 rInt)) ta Γ Γ1 (i, j)) (e : pyRng3 i j = some l) : ItX rInt (iRng3 ta) Γ Γ1 l := fun A σ H B F R q => h A σ H B F _ fun vs H' B' F' s k => by
  obtain ⟨v, t, rfl, rfl, u, rfl, rfl⟩ := k
  unfold pyRng3 at e
  split at e
  · rename_i hj
    cases e
    exact ⟨i, j, rfl, q _ H' B' F' s (yl_rng (by omega))⟩
  · cases e
/-! ### two comparisons of whole numbers -/
theorem nomark2 {op op' : CmpOp} (b c : Expr) (h : op' ≠ .In := by decide) (h2 : op' ≠ .NotIn := by decide) : lastMarks [op, op'] [b, c] = false := nomark c h h2
theorem ch_I {f : Int → Int → Bool} {i j : Int} {H B : Hp} {u v : V} (ku : rInt.rel B u i) (kv : rInt.rel B v j) {Q : VK} (q : Q (.bl (f i j)) H) : rI0 (fun i j => .bl (f i j)) u v H Q := ⟨i, j, ku, kv, q⟩
theorem ev_chI {f g : Int → Int → Bool} {i j k : Int} (ha : EvX rInt ta Γ Γ1 i) (hb : EvX rInt tb Γ1 Γ2 j) (hc : EvX rInt tc Γ2 Γ2 k) : EvX rBool (tChain (rI0 (fun i j => .bl (f i j))) (rI0 (fun i j => .bl (g i j))) ta tb tc) Γ Γ2 (f i j && g j k) :=
  ev_chain ha hb (fun _ => hc) (fun H B u v _ ku kv Q q => ch_I ku kv q) fun _ H B u v _ ku kv Q q => ch_I ku kv q
theorem ev_chO {f g : Int → Int → Bool} {i j : Int} {b1 b : Bool} (ha : EvX rInt ta Γ Γ1 i) (hb : EvX rInt tb Γ1 Γ2 j) (e1 : f i j = b1) (hc : b1 = true → ∃ k, EvX rInt tc Γ2 Γ2 k ∧ b = g j k) (hf : b1 = false → b = false) : EvX rBool (tChain (rI0 (fun i j => .bl (f i j))) (rI0 (fun i j => .bl (g i j))) ta tb tc) Γ Γ2 b := by
  cases b1 with
  | true =>
    obtain ⟨k, hk, rfl⟩ := hc rfl
    have h := ev_chI (f := f) (g := g) ha hb hk
    rw [e1, Bool.true_and] at h
    exact h
  | false =>
    rw [hf rfl]
    exact ev_chain (b1 := false) (b2 := false) (rc := rInt) (z := 0) ha hb (fun h => nomatch h) (fun H B u v _ ku kv Q q => ch_I (f := f) ku kv (by rw [e1]; exact q)) (fun h => nomatch h)
/-! ### the type of an instance -/
structure ClsT (K : PySem.W.Frag) (C : Addr) : Prop where
  cl : Cls K C
  ca : PySem.W.findIn K (.ref C) "__class__" = some (some (.builtin "object.__class__"))
  cn : PySem.W.specialIn K (.builtin "object.__class__") "__get__" = some (some (.builtin "getset_descriptor.__get__"))
  ct : PySem.W.takesIn K (.builtin "object.__class__") = some true
  cm : PySem.W.mroIn K C (.type "object") = some true
theorem ty_ins (k : ClsT K C) : TyR K (rIns C names w) (.ref C) := fun H v a h => by
  obtain ⟨p, dx, vs, rfl, hp, _, _⟩ := ob_ins (Same.refl H) h
  exact .base (.ins hp k.cl k.ca k.cn k.ct k.cm)
/-! ### max(xs, default=None), min -/
def pyMaxN : List Int → Option Int
  | [] => none
  | n :: t => some (t.foldl max n)
def pyMinN : List Int → Option Int
  | [] => none
  | n :: t => some (t.foldl min n)
def oInt : Option Int → V
  | none => .non
  | some n => .int n
def rMxN (K : PySem.W.Frag) (f : List Int → Option Int) : List V → List V → Hp → VK → Prop := fun xs zs H Q => ∃ a ns, xs = [V.ref a] ∧ zs = [V.non] ∧ SqL K H a (ns.map V.int) ∧ Q (oInt (f ns)) H
theorem max_of (n : Int) (ns : List Int) : PySem.W.maxOf n ns = ns.foldl max n := by
  unfold PySem.W.maxOf
  congr 1
  funext a y
  show (if decide (a < y) = true then y else a) = max a y
  by_cases h : a < y
  · rw [if_pos (by simpa using h)]; omega
  · rw [if_neg (by simpa using h)]; omega
theorem min_of (n : Int) (ns : List Int) : PySem.W.minOf n ns = ns.foldl min n := by
  unfold PySem.W.minOf
  congr 1
  funext a y
  show (if decide (y < a) = true then y else a) = min a y
  by_cases h : y < a
  · rw [if_pos (by simpa using h)]; omega
  · rw [if_neg (by simpa using h)]; omega
theorem holds_ints {h : Heap} : ∀ {ns : List Int} {us : List Value}, Vals (ns.map V.int) us → PySem.W.HoldAll h us ns
  | [], _, .nil => ⟨[], .nil⟩
  | n :: _, _, .cons ⟨t, e⟩ k => by
    subst e
    obtain ⟨as, q⟩ := holds_ints (h := h) k
    exact ⟨_, .cons (.int n t) q⟩
theorem holds_int {h : Heap} {v : Value} {n : Int} (k : PySem.W.Holds h v n) : ∃ t, v = .int n t := by
  obtain ⟨as, q⟩ := k
  cases q
  exact ⟨_, rfl⟩
theorem crk_max {X : Cx} (hK : X.K = K) (hc : X.calm = true) (hu : X.A.units + 64 < cLine) : CallRK X (.builtin "max") ["default"] (rMxN K pyMaxN) := by
  subst hK
  intro pins s σ H xs zs us ws Q I q z h
  obtain ⟨a, ns, rfl, rfl, hs, k⟩ := h
  obtain ⟨its, rv, hl, _⟩ := I.list hs
  rw [Vals.ref1 q]
  have ew : ws = [Value.none] := by
    cases z with
    | cons z1 z2 => cases z2; cases (show _ = Value.none from z1); rfl
  subst ew
  refine PySem.W.max_list_datum_default (α := Int) (I.ok.hd hc) hl.isList (holds_ints rv) (by show X.A.units + 1 + 0 < cLine; omega) (fun e h2 tk hk => ?_) fun y ys i v h2 tk e hi hv hk => ?_
  · subst e
    exact ⟨.non, H, I.kept hk, rfl, k⟩
  · subst e
    obtain ⟨t, rfl⟩ := holds_int hv
    exact ⟨.int _, H, I.kept hk, ⟨t, rfl⟩, by rw [max_of]; exact k⟩
theorem crk_min {X : Cx} (hK : X.K = K) (hc : X.calm = true) (hu : X.A.units + 64 < cLine) : CallRK X (.builtin "min") ["default"] (rMxN K pyMinN) := by
  subst hK
  intro pins s σ H xs zs us ws Q I q z h
  obtain ⟨a, ns, rfl, rfl, hs, k⟩ := h
  obtain ⟨its, rv, hl, _⟩ := I.list hs
  rw [Vals.ref1 q]
  have ew : ws = [Value.none] := by
    cases z with
    | cons z1 z2 => cases z2; cases (show _ = Value.none from z1); rfl
  subst ew
  refine PySem.W.min_list_datum_default (α := Int) (I.ok.hd hc) hl.isList (holds_ints rv) (by show X.A.units + 1 + 0 < cLine; omega) (fun e h2 tk hk => ?_) fun y ys i v h2 tk e hi hv hk => ?_
  · subst e
    exact ⟨.non, H, I.kept hk, rfl, k⟩
  · subst e
    obtain ⟨t, rfl⟩ := holds_int hv
    exact ⟨.int _, H, I.kept hk, ⟨t, rfl⟩, by rw [min_of]; exact k⟩
theorem ev_mxN {f : List Int → Option Int} {ns : List Int} (h : EvX (rLst rInt) te Γ Γ1 ns) : EvX (rOpt rInt) (tCKw (rMxN K f) (tCons te tNil) (tCons (tC .non) tNil)) Γ Γ1 (f ns) := fun A σ H B F Q q =>
  h A σ H B F _ fun v H1 B1 F1 s1 k1 => by
    obtain ⟨p, vs, rfl, hp, kv⟩ := ob_lst F1.bh k1
    refine ⟨p, ns, rfl, rfl, by rw [← Paired.mapEq (fun a b h => h) kv]; exact SqL.of hp, ?_⟩
    refine q _ H1 B1 F1 s1 ?_
    cases f ns with
    | none => rfl
    | some n => exact ⟨rfl, fun z => V.noConfusion z⟩
end
end G

set_option maxHeartbeats 4000000
/-! # G: comprehensions with two fors -/
namespace G
open PySem PySem.Spec PyProof.Rows L2
section
variable {α β γ δ : Type} {r : Rp α} {r1 : Rp δ} {rb : Rp β} {Γ Γ1 : List Sl} {xs : List α}
def compL2 (fi : α → Option (List δ)) (g : α → δ → Option (Option β)) : List α → Option (List β)
  | [] => some []
  | x :: xs => bindO (fi x) fun l => bindO (compL (g x) l) fun ys => bindO (compL2 fi g xs) fun zs => some (ys ++ zs)
def comp2 (fi : α → Option (List δ)) (g : α → δ → Option (Option β)) (xs : List α) : Option (List β) := bindO (compL2 fi g xs) fun ys => if ys.length ≤ 1000000 then some ys else none
theorem it_to {wi : TI} {l l2 : List α} (h : ItX r wi Γ Γ1 l) (e : l = l2) : ItX r wi Γ Γ1 l2 := by subst e; exact h
theorem dr_C {w : Rw β} {B : Hp} {v : V} {vs : List V} {a : α} {b : β} (h : r.rel B v a) (k : w.rel B vs b) : (wC r w).rel B (v :: vs) (a, b) := ⟨v, vs, rfl, h, k⟩
theorem rl_none {B : Hp} : (rOpt r).rel B .non none := rfl
theorem line_big {n : Nat} (h : n ≤ 1000000) : n ≤ sizeLine := Nat.le_trans h (by decide)
theorem ec_lc2 {wi wi1 : TI} {g g1 : TG} {tt tt1 : TT} {te : TE} {ws ws1 vs vs1 : List Nat} (fi : α → Option (List δ)) (f : α → δ → Option (Option β)) {Γf : α → List Sl} {Γg : α → δ → List Sl} {ys : List β}
    (hi : ItX r wi Γ Γ1 xs) (e : comp2 fi f xs = some ys) (hg : TgX g r ws (wipeG Γ1 vs) Γf) (hw : ∀ k, k ∈ ws → k ∈ vs) (hv : wipeG Γ1 vs = Γ1) (hm : ∀ x, wipeG (Γf x) vs = Γ1) (ht : ∀ x, EvT tt (Γf x) (Γf x) true)
    (hi1 : ∀ x l, fi x = some l → ItX r1 wi1 (Γf x) (Γf x) l) (hv1 : ∀ x, wipeG (Γf x) vs1 = Γf x) (hg1 : ∀ x, TgX g1 r1 ws1 (wipeG (Γf x) vs1) (Γg x)) (hw1 : ∀ k, k ∈ ws1 → k ∈ vs1) (hm1 : ∀ x y, wipeG (Γg x y) vs1 = Γf x)
    (hb : ∀ (x : α) (y : δ) (o : Option β), f x y = some o → EvT tt1 (Γg x y) (Γg x y) o.isSome ∧ (∀ z, o = some z → EvX rb te (Γg x y) (Γg x y) z)) : EvC (cLst rb) (tLc2 wi g tt wi1 g1 tt1 te vs vs1) Γ Γ1 ys := fun A σ H B F Q q => by
  obtain ⟨ys0, e0, e⟩ := bindO_some e
  split at e
  case isFalse => cases e
  rename_i hlim
  cases e
  refine hi A σ H B F _ fun J H1 B1 F1 sB1 Y => fun D hD => ?_
  have F2 := F1.and (Same.refl B1)
  have h0D : A.H0 D = none := F1.H0none hD
  have hmD : ¬ A.m D := fun m => F.mh D m h0D
  have F3 := F2.wipe vs
  rw [hv] at F3
  have F4 := F3.fresh (o := .lst []) hD (Nat.zero_le _)
  refine ⟨fun i m H => m = xs.length - i ∧ i ≤ xs.length ∧ ∃ B acc dn rest, Frm ((A.and B1).add D (.lst acc)) (L2.wipe σ vs) H B Γ1 ∧ Paired (rb.rel B) acc dn ∧ compL2 fi f (xs.drop i) = some rest ∧ dn ++ rest = ys, ?_, ?_⟩
  · exact ⟨_, rfl, Nat.zero_le _, B1, [], [], ys, F4, .nil, by rw [List.drop_zero]; exact e0, rfl⟩
  · rintro i m H2 ⟨rfl, hil, B3, acc, dn, rest, F5, pa, e2, ed⟩
    by_cases hlt : i < xs.length
    · right
      have hx : xs[i]? = some xs[i] := List.getElem?_eq_getElem hlt
      rw [List.drop_eq_getElem_cons hlt] at e2
      unfold compL2 at e2
      obtain ⟨l, el, e2⟩ := bindO_some e2
      obtain ⟨ys1, ey, e2⟩ := bindO_some e2
      obtain ⟨zs, ez, e2⟩ := bindO_some e2
      cases e2
      refine ⟨Y.go i H2 B3 F5.ph.2 F5.bh hlt, fun H3 => ∃ B acc dn rest, Frm ((A.and B1).add D (.lst acc)) (L2.wipe σ vs) H3 B Γ1 ∧ Paired (rb.rel B) acc dn ∧ compL2 fi f (xs.drop (i + 1)) = some rest ∧ dn ++ rest = ys, fun H3 h3 => ⟨_, by omega, rfl, by omega, h3⟩, fun v H3 hy => ?_⟩
      obtain ⟨B4, F6, sB4, k4⟩ := Y.yld i _ H2 B3 v H3 F5.ph.2 F5.bh hx hy _ _ _ F5
      rw [hv] at hg
      refine hg _ _ H3 B4 v xs[i] F6 k4 _ fun σ4 F7 hl4 d4 => ?_
      have hwp := wipe_wipe hl4 fun k hk => d4 k fun z => hk (hw k z)
      refine ⟨hwp, ?_⟩
      refine ht _ _ _ _ _ F7 _ fun H5 B5 F8 sB5 => ?_
      show wi1 _ _ _
      refine hi1 _ l el _ _ _ _ F8 _ fun J1 H6 B6 F9 sB6 Y1 => ?_
      have G1 : Frm (((A.and B1).add D (.lst acc)).and B6) σ4 H6 B6 (Γf xs[i]) := F9.and (Same.refl _)
      have G2 : Frm (((A.and B1).and B6).add D (.lst acc)) σ4 H6 B6 (Γf xs[i]) := G1
      have G3 := G2.wipe vs1
      rw [hv1] at G3
      refine ⟨fun j k H => k = l.length - j ∧ j ≤ l.length ∧ ∃ B acc dn rest, Frm (((A.and B1).and B6).add D (.lst acc)) (L2.wipe σ4 vs1) H B (Γf xs[i]) ∧ Paired (rb.rel B) acc dn ∧ compL (f xs[i]) (l.drop j) = some rest ∧ dn ++ (rest ++ zs) = ys, ?_, ?_⟩
      · exact ⟨_, rfl, Nat.zero_le _, B6, acc, dn, ys1, G3, Paired.monoR ((sB4.trans sB5).trans sB6) pa, by rw [List.drop_zero]; exact ey, ed⟩
      · rintro j k H7 ⟨rfl, hjl, B7, acc, dn, rest, G4, pa, e3, ed⟩
        by_cases hlj : j < l.length
        · right
          have hy : l[j]? = some l[j] := List.getElem?_eq_getElem hlj
          rw [List.drop_eq_getElem_cons hlj] at e3
          refine ⟨Y1.go j H7 B7 G4.ph.2 G4.bh hlj, fun H8 => ∃ B acc dn rest, Frm (((A.and B1).and B6).add D (.lst acc)) (L2.wipe σ4 vs1) H8 B (Γf xs[i]) ∧ Paired (rb.rel B) acc dn ∧ compL (f xs[i]) (l.drop (j + 1)) = some rest ∧ dn ++ (rest ++ zs) = ys, fun H8 h8 => ⟨_, by omega, rfl, by omega, h8⟩, fun v H8 hyy => ?_⟩
          obtain ⟨B8, G5, sB8, k8⟩ := Y1.yld j _ H7 B7 v H8 G4.ph.2 G4.bh hy hyy _ _ _ G4
          have hg1' := hg1 xs[i]
          rw [hv1] at hg1'
          refine hg1' _ _ H8 B8 v l[j] G5 k8 _ fun σ9 G6 hl9 d9 => ?_
          have hwp1 := wipe_wipe hl9 fun k hk => d9 k fun z => hk (hw1 k z)
          refine ⟨hwp1, ?_⟩
          unfold compL at e3
          cases q2 : f xs[i] l[j] with
          | none => rw [q2] at e3; cases e3
          | some o =>
            rw [q2] at e3
            obtain ⟨hT, hE⟩ := hb _ _ _ q2
            refine hT _ _ _ _ G6 _ fun H10 B10 G7 sB10 => ?_
            cases o with
            | none =>
              have G8 := G7.wipe vs1
              rw [hm1, hwp1] at G8
              exact ⟨B10, acc, dn, rest, G8, Paired.monoR (sB8.trans sB10) pa, e3, ed⟩
            | some y =>
              refine hE y rfl _ _ _ _ G7 _ fun u H11 B11 G8 sB11 k11 => ?_
              have hid := G8.hid (A := (A.and B1).and B6) h0D hmD
              dsimp only at e3
              cases q3 : compL (f xs[i]) (l.drop (j + 1)) with
              | none => rw [q3] at e3; cases e3
              | some r3 =>
                rw [q3] at e3
                cases e3
                have hlen0 : acc.length + 1 ≤ ys.length := by
                  rw [← ed, Paired.len pa, List.length_append, List.length_append, List.length_cons]; omega
                refine ⟨acc, hid, Nat.lt_of_lt_of_le (Nat.lt_of_succ_le hlen0) (line_big hlim), ?_⟩
                have G9 := G8.wipe vs1
                rw [hm1, hwp1] at G9
                have hlen : (acc ++ [u]).length ≤ sizeLine := by rw [List.length_append, List.length_singleton]; exact Nat.le_trans hlen0 (line_big hlim)
                have G10 := G9.hidset (A := (A.and B1).and B6) (o' := .lst (acc ++ [u])) h0D hmD F.sub hlen
                exact ⟨B11, acc ++ [u], dn ++ [y], r3, G10, Paired.app (Paired.monoR ((sB8.trans sB10).trans sB11) pa) (.cons k11 .nil), by first | exact q3 | rfl, by rw [← ed, List.append_assoc]; rfl⟩
        · left
          have hjl : j = l.length := by omega
          subst hjl
          refine ⟨Y1.stop H7 B7 G4.ph.2 G4.bh, ?_⟩
          rw [List.drop_length] at e3
          unfold compL at e3
          cases e3
          have G5 := G4.unwipe (hv1 _)
          have G6 : Frm (((A.and B1).add D (.lst acc)).and B6) σ4 H7 B7 (Γf xs[i]) := G5
          have G7 := G6.unand.wipe vs
          rw [hm, hwp] at G7
          exact ⟨B7, acc, dn, zs, G7, pa, ez, ed⟩
    · left
      have hil : i = xs.length := by omega
      subst hil
      refine ⟨Y.stop H2 B3 F5.ph.2 F5.bh, ?_⟩
      rw [List.drop_length] at e2
      unfold compL2 at e2
      cases e2
      have F6 := F5.unwipe hv
      have F7 : Frm ((A.add D (.lst acc)).and B1) σ H2 B3 _ := F6
      refine q D (.lst acc) H2 B3 F7.unand h0D (sB1.trans F5.ph.2) ⟨acc, rfl, ?_⟩
      rw [List.append_nil] at ed
      rw [← ed]; exact pa
end
end G

set_option maxHeartbeats 4000000
/-! # G: bool of an instance, the frame's own list handed to a def, classes called with keywords -/
namespace G
open PySem PySem.Spec PyProof.Rows L2
/-! ### bool(x) -/
section
variable {prog : Program} {w : World} {A : Around} {E : Value → Shared → Prop} {s : Shared} {K : PySem.W.Frag} {x C f : Addr} {ox : Obj} {odd : Option Obj}
theorem truth_own {Q : Bool → Shared → Prop} (X : K.In s.heap) (I : PySem.W.InstAt s.heap x ox C odd) (hs : PySem.W.findIn K (.ref C) "__bool__" = some (some (.ref f))) (hf : PySem.W.isFn K (.ref f) = true)
    (h : wpAny (model prog w) A (call (.ref f) [.ref x]) (PySem.W.BoolBack Q) E s) : wpAny (model prog w) A (truthy (.ref x)) Q E s := by
  unfold truthy
  refine wpAny_bind (m := callSpecial? (.ref x) (Str.ofString "__bool__")) (PySem.W.special_fn X I hs (beq_iff_eq.mp hf) (wpAny_mono h (fun r s' hr => ?_) fun _ _ y => y))
  cases r <;> first | exact hr.elim | skip
  exact wpAny_pure hr
theorem bool_own {Q : Bool → Shared → Prop} (X : K.In s.heap) (I : PySem.W.InstAt s.heap x ox C odd) (hs : PySem.W.findIn K (.ref C) "__bool__" = some (some (.ref f))) (hf : PySem.W.isFn K (.ref f) = true)
    (h : wpAny (model prog w) A.in1.in1 (call (.ref f) [.ref x]) (PySem.W.BoolBack Q) E s) : wpAny (model prog w) A (call (.type "bool") [.ref x]) (fun v s' => ∃ b, v = .bool b ∧ Q b s') E s := by
  refine callType_codes (T := "bool") (Bi := Builtin.«object.__init__») (Q₁ := fun r s₁ => ∃ b, r = Value.bool b ∧ Q b s₁) PySem.F.called_bool (PySem.F.typeCall_bool_1 _) PySem.F.entry_object_init ?_ ?_
  · refine codeAny_of_tree ?_
    show wpAny _ A.in1.in1 (do checkBuiltinCall "bool.__new__" ⟨[.type "bool", .ref x], []⟩; again (.builtin "bool.__new__" ⟨[.type "bool", .ref x], []⟩)) _ _ s
    refine wpAny_bind (wpAny_of_eq (PySem.F.newCall_bool_1 _) (wpAny_pure ⟨plainId_quiet (by decide +kernel) _, codeAny_builtin PySem.F.entry_bool_new ?_⟩))
    rw [Around.under_plainId (by decide +kernel) _]
    unfold Builtin.«bool.__new__»
    refine wpAny_bind (wpAny_of_eq (a := true) (by first | rfl | kernel_rfl | (unfold isType; rw [isSubtype_type]; kernel_rfl)) ?_)
    refine PySem.W.KFB.if_not rfl ?_
    refine wpAny_bind (wpAny_of_eq (a := true) PySem.F.conv_sub_bool ?_)
    refine PySem.W.KFB.if_not rfl ?_
    refine wpAny_bind (wpAny_of_eq (a := [.ref x]) rfl ?_)
    show wpAny _ _ (do let b ← truthy (.ref x); ret (.bool b)) _ _ s
    refine wpAny_bind (truth_own X I hs hf (wpAny_mono h (fun r s₁ hr => ?_) fun _ _ y => y))
    cases r <;> first | exact hr.elim | skip
    exact wpAny_pure ⟨_, rfl, hr⟩
  · rintro obj s₁ ⟨b, rfl, hq⟩
    exact ⟨rfl, PySem.F.args_object_init_2 _ _, object_init_meets PySem.F.called_bool.init.lookup PySem.F.called_bool.made (by decide) prog w A.in1 _ s₁ ⟨rfl, rfl, b, rfl, hq⟩⟩
end
section
variable {X : Cx} {CX : CXT} {C f : Addr} {fd : FuncData} {ps : List Str} {n : Nat} {sp : Sp} {E : XK} {K : PySem.W.Frag}
theorem run_fnA {A : Around} {pins : List (Addr × Obj)} {σ : L2.St} {H : Hp} {s : Shared} {Q : VK} {us : List Value} {vs : List V} (F : FnOk X.prog X.w X.K X.mg X.base CX n f fd ps sp) (hr : Room n A) (e0 : Env0 X.prog X.w X.K X.mg X.base A X.stack s H) (hb : Binds X.K fd ps []) (hx : Passes CX X E)
    (I : Inv X pins σ H s) (r : Vals vs us) (h : sp vs H Q E) : wpAny (model X.prog X.w) A (call (.ref f) us) (EP X pins σ Q) X.xe s := by
  have hl : us.length = ps.length := by rw [← r.length]; exact F.len _ _ _ _ h
  refine wpAny_call (codeAny_mono (F.run A X.stack s H ⟨us, []⟩ us vs Q E hr e0 (by have := hb s us I.kIn (by rw [List.append_nil]; exact hl); rw [List.append_nil] at this; exact this) r h) fun r s' hq => ?_)
  cases r with
  | error e => exact hx pins σ H s e s' I hq
  | ok fl =>
    cases fl with
    | ret u => exact I.after hq
    | next => exact False.elim hq
    | brk => exact False.elim hq
    | cont => exact False.elim hq
def rBoolO (C : Addr) (sp : Sp) (E : XK) : List V → Hp → VK → Prop := fun xs H Q => ∃ a dx fs, xs = [V.ref a] ∧ H a = some (.ins C dx fs) ∧ sp [.ref a] H (fun z H' => ∃ b, z = .bl b ∧ Q z H') E
theorem call_boolO (hm : Meth X.K C "__bool__" f) (F : FnOk X.prog X.w X.K X.mg X.base CX n f fd ps sp) (hr : Room (n + 2) X.A) (hb : Binds X.K fd ps []) (hx : Passes CX X E) : CallR X (.type "bool") (rBoolO C sp E) := by
  intro pins s σ H xs us Q I r h
  obtain ⟨a, dx, fs, rfl, ha, q⟩ := h
  rw [Vals.ref1 r]
  obtain ⟨mA, J, _⟩ := ins_get I.hok ha
  obtain ⟨od, J, _⟩ := J.look
  have hr2 : Room n X.A.in1.in1 := (show Room (n + 1) X.A.in1 from Room.in1 hr).in1
  refine wpAny_mono (bool_own (Q := fun b s' => EP X pins σ Q (.bool b) s') I.kIn J hm.at_ hm.fn (wpAny_mono (run_fnA (us := [.ref a]) (vs := [.ref a]) F hr2 I.env0.in1.in1 hb hx I (.cons rfl .nil) q) (fun w s' z => ?_) fun _ _ y => y)) (fun w s' z => ?_) fun _ _ y => y
  · obtain ⟨z', H', I', rz, b, rfl, qz⟩ := z
    cases (show w = Value.bool b from rz)
    exact ⟨.bl b, H', I', rfl, qz⟩
  · obtain ⟨b, rfl, z⟩ := z
    exact z
end
section
variable {α β γ : Type} {r ra : Rp α} {rb : Rp β} {te : TE} {ta tk : TA} {Γ Γ1 : List Sl} {K : PySem.W.Frag} {w : Rw α} {C : Addr} {names : List Str} {x : α} {E : XK}
theorem ev_boolO {m : α → Option Bool} {b : Bool} (h : EvX (rIns C names w) te Γ Γ1 x) (e : m x = some b) : EvX rBool (tCB (rBoolO C (SpP (w1 (rIns C names w)) rBool m) E) (tCons te tNil)) Γ Γ1 b := fun A σ H B F Q q => h A σ H B F _ fun v H1 B1 F1 s1 k1 => by
  obtain ⟨p, dx, vs, rfl, hp, l, kw⟩ := ob_ins F1.bh k1
  exact ⟨p, dx, _, rfl, hp, B1, x, b, F1.sz, F1.bh, ⟨_, rfl, k1⟩, e, fun H3 B3 v3 P k3 => ⟨b, k3, q _ H3 B3 (F1.after P) (s1.trans P.b0) k3⟩⟩
/-! ### the frame's own list, handed over -/
def ers (B : Hp) (p : Addr) : Hp := fun q => if q = p then none else B q
theorem ers_ne {B : Hp} {p q : Addr} (h : q ≠ p) : ers B p q = B q := if_neg h
theorem ers_self {B : Hp} {p : Addr} : ers B p p = none := if_pos rfl
/-- what stands for it never holds a list -/
class NoL {α : Type} (r : Rp α) : Prop where
  no : ∀ {B : Hp} {p : Addr} {vs : List V} {v : V} {a : α}, B p = some (.lst vs) → r.rel B v a → r.rel (ers B p) v a
class NoLW {α : Type} (w : Rw α) : Prop where
  no : ∀ {B : Hp} {p : Addr} {vs us : List V} {a : α}, B p = some (.lst vs) → w.rel B us a → w.rel (ers B p) us a
instance : NoL rInt := ⟨fun _ h => h⟩
instance : NoL rBool := ⟨fun _ h => h⟩
instance : NoL rStr := ⟨fun _ h => h⟩
instance : NoL rNon := ⟨fun _ h => h⟩
instance (r : Rp α) [NoL r] : NoL (rOpt r) := ⟨fun {B p vs v a} hp h => by
  cases a with
  | none => exact h
  | some a => exact ⟨NoL.no hp h.1, h.2⟩⟩
instance : NoLW w0 := ⟨fun _ h => h⟩
instance (r : Rp α) [NoL r] : NoLW (w1 r) := ⟨fun hp ⟨v, e, h⟩ => ⟨v, e, NoL.no hp h⟩⟩
instance (r : Rp α) (w : Rw β) [NoL r] [NoLW w] : NoLW (wC r w) := ⟨fun hp ⟨v, t, e, h, k⟩ => ⟨v, t, e, NoL.no hp h, NoLW.no hp k⟩⟩
theorem paired_no {r : Rp α} [NoL r] {B : Hp} {p : Addr} {vs : List V} (hp : B p = some (.lst vs)) : ∀ {us : List V} {xs : List α}, Paired (r.rel B) us xs → Paired (r.rel (ers B p)) us xs
  | _, _, .nil => .nil
  | _, _, .cons h t => .cons (NoL.no hp h) (paired_no hp t)
instance (r : Rp α) [NoL r] : NoL (rOb (cTpl r)) := ⟨fun {B p vs v a} hp ⟨q, o, e, hq, us, eo, k⟩ => ⟨q, o, e, by
  rw [ers_ne fun z => by rw [z, hp] at hq; cases hq; cases eo]; exact hq, us, eo, paired_no hp k⟩⟩
instance (w : Rw α) [NoLW w] : NoL (rOb (cTup w)) := ⟨fun {B p vs v a} hp ⟨q, o, e, hq, us, eo, k⟩ => ⟨q, o, e, by
  rw [ers_ne fun z => by rw [z, hp] at hq; cases hq; cases eo]; exact hq, us, eo, NoLW.no hp k⟩⟩
instance (C : Addr) (names : List Str) (w : Rw α) [NoLW w] : NoL (rOb (cIns C names w)) := ⟨fun {B p vs v a} hp ⟨q, o, e, hq, dx, us, eo, l, k⟩ => ⟨q, o, e, by
  rw [ers_ne fun z => by rw [z, hp] at hq; cases hq; cases eo]; exact hq, dx, us, eo, l, NoLW.no hp k⟩⟩
instance (C : Addr) (names : List Str) (w : Rw α) [NoLW w] : NoL (rIns C names w) := inferInstanceAs (NoL (rOb (cIns C names w)))
instance (r : Rp α) [NoL r] : NoL (rTpl r) := inferInstanceAs (NoL (rOb (cTpl r)))
instance (w : Rw α) [NoLW w] : NoL (rTup w) := inferInstanceAs (NoL (rOb (cTup w)))
theorem paired_dic {κ : Type} [DecidableEq κ] {rk : Rp κ} {ky : Ky rk} {rv : Rp β} [NoL rv] {B : Hp} {p : Addr} {vs : List V} (hp : B p = some (.lst vs)) : ∀ {us : List (L2.Key × V)} {xs : List (κ × β)}, Paired (DRel ky rv B) us xs → Paired (DRel ky rv (ers B p)) us xs
  | _, _, .nil => .nil
  | _, _, .cons h t => .cons ⟨h.1, NoL.no hp h.2⟩ (paired_dic hp t)
instance {κ : Type} [DecidableEq κ] {rk : Rp κ} (ky : Ky rk) (rv : Rp β) [NoL rv] : NoL (rOb (cDic ky rv)) := ⟨fun {B p vs v a} hp ⟨q, o, e, hq, us, eo, k⟩ => ⟨q, o, e, by
  rw [ers_ne fun z => by rw [z, hp] at hq; cases hq; cases eo]; exact hq, us, eo, paired_dic hp k⟩⟩
/-- the slots as the callee's frame may know them: one own list at a value, no other own object -/
def frz (Γ : List Sl) (i : Nat) (s : Sl) : List Sl := (Γ.map fun x => match x with
  | .imm r a => .imm r a
  | _ => .no).set i s
theorem frz_get {Γ : List Sl} {i j : Nat} {s t : Sl} (h : (frz Γ i s)[j]? = some t) : (i = j ∧ t = s) ∨ (i ≠ j ∧ ∃ u, Γ[j]? = some u ∧ (t = u ∨ t = .no) ∧ plain t) := by
  unfold frz at h
  rcases getset h with ⟨e, e2, _⟩ | ⟨ne, e⟩
  · exact .inl ⟨e, e2⟩
  · right
    refine ⟨ne, ?_⟩
    rw [List.getElem?_map] at e
    cases q : Γ[j]? with
    | none => rw [q] at e; cases e
    | some u =>
      rw [q] at e
      refine ⟨u, rfl, ?_⟩
      cases u with
      | no => cases e; exact ⟨.inr rfl, trivial⟩
      | imm r a => cases e; exact ⟨.inl rfl, trivial⟩
      | cel p c a => cases e; exact ⟨.inr rfl, trivial⟩
      | tre v c a => cases e; exact ⟨.inr rfl, trivial⟩
theorem frz_in {A : Amb} {σ : L2.St} {H B : Hp} {i : Nat} {p : Addr} {xs : List α} (F : Frm A σ H B Γ) (hi : Γ[i]? = some (.cel p (cLst r) xs)) : ∃ vs, B p = none ∧ H p = some (.lst vs) ∧
    Frm ⟨upd B p (.lst vs), H, fun _ => False, fun _ => True, fun _ _ _ _ => trivial⟩ σ H (upd B p (.lst vs)) (frz Γ i (.imm (rLst r) xs)) := by
  obtain ⟨ev, hBp, hm, o, ho, vs, rfl, kv⟩ := F.sl i _ hi
  have hB : Same B (upd B p (.lst vs)) := fun b u e => by rw [upd_ne (ne_of_none e hBp)]; exact e
  refine ⟨vs, hBp, ho, ?_⟩
  have hs : Same (upd B p (.lst vs)) H := fun b u e => by
    by_cases hb : b = p
    · subst hb; rw [upd_same] at e; cases e; exact ho
    · rw [upd_ne hb] at e; exact F.bh b u e
  refine ⟨⟨hs, Same.refl _, fun _ _ _ e => e, fun _ _ e => e, fun _ e => e, hs, fun _ z => z.elim, trivial, F.sz⟩, by unfold frz; rw [List.length_set, List.length_map]; exact F.len, fun _ _ => False, fun j s e => ?_, fun _ _ _ z => z.elim, fun _ _ z => z.elim⟩
  · rcases frz_get e with ⟨rfl, rfl⟩ | ⟨ne, u, hu, ht, hc⟩
    · exact ⟨_, ev, p, _, rfl, upd_same, vs, rfl, Paired.monoR hB kv⟩
    · rcases ht with rfl | rfl
      · have hs := F.sl j _ hu
        cases s with
        | no => trivial
        | imm r a => obtain ⟨v, e1, e2⟩ := hs; exact ⟨v, e1, r.mono hB e2⟩
        | cel q c a => cases hc
        | tre q c a => cases hc
      · trivial
theorem frz_out {A : Amb} {σ : L2.St} {H B H2 B2 : Hp} {p : Addr} {vs : List V} {Γ' : List Sl} {φ : Hp → Prop} {up : ∀ B B', Same B B' → φ B → φ B'} (F : Frm A σ H B Γ) (hBp : B p = none) (F2 : Frm ⟨upd B p (.lst vs), H, fun _ => False, φ, up⟩ σ H2 B2 Γ') (s2 : Same (upd B p (.lst vs)) B2) :
    B2 p = some (.lst vs) ∧ Same B (ers B2 p) ∧ Frm A σ H2 (ers B2 p) Γ := by
  have hB : Same B (upd B p (.lst vs)) := fun b u e => by rw [upd_ne (ne_of_none e hBp)]; exact e
  have hp2 : B2 p = some (.lst vs) := s2 _ _ upd_same
  have kp : ∀ b u, H b = some u → H2 b = some u := fun b u e => F2.keep b u (fun z => z) e
  have s3 : Same B (ers B2 p) := fun b u e => by rw [ers_ne (ne_of_none e hBp)]; exact s2 _ _ (hB _ _ e)
  have out : ∀ b, B b = none → H b ≠ none → ers B2 p b = none := fun b e n => by
    by_cases hb : b = p
    · rw [hb]; exact ers_self
    · rw [ers_ne hb]; exact F2.out b n (by show upd B p (.lst vs) b = none; rw [upd_ne hb]; exact e)
  refine ⟨hp2, s3, F.move ⟨fun b u e => ?_, fun b u e => s3 _ _ (F.b0 b u e), fun b u m e => kp b u (F.keep b u m e), fun b n z => out b (F.out b n z) (F.alive b n), fun b n => ?_, F.sub, F.mh, A.up _ _ s3 F.ph, F2.sz⟩ s3 fun q h => ⟨out q h.1 h.2.1, h.2.2, kp q⟩⟩
  · by_cases hb : b = p
    · rw [hb, ers_self] at e; cases e
    · rw [ers_ne hb] at e; exact F2.bh b u e
  · cases e : H b with
    | none => exact absurd e (F.alive b n)
    | some u => rw [kp b u e]; exact fun z => nomatch z
theorem ev_frz {i : Nat} {p : Addr} {xs : List α} {b : β} [NoL rb] (hi : Γ[i]? = some (.cel p (cLst r) xs)) (h : EvX rb te (frz Γ i (.imm (rLst r) xs)) (frz Γ i (.imm (rLst r) xs)) b) : EvX rb te Γ Γ b := fun A σ H B F Q q => by
  obtain ⟨vs, hBp, _, F'⟩ := frz_in F hi
  refine h _ σ H _ F' _ fun v H2 B2 F2 s2 k2 => ?_
  obtain ⟨h1, h2, h3⟩ := frz_out F hBp F2 s2
  exact q v H2 _ h3 h2 (NoL.no h1 k2)
theorem et_frz {tt : TT} {i : Nat} {p : Addr} {xs : List α} {b : Bool} (hi : Γ[i]? = some (.cel p (cLst r) xs)) (h : EvT tt (frz Γ i (.imm (rLst r) xs)) (frz Γ i (.imm (rLst r) xs)) b) : EvT tt Γ Γ b := fun A σ H B F Q q => by
  obtain ⟨vs, hBp, _, F'⟩ := frz_in F hi
  refine h _ σ H _ F' _ fun H2 B2 F2 s2 => ?_
  obtain ⟨h1, h2, h3⟩ := frz_out F hBp F2 s2
  exact q H2 _ h3 h2
theorem ev_bool1 {b : Bool} (h : EvX rBool te Γ Γ1 b) : EvX rBool (tCB (fun xs H Q => (∃ i, xs = [.int i] ∧ Q (.bl (i != 0)) H) ∨ ∃ k, xs = [.bl k] ∧ Q (.bl k) H) (tCons te tNil)) Γ Γ1 b := ev_B1 h fun H B u _ s k Q q => .inr ⟨b, by rw [show u = _ from k], q _ rfl⟩
/-- isinstance of a number that may be missing -/
theorem ev_isiO {t v : Value} {c : V} {k : Bool} {o : Option α} (h : EvX (rOpt r) te Γ Γ1 o) (ty : TyR K r t) (hc : ClsV c v) (kit : PySem.W.kitOne K t v = some k) (kn : PySem.W.kitOne K (.type "NoneType") v = some false) : EvX rBool (tCB (rIsi K) (tCons te (tCons (tC c) tNil))) Γ Γ1 (o.isSome && k) := fun A σ H B F Q q =>
  h A σ H B F _ fun x H1 B1 F1 s1 k1 => by
    cases o with
    | none => exact ⟨x, c, _, v, false, rfl, hc, ty_non _ _ () (show x = V.non from k1), kn, q _ _ _ F1 s1 rfl⟩
    | some a => exact ⟨x, c, t, v, k, rfl, hc, ty _ _ _ (r.mono F1.bh k1.1), kit, q _ _ _ F1 s1 rfl⟩
/-! ### classes called with keywords alone -/
def gP (idx : List Nat) {α : Type} (us _ds ws : List α) : List α := us ++ idx.filterMap fun i => ws[i]?
theorem vals_get {vs : List V} {us : List Value} (h : Vals vs us) (i : Nat) : (∃ v u, vs[i]? = some v ∧ us[i]? = some u ∧ RelV v u) ∨ (vs[i]? = none ∧ us[i]? = none) := by
  induction h generalizing i with
  | nil => right; simp
  | cons hd tl ih =>
    cases i with
    | zero => left; exact ⟨_, _, rfl, rfl, hd⟩
    | succ i => simpa using ih i
theorem gP_rel (idx : List Nat) {vs ds zs : List V} {us its ws : List Value} (h : Vals vs us) (_ : Vals ds its) (k : Vals zs ws) : Vals (gP idx vs ds zs) (gP idx us its ws) := by
  unfold gP
  refine Paired.app h ?_
  induction idx with
  | nil => exact .nil
  | cons i l ih =>
    rcases vals_get k i with ⟨v, u, e1, e2, q⟩ | ⟨e1, e2⟩
    · rw [List.filterMap_cons_some e1, List.filterMap_cons_some e2]; exact .cons q ih
    · rw [List.filterMap_cons_none e1, List.filterMap_cons_none e2]; exact ih
def KApp (n : Nat) (idx : List Nat) {γ : Type} (wk : Rw α) (w : Rw γ) (f : α → γ) : Prop := ∀ B zs a, wk.rel B zs a → zs.length = n ∧ w.rel B (idx.filterMap fun i => zs[i]?) (f a)
theorem ev_makeK {n : Nat} {idx : List Nat} {wk : Rw α} {w : Rw γ} {wb : Rw β} {dvs : List V} {f : α → γ} {m : γ → Option β} {a : α} {b : β} (h : EvW wk tk Γ Γ1 a) (d : KApp n idx wk w f) (e : m (f a) = some b) : EvX (rIns C names wb) (tMakeK C 0 n (SpJ C w (cIns C names wb) m) (fun vs zs => gP idx vs dvs zs) E tNil tk) Γ Γ1 b := fun A σ H B F Q q => by
  refine h A σ H B F _ fun vs H1 B1 F1 s1 k1 => ?_
  obtain ⟨d1, d2⟩ := d B1 vs a k1
  refine ⟨rfl, d1, fun y dy hy hd ne => ?_⟩
  obtain ⟨p1, p2, p3, p4⟩ := made_pre (C := C) F1 hy hd ne
  refine ⟨y, dy, idx.filterMap fun i => vs[i]?, upd B1 dy (.own y), f a, b, rfl, upd_same, p3, p1, p2, w.mono p4 d2, e, fun H2 B2 P ⟨o, ho, k⟩ => ⟨rfl, ?_⟩⟩
  have F2 := made_frame (A := A) F1 hy hd ne P ho
  have F3 := F2.adopt (F1.H0none hy) F1.sub F1.mh
  have hB2 : B2 y = none := P.out y (by show upd (upd H1 dy (.own y)) y (.ins C dy []) y ≠ none; rw [upd_same]; simp) p3
  have s3 : Same B2 (upd B2 y o) := fun q u e => by rw [upd_ne (ne_of_none e hB2)]; exact e
  exact q _ _ _ F3 (s1.trans (p4.trans (P.b0.trans s3))) ⟨y, o, rfl, upd_same, (cIns C names wb).mono s3 k⟩
end
end G

set_option maxHeartbeats 4000000
/-! # G: texts of numbers and of instances, f-strings, stars in displays -/
namespace G
open PySem PySem.Spec PyProof.Rows L2
section
variable {X : Cx} {CX : CXT} {C f : Addr} {fd : FuncData} {ps : List Str} {n : Nat} {sp : Sp} {E : XK} {K : PySem.W.Frag}
def rStrO (C : Addr) (sp : Sp) (E : XK) : List V → Hp → VK → Prop := fun xs H Q => ∃ a dx fs, xs = [V.ref a] ∧ H a = some (.ins C dx fs) ∧ sp [.ref a] H (fun z H' => ∃ b, z = .str b ∧ Q z H') E
theorem call_strO (hm : Meth X.K C "__str__" f) (F : FnOk X.prog X.w X.K X.mg X.base CX n f fd ps sp) (hr : Room (n + 2) X.A) (hb : Binds X.K fd ps []) (hx : Passes CX X E) : CallR X (.type "str") (rStrO C sp E) := by
  intro pins s σ H xs us Q I r h
  obtain ⟨a, dx, fs, rfl, ha, q⟩ := h
  rw [Vals.ref1 r]
  obtain ⟨mA, J, _⟩ := ins_get I.hok ha
  obtain ⟨od, J, _⟩ := J.look
  have hr2 : Room n X.A.in1.in1 := (show Room (n + 1) X.A.in1 from Room.in1 hr).in1
  refine PySem.W.kso_call hr2.units0 I.kIn J hm.at_ hm.fn (wpAny_mono (run_fnA (us := [.ref a]) (vs := [.ref a]) F hr2 I.env0.in1.in1 hb hx I (.cons rfl .nil) q) (fun w s' z => ?_) fun _ _ y => y)
  obtain ⟨z', H', I', rz, b, rfl, qz⟩ := z
  obtain ⟨t, rfl⟩ := (show ∃ t, w = Value.str b t from rz)
  exact ⟨.str b, H', I', ⟨t, rfl⟩, qz⟩
end
section
variable {α β γ : Type} {r ra : Rp α} {rb : Rp β} {te : TE} {ta tr : TA} {Γ Γ1 Γ2 : List Sl} {K : PySem.W.Frag} {w : Rw α} {C : Addr} {names : List Str} {x : α} {E : XK}
theorem ev_strO {m : α → Option Str} {b : Str} (h : EvX (rIns C names w) te Γ Γ1 x) (e : m x = some b) : EvX rStr (tCB (rStrO C (SpP (w1 (rIns C names w)) rStr m) E) (tCons te tNil)) Γ Γ1 b := fun A σ H B F Q q => h A σ H B F _ fun v H1 B1 F1 s1 k1 => by
  obtain ⟨p, dx, vs, rfl, hp, l, kw⟩ := ob_ins F1.bh k1
  exact ⟨p, dx, _, rfl, hp, B1, x, b, F1.sz, F1.bh, ⟨_, rfl, k1⟩, e, fun H3 B3 v3 P k3 => ⟨b, k3, q _ H3 B3 (F1.after P) (s1.trans P.b0) k3⟩⟩
def pyStrI (i : Int) : Option Str := if i.natAbs.log2 < 1920 then some (toString i : String) else none
theorem ev_strI {i : Int} {z : Str} (h : EvX rInt te Γ Γ1 i) (e : pyStrI i = some z) : EvX rStr (tCB (fun xs H Q => ∃ i, xs = [.int i] ∧ i.natAbs.log2 < 1920 ∧ Q (.str (toString i)) H) (tCons te tNil)) Γ Γ1 z := by
  unfold pyStrI at e; split at e <;> cases e
  exact ev_B1 h fun H B u _ s k Q q => ⟨i, by rw [show u = _ from k], by assumption, q _ rfl⟩
def pyFmt (z : Str) : Option Str := if z.length ≤ 1000000 then some z else none
theorem ev_fmt {z y : Str} (h : EvX rStr te Γ Γ1 z) (e : pyFmt z = some y) : EvX rStr (tFmt te) Γ Γ1 y := by
  unfold pyFmt at e; split at e <;> cases e
  exact fun A σ H B F Q q => h A σ H B F _ fun v H1 B1 F1 s1 k1 => .inl ⟨z, k1, line_big (by assumption), q _ H1 B1 F1 s1 rfl⟩
theorem eh_S {xs ys : List α} (h : EvX (rLst r) te Γ Γ1 xs) (hr : EvH r tr Γ1 Γ2 ys) : EvH r (StX.tStar K te tr) Γ Γ2 (xs ++ ys) := fun A σ H B F Q q =>
  h A σ H B F _ fun v H1 B1 F1 s1 k1 => by
    obtain ⟨p, vs, rfl, hp, kv⟩ := ob_lst F1.bh k1
    exact ⟨p, vs, rfl, .inr (SqL.of hp), hr A σ H1 B1 F1 _ fun us H2 B2 F2 s2 k2 => q _ H2 B2 F2 (s1.trans s2) (Paired.app (Paired.monoR s2 kv) k2)⟩
def lim4 (xs : List α) : Option (List α) := if xs.length ≤ 1000 then some xs else none
theorem ec_lstS {xs ys : List α} (h : EvH r ta Γ Γ1 xs) (e : lim4 xs = some ys) : EvC (cLst r) (tLst ta) Γ Γ1 ys := by
  unfold lim4 at e; split at e <;> cases e
  exact ec_lst h (by assumption)
end
end G

set_option maxHeartbeats 4000000
/-! # G: lists turned round, parts of the script, sorted numbers, max, min, own lists returned -/
namespace G
open PySem PySem.Spec PyProof.Rows L2
section
variable {α β γ : Type} {r ra : Rp α} {rb : Rp β} {c : Cl α} {cc : Cl γ} {te : TE} {ta : TA} {Γ Γ1 Γ2 Γ3 : List Sl} {K : PySem.W.Frag} {xs : List α} {i j : Nat} {p p0 : Addr} {A : Amb} {D : Ends} {u : TS} {a : α} {b : α} {st : γ}
theorem paired_rev {R : V → α → Prop} : ∀ {vs : List V} {xs : List α}, Paired R vs xs → Paired R vs.reverse xs.reverse
  | _, _, .nil => .nil
  | _, _, .cons h t => by rw [List.reverse_cons, List.reverse_cons]; exact Paired.app (paired_rev t) (.cons h .nil)
theorem ec_revL (h : EvX (rLst r) te Γ Γ1 xs) : EvC (cLst r) (tRevL K te) Γ Γ1 xs.reverse := fun A σ H B F Q q => h A σ H B F _ fun v H1 B1 F1 s1 k1 => by
  obtain ⟨p, vs, rfl, hp, kv⟩ := ob_lst F1.bh k1
  exact ⟨p, vs, rfl, SqL.of hp, fun l hl => ec_fresh (c := cLst r) (o := .lst vs.reverse) F1 hl (by show vs.reverse.length ≤ _; rw [List.length_reverse]; exact F1.sz _ _ hp) (fun p o H2 B2 F2 n2 s4 k2 => q p o H2 B2 F2 n2 (s1.trans s4) k2) ⟨_, rfl, paired_rev kv⟩⟩
def pyCutC (ns : List Int) (lo hi : Option Int) : Option (List Int) := if ns.length ≤ 100000 then some (cut ns lo hi) else none
theorem ec_slC {lo hi : Option Int} {tl th : TO} {ns l : List Int} (h : EvX (rScr K) te Γ Γ1 ns) (hl : EvO tl Γ1 Γ2 lo) (hh : EvO th Γ2 Γ3 hi) (e : pyCutC ns lo hi = some l) : EvC (cLst rInt) (L2.tSl (rSlL K) te tl th) Γ Γ3 l := by
  unfold pyCutC at e; split at e <;> cases e
  rename_i hn
  exact fun A σ H B F Q q => h A σ H B F _ fun v H1 B1 F1 s1 k1 => hl A σ H1 B1 F1 _ fun H2 B2 F2 s2 => hh A σ H2 B2 F2 _ fun H3 B3 F3 s3 => by
    obtain ⟨a, rfl, ha⟩ := k1
    have hq := Same.seq F3.bh (Same.seq (s2.trans s3) ha)
    refine ⟨a, _, rfl, hq, fun l hl => ec_fresh (c := cLst rInt) (o := .lst (cutV (ns.map V.int) lo hi)) F3 hl ?_ (fun p o H2 B2 F2 n2 s4 k2 => q p o H2 B2 F2 n2 (((s1.trans s2).trans s3).trans s4) k2) ⟨_, rfl, paired_cut (paired_ints ns B3)⟩⟩
    refine Nat.le_trans (cut_len lo hi _) ?_
    rw [List.length_map]
    exact Nat.le_trans hn (by decide)
def isortI (xs : List Int) : List Int := xs.mergeSort (fun a b => decide (a ≤ b))
theorem isortI_perm (xs : List Int) : (isortI xs).Perm xs := List.mergeSort_perm _ _
theorem isortI_asc (xs : List Int) : (isortI xs).Pairwise (· ≤ ·) := by
  have h := List.pairwise_mergeSort (le := fun a b : Int => decide (a ≤ b)) (fun a b c h1 h2 => by simp at *; omega) (fun a b => by simp; omega) xs
  exact h.imp fun q => by simpa using q
theorem isort_eq {xs ys : List Int} (h1 : ys.Perm xs) (h2 : ys.Pairwise (· ≤ ·)) : ys = isortI xs :=
  List.Perm.eq_of_pairwise (fun a b _ _ h1 h2 => by omega) h2 (isortI_asc xs) (h1.trans (isortI_perm xs).symm)
theorem ec_sortI {xs : List Int} (h : EvX (rLst rInt) te Γ Γ1 xs) : EvC (cLst rInt) (tCB (rSortedI K) (tCons te tNil)) Γ Γ1 (isortI xs) := ec_B1 h fun H B u z s k Q q => by
  obtain ⟨p, vs, rfl, hp, kv⟩ := ob_lst s k
  have ev : vs = xs.map V.int := Paired.mapEq (fun a b h => h) kv
  refine ⟨p, xs, rfl, by rw [← ev]; exact SqL.of hp, fun ns l h1 h2 hl => ?_⟩
  rw [isort_eq h1 h2]
  refine q l _ hl ?_ ⟨_, rfl, paired_ints _ B⟩
  show ((isortI xs).map V.int).length ≤ _
  rw [List.length_map, (isortI_perm xs).length_eq, ← Paired.len kv]
  exact z p _ hp
theorem foldl_max_mem : ∀ (t : List Int) (n : Int), t.foldl max n ∈ n :: t ∧ ∀ y ∈ n :: t, y ≤ t.foldl max n
  | [], n => ⟨by simp, fun y hy => by rw [List.mem_singleton.mp hy]; exact Int.le_refl _⟩
  | x :: xs, n => by
    obtain ⟨h1, h2⟩ := foldl_max_mem xs (max n x)
    rw [List.foldl_cons]
    have hm := h2 (max n x) List.mem_cons_self
    refine ⟨?_, fun y hy => ?_⟩
    · rcases List.mem_cons.mp h1 with h | h
      · rw [h]
        by_cases c : n ≤ x
        · rw [show max n x = x by omega]; simp
        · rw [show max n x = n by omega]; simp
      · exact List.mem_cons_of_mem _ (List.mem_cons_of_mem _ h)
    · rcases List.mem_cons.mp hy with rfl | hy
      · omega
      · rcases List.mem_cons.mp hy with rfl | hy
        · omega
        · exact h2 y (List.mem_cons_of_mem _ hy)
theorem foldl_min_mem : ∀ (t : List Int) (n : Int), t.foldl min n ∈ n :: t ∧ ∀ y ∈ n :: t, t.foldl min n ≤ y
  | [], n => ⟨by simp, fun y hy => by rw [List.mem_singleton.mp hy]; exact Int.le_refl _⟩
  | x :: xs, n => by
    obtain ⟨h1, h2⟩ := foldl_min_mem xs (min n x)
    rw [List.foldl_cons]
    have hm := h2 (min n x) List.mem_cons_self
    refine ⟨?_, fun y hy => ?_⟩
    · rcases List.mem_cons.mp h1 with h | h
      · rw [h]
        by_cases c : n ≤ x
        · rw [show min n x = n by omega]; simp
        · rw [show min n x = x by omega]; simp
      · exact List.mem_cons_of_mem _ (List.mem_cons_of_mem _ h)
    · rcases List.mem_cons.mp hy with rfl | hy
      · omega
      · rcases List.mem_cons.mp hy with rfl | hy
        · omega
        · exact h2 y (List.mem_cons_of_mem _ hy)
theorem ev_max1 {xs : List Int} {m : Int} (h : EvX (rLst rInt) te Γ Γ1 xs) (e : pyMaxN xs = some m) : EvX rInt (tCB (rMax K) (tCons te tNil)) Γ Γ1 m := ev_B1 h fun H B u _ s k Q q => by
  obtain ⟨p, vs, rfl, hp, kv⟩ := ob_lst s k
  have ev : vs = xs.map V.int := Paired.mapEq (fun a b h => h) kv
  cases xs with
  | nil => cases e
  | cons n t =>
    cases e
    obtain ⟨h1, h2⟩ := foldl_max_mem t n
    refine ⟨p, n :: t, rfl, by rw [← ev]; exact SqL.of hp, by simp, fun m hm hy => ?_⟩
    have := hy _ h1
    have := h2 _ hm
    exact q _ (by rw [show m = t.foldl max n by omega]; rfl)
theorem ev_min1 {xs : List Int} {m : Int} (h : EvX (rLst rInt) te Γ Γ1 xs) (e : pyMinN xs = some m) : EvX rInt (tCB (rMin K) (tCons te tNil)) Γ Γ1 m := ev_B1 h fun H B u _ s k Q q => by
  obtain ⟨p, vs, rfl, hp, kv⟩ := ob_lst s k
  have ev : vs = xs.map V.int := Paired.mapEq (fun a b h => h) kv
  cases xs with
  | nil => cases e
  | cons n t =>
    cases e
    obtain ⟨h1, h2⟩ := foldl_min_mem t n
    refine ⟨p, n :: t, rfl, by rw [← ev]; exact SqL.of hp, by simp, fun m hm hy => ?_⟩
    have := hy _ h1
    have := h2 _ hm
    exact q _ (by rw [show m = t.foldl min n by omega]; rfl)
theorem pe_revLK {X : Cx} {e : Expr} {te : TE} {k : Nat} {p1 p2 p3 pos : Pos} (hK : X.K = K) (he : PE X e te) : PE X (.Subscript e (.Slice none none (some (.UnaryOp .USub (.Constant (.int 1) k p1) p2)) p3) pos) (tRevL K te) := by subst hK; exact pe_revL he
theorem sortIK {X : Cx} (hK : X.K = K) : CallR X (.builtin "sorted") (rSortedI K) := by subst hK; exact cr_sortedI
theorem maxK {X : Cx} (hK : X.K = K) (hc : X.calm = true) : CallR X (.builtin "max") (rMax K) := by subst hK; exact cr_max hc
theorem minK {X : Cx} (hK : X.K = K) (hc : X.calm = true) : CallR X (.builtin "min") (rMin K) := by subst hK; exact cr_min hc
/-! ### the frame's own object is returned -/
theorem post_own {σ : L2.St} {H B : Hp} (F : Frm A σ H B Γ) (hi : Γ[i]? = some (.cel p c a)) (hm : ¬ A.m p) : ∃ o, H p = some o ∧ σ[i]? = some (some (V.ref p)) ∧ Same B (upd B p o) ∧ Post A H (upd B p o) ∧ (rOb c).rel (upd B p o) (.ref p) a := by
  obtain ⟨e1, n, m, o, ho, k⟩ := F.sl i _ hi
  have h0 : A.H0 p = none := m.resolve_right hm
  have s : Same B (upd B p o) := fun b u e => by rw [upd_ne (ne_of_none e n)]; exact e
  refine ⟨o, ho, e1, s, ⟨fun b u e => ?_, fun b u e => s _ _ (F.b0 b u e), F.keep, fun b hb z => ?_, F.alive, F.sub, F.mh, A.up _ _ s F.ph, F.sz⟩, p, o, rfl, upd_same, c.mono s k⟩
  · by_cases hb : b = p
    · subst hb; rw [upd_same] at e; cases e; exact ho
    · rw [upd_ne hb] at e; exact F.bh b u e
  · have hbp : b ≠ p := fun q => hb (by rw [q]; exact h0)
    rw [upd_ne hbp]; exact F.out b hb z
theorem sq_retCel (hi : Γ[i]? = some (.cel p c a)) (hm : ∀ q, ¬ A.m q) (e : some a = some b) (k : Rt A (psi (rOb c)) b D.rt) : Nx A (tSeq (tRet (tVar i)) u D) Γ := fun σ H B F => by
  cases e
  obtain ⟨o, ho, e1, s, P, q⟩ := post_own F hi (hm p)
  exact ⟨_, e1, k H _ _ P q⟩
theorem sq_retCelS {st : γ} {b : α × γ} (hi : Γ[i]? = some (.cel p c a)) (hj : Γ[j]? = some (.cel p0 cc st)) (ne : i ≠ j) (hm : ∀ q, A.m q → q = p0) (e : some (a, st) = some b) (k : Rt A (psiS p0 cc (rOb c)) b D.rt) : Nx A (tSeq (tRet (tVar i)) u D) Γ := fun σ H B F => by
  cases e
  have hp : ¬ A.m p := fun z => ne (F.ds i j p (by rw [hi]; rfl) (by rw [hj, ← hm p z]; rfl))
  obtain ⟨o, ho, e1, s, P, q⟩ := post_own F hi hp
  obtain ⟨_, _, _, o2, h2, k2⟩ := F.sl j _ hj
  exact ⟨_, e1, k H _ _ P ⟨q, o2, h2, cc.mono s k2⟩⟩
end
end G

set_option maxHeartbeats 4000000
/-! # G: sorted(set(xs)), xs of any number, of which fewer than 64 are different -/
namespace G
open PySem PySem.Spec PyProof.Rows L2
theorem nodup_len : ∀ {a b : List Int}, a.Nodup → (∀ z ∈ a, z ∈ b) → a.length ≤ b.length
  | [], _, _, _ => Nat.zero_le _
  | x :: xs, b, hn, h => by
    have hn' := List.nodup_cons.mp hn
    have hx := h x List.mem_cons_self
    have ih := nodup_len (a := xs) (b := b.erase x) hn'.2 fun z hz => (List.mem_erase_of_ne fun e => hn'.1 (by rw [← e]; exact hz)).mpr (h z (List.mem_cons_of_mem _ hz))
    rw [List.length_erase_of_mem hx] at ih
    have := List.length_pos_of_mem hx
    rw [List.length_cons]; omega
theorem asc_nodup {a : List Int} (h : a.Pairwise (· < ·)) : a.Nodup := h.imp fun h e => by omega
theorem sset_count {xs ks : List Int} (hn : ks.Nodup) (h : ∀ k, k ∈ ks ↔ k ∈ xs) : ks.length = (sset xs).length :=
  Nat.le_antisymm (nodup_len hn fun z hz => sset_mem.mpr ((h z).mp hz)) (nodup_len (asc_nodup (sset_asc xs)) fun z hz => (h z).mpr (sset_mem.mp hz))
def pySS2 (xs : List Int) : Option (List Int) := if xs.length < 1000 ∧ (sset xs).length < 64 then some (sset xs) else none
def rSetI2 (K : PySem.W.Frag) (w : World) : List V → Hp → VK → Prop := fun vs H Q => ∃ (a : Addr) (ns : List Int), vs = [V.ref a] ∧ SqL K H a (ns.map V.int) ∧ ns.length < 1000 ∧ ∀ (p : Addr), H p = none → Q (.ref p) (upd H p (SetO w p (fun x => decide (x ∈ ns)) (sset ns).length))
theorem cr_setI2 {X : Cx} {K : PySem.W.Frag} (hK : X.K = K) (hc : X.calm = true) : CallR X (.type "set") (rSetI2 K X.w) := by
  subst hK
  intro pins s σ H vs us Q I r h
  obtain ⟨a, ns, rfl, hs, hl, q⟩ := h
  obtain ⟨its, rv, pl, hz⟩ := I.list hs
  rw [Vals.ref1 r]
  have hsz : its.toArray.size = ns.length := by rw [List.size_toArray, ← rv.length, List.length_map]
  refine seti_of_list (I.ok.hd hc) pl.isList hsz (by omega) (fun i v e => by
    obtain ⟨x, t, h1, h2⟩ := val_int rv i v (by simpa using e)
    exact ⟨x, t, h1, h2⟩) fun g tk c R le kp => ?_
  have hc : c = (sset ns).length := by
    obtain ⟨o, es, ep, t, _, _, _, _, nd, mem, _, _, sz, _⟩ := R
    rw [← sz, ← sset_count (xs := ns) nd fun k => by rw [← mem k, decide_eq_true_eq], List.length_map, Array.length_toList]
  subst hc
  have J : Inv X pins σ (upd H s.heap.objs.size (SetO X.w s.heap.objs.size (fun x => decide (x ∈ ns)) (sset ns).length)) { s with heap := g, toks := tk } :=
    I.laid (t' := tk) kp (Nat.le_refl _) (setO_new R)
  exact ⟨.ref s.heap.objs.size, _, J, rfl, q _ (I.hok.fresh (Nat.le_refl _))⟩
section
variable {te : TE} {Γ Γ1 : List Sl} {K : PySem.W.Frag} {xs ys : List Int} {wd : World}
theorem ec_sortSet2 (h : EvX (rLst rInt) te Γ Γ1 xs) (e : pySS2 xs = some ys) : EvC (cLst rInt) (tCB (rSortedSet wd) (tCons (tCB (rSetI2 K wd) (tCons te tNil)) tNil)) Γ Γ1 ys := fun A σ H B F Q q => by
  unfold pySS2 at e
  split at e
  · rename_i hl
    cases e
    refine h A σ H B F _ fun v H1 B1 F1 s1 k1 => ?_
    obtain ⟨p, vs, rfl, hp, k⟩ := ob_lst F1.bh k1
    refine ⟨p, xs, rfl, ?_, hl.1, fun p0 h0 => ?_⟩
    · rw [show xs.map V.int = vs from (fl_int.vals k).symm]; exact SqL.of hp
    · have F2 := (F1.fresh h0 (o := SetO wd p0 (fun x => decide (x ∈ xs)) (sset xs).length) trivial).drop (F1.H0none h0) F1.sub F1.mh
      refine ⟨p0, _, _, rfl, upd_same, hl.2, fun ns p1 asc mem len h1 => ?_⟩
      have en : ns = sset xs := asc_eq asc (sset_asc xs) fun z => by rw [mem z, sset_mem, decide_eq_true_eq]
      subst en
      refine ec_fresh (c := cLst rInt) (o := .lst ((sset xs).map V.int)) F2 h1 ?_ (fun p o H' B' F' n' s' k' => q p o H' B' F' n' (s1.trans s') k') ⟨_, rfl, paired_ints _ _⟩
      show ((sset xs).map V.int).length ≤ sizeLine
      rw [List.length_map]
      exact Nat.le_trans (Nat.le_of_lt hl.2) (by decide)
  · cases e
end
end G

set_option maxHeartbeats 4000000
/-! # G: x != y by an own __eq__ -/
namespace G
open PySem PySem.Spec PyProof.Rows L2
section
variable {prog : Program} {w : World} {A : Around} {E : Value → Shared → Prop} {s : Shared} {K : PySem.W.Frag} {x C f L : Addr} {h₀ : Heap} {m : Str → Option Value} {ox : Obj} {odd : Option Obj} {b tb : Value}
theorem ne_bind (self : Value) : bindSpecial (.builtin "object.__ne__") self = pure (.builtin "object.__ne__", [self]) :=
  (Slot.of (T := "object") (name := "__ne__") (owner := "object") (n := "__ne__") (by rw [typeLookup_type, builtinLookup_eq_fast]; kernel_rfl) (by decide +kernel) (by decide +kernel) (by decide +kernel)
    (.inl (by decide +kernel)) (by rw [isSubtype_type]; kernel_rfl)).bind self
theorem ne_plain : plainId "object.__ne__" = true := by decide +kernel
theorem objNe_own (X : K.In s.heap) (I : PySem.W.InstAt s.heap x ox C odd) (hs : PySem.W.findIn K (.ref C) "__eq__" = some (some (.ref f))) (hf : PySem.W.isFn K (.ref f) = true) (hu : A.units < cLine) {Q : PySem.Fin → Shared → Prop}
    (h : wpAny (model prog w) A (call (.ref f) [.ref x, b]) (fun v s' => ∃ c, v = .bool c ∧ Q (.done (.ret (.bool (!c)))) s') E s) :
    wpAny (model prog w) A (Builtin.«object.__ne__» ⟨[.ref x, b], []⟩) Q E s := by
  unfold Builtin.«object.__ne__»
  repeat (first
    | with_reducible refine wpAny_cRoomFor hu ?_
    | (refine wpAny_bind (m := callSpecialIfBound? (.ref x) (Str.ofString "__eq__") [b])
        (PySem.W.ifBound_K X I hs hf (wpAny_mono h (fun r s' hr => by
          obtain ⟨c, rfl, hq⟩ := hr
          repeat (first | exact hq | exact wpAny_pure hq | exact wpAny_truthy_bool hq | (refine wpAny_bind (m := truthy (.bool _)) (wpAny_truthy_bool ?_)) | wp_step)) fun _ _ e => e)))
    | wp_step)
theorem ne_K {Q : Value → Shared → Prop} (hu : A.units + 1 < cLine) (Fq : PyProof.Rows.Fr h₀ L s.heap m) (X₀ : K.In h₀) (I : PySem.W.InstAt s.heap x ox C odd) (hb : PySem.W.Looks (model prog w) s.heap (typeOf b) tb) (hn : PySem.W.notFirst K C tb = true)
    (hne : PySem.W.findIn K (.ref C) "__ne__" = some (some (.builtin "object.__ne__"))) (ho : PySem.W.plainOver K C = true)
    (hs : PySem.W.findIn K (.ref C) "__eq__" = some (some (.ref f))) (hf : PySem.W.isFn K (.ref f) = true)
    (h : wpAny (model prog w) A.in1 (call (.ref f) [.ref x, b]) (fun v s' => ∃ c, v = .bool c ∧ Q (.bool (!c)) s') E s) : wpAny (model prog w) A (richCompare .NotEq (.ref x) b) Q E s := by
  have X := X₀.keeps Fq.keep
  obtain ⟨cd, hc, ho'⟩ := PySem.W.any_some ho
  have ne : cd.mro.isEmpty = false := by cases q : cd.mro with | nil => rw [q] at ho'; cases ho' | cons _ _ => rfl
  have sub : PySem.W.Looks (model prog w) s.heap (isInstance (.ref x) (.type "object")) true := I.type.andThen (PySem.W.looks_mroIn X (by unfold PySem.W.mroIn; rw [hc, Option.bind_some, if_neg (by rw [ne]; decide), PySem.W.only_has ho']))
  have run : wpAny (model prog w) A (call (.builtin "object.__ne__") ([.ref x] ++ [b])) (fun v s' => ∃ c, v = Value.bool c ∧ Q (.bool c) s') E s := by
    refine wpAny_call (codeAny_call_builtin ne_plain F.cmpEntry_ne (@PySem.W.check_slot (model prog w) _ _ s "object.__ne__" "object" "__ne__" (.ref x) [b] [] _ F.cmpKind_ne F.cmpSplit_ne sub (F.cmpArgs_ne _ _) ?_))
    refine objNe_own (A := A.in1) X I hs hf hu (wpAny_mono h (fun v s' hv => ?_) fun _ _ e => e)
    obtain ⟨c, rfl, hq⟩ := hv
    exact ⟨c, rfl, _, rfl, hq⟩
  have one : wpAny (model prog w) A (tryCompare (.ref x) "__ne__" b) (fun r s' => ∃ v, r = some v ∧ Q v s') E s := by
    simp only [tryCompare]
    refine wpAny_bind ?_
    simp only [callSpecialIfBound?, bindSpecialIfBound?]
    refine wpAny_holding (wpAny_bind (wpAny_bind (wpAny_bind (I.type.here ((PySem.W.looks_findIn X hne).here ?_)))))
    simp only [ne_bind]
    refine wpAny_bind (wpAny_askSetting (wpAny_ite ?_))
    have fin : ∀ R : Option Value → Shared → Prop, (∀ c s', Q (.bool c) s' → R (some (.bool c)) s') → wpAny (model prog w) A (call (.builtin "object.__ne__") ([.ref x] ++ [b]) >>= fun v => pure (some v)) R E s := fun R hR => by
      refine wpAny_bind (wpAny_mono run (fun v s' hv => ?_) fun _ _ e => e)
      obtain ⟨c, rfl, hq⟩ := hv
      exact wpAny_pure (hR _ _ hq)
    split
    · exact wpAny_bind (wpAny_pure (wpAny_pure (by exact fin _ fun c s' hq => wpAny_pure ⟨_, rfl, hq⟩)))
    · exact wpAny_tryCatch (wpAny_bind (wpAny_pure (wpAny_pure (by exact fin _ fun c s' hq => wpAny_pure ⟨_, rfl, hq⟩))))
  unfold richCompare
  simp only [oneThing_ref]
  refine wpAny_holding (wpAny_bind (wpAny_cRoomFor (Nat.lt_of_succ_lt hu) ?_))
  rw [cmpInfo_NotEq]
  dsimp only
  refine wpAny_bind (I.type.here (wpAny_bind (hb.here ?_)))
  split
  · rename_i q
    have e : PySem.W.subIn K tb (.ref C) = some false := by
      rcases Bool.or_eq_true_iff.mp hn with e | e
      · rw [beq_iff_eq.mp e] at q; simp at q
      · exact beq_iff_eq.mp e
    refine wpAny_bind ((PySem.W.looks_subIn X e).here ?_)
    simp only [Bool.false_eq_true, if_false]
    refine wpAny_bind (wpAny_mono one (fun r s' z => ?_) fun _ _ e => e)
    obtain ⟨v, rfl, hq⟩ := z
    exact wpAny_pure hq
  · refine wpAny_bind (wpAny_pure ?_)
    simp only [Bool.false_eq_true, if_false]
    refine wpAny_bind (wpAny_mono one (fun r s' z => ?_) fun _ _ e => e)
    obtain ⟨v, rfl, hq⟩ := z
    exact wpAny_pure hq
end
section
variable {X : Cx} {CX : CXT} {C f : Addr} {fd : FuncData} {ps : List Str} {n : Nat} {sp : Sp} {E : XK} {K : PySem.W.Frag}
/-- no own __ne__, and no own way to bind -/
structure NoNe (K : PySem.W.Frag) (C : Addr) : Prop where
  ne : PySem.W.findIn K (.ref C) "__ne__" = some (some (.builtin "object.__ne__"))
  plain : PySem.W.plainOver K C = true
/-- x != y, x of the class at C, whose __eq__ gives a bool; y of the type t -/
def rNeO (K : PySem.W.Frag) (C : Addr) (t : Value) (sp : Sp) (E : XK) : R2 := fun x y H Q => ∃ a dx fs, x = .ref a ∧ H a = some (.ins C dx fs) ∧ TyX K H y t ∧ PySem.W.notFirst K C t = true ∧ sp [x, y] H (fun v H' => ∃ b, v = .bl b ∧ Q (.bl (!b)) H') E
theorem op_neO {t : Value} (hK : X.K = K) (hn : NoNe K C) (hm : Meth K C "__eq__" f) (F : FnOk X.prog X.w X.K X.mg X.base CX n f fd ps sp) (hr : Room (n + 1) X.A) (hb : Binds K fd ps []) (hx : Passes CX X E) : OpR X (compareOp .NotEq) (rNeO K C t sp E) := by
  subst hK
  intro pins s σ H x y v u Q I rx ry h
  obtain ⟨a, dx, fs, rfl, ha, ty, nf, q⟩ := h
  cases (show v = Value.ref a from rx)
  obtain ⟨mA, J, _⟩ := ins_get I.hok ha
  obtain ⟨od, J, _⟩ := J.look
  obtain ⟨m, hF⟩ := I.fr
  obtain ⟨P, Z, hP, _⟩ := kit_of I ry ty
  have hr1 : Room n X.A.in1 := Room.in1 hr
  show wpAny _ _ (richCompare .NotEq (.ref a) u) _ _ _
  refine ne_K (tb := t) hr1.units0 hF I.ok.mod.kin J (Z.ty _ _ I.kIn hP) nf hn.ne hn.plain hm.at_ hm.fn ?_
  refine wpAny_mono (run_fnA (us := [.ref a, u]) (vs := [.ref a, y]) F hr1 I.env0.in1 hb hx I (.cons rfl (.cons ry .nil)) q) (fun w s' z => ?_) fun _ _ e => e
  obtain ⟨z', H', I', rz, b, rfl, qz⟩ := z
  cases (show w = Value.bool b from rz)
  exact ⟨b, rfl, .bl (!b), H', I', rfl, qz⟩
end
section
variable {α β γ : Type} {r ra : Rp α} {rb : Rp β} {rc : Rp γ} {te ta tb : TE} {Γ Γ1 Γ2 : List Sl} {K : PySem.W.Frag} {w : Rw α} {C : Addr} {names : List Str} {x : α} {y : β} {E : XK}
theorem ev_neO {t : Value} {m : α × β → Option Bool} {b : Bool} (ha : EvX (rIns C names w) ta Γ Γ1 x) (hb : EvX rb tb Γ1 Γ2 y) (ty : TyR K rb t) (nf : PySem.W.notFirst K C t = true) (e : m (x, y) = some b) : EvX rBool (tOp (rNeO K C t (SpP (wC (rIns C names w) (w1 rb)) rBool m) E) ta tb) Γ Γ2 (!b) := fun A σ H B F Q q =>
  ha A σ H B F _ fun u H1 B1 F1 s1 k1 => hb A σ H1 B1 F1 _ fun v H2 B2 F2 s2 k2 => by
    have k1' := (rIns C names w).mono s2 k1
    obtain ⟨p, dx, vs, rfl, hp, l, kw⟩ := ob_ins F2.bh k1'
    exact ⟨p, dx, _, rfl, hp, ty _ _ _ (rb.mono F2.bh k2), nf, B2, (x, y), b, F2.sz, F2.bh, ⟨_, _, rfl, k1', _, rfl, k2⟩, e, fun H3 B3 v3 P k3 => ⟨b, k3, q _ H3 B3 (F2.after P) ((s1.trans s2).trans P.b0) rfl⟩⟩
end
end G

set_option maxHeartbeats 4000000
/-! # G: lists of the frame's own in lists of its own; more words of lists -/
namespace G
open PySem PySem.Spec PyProof.Rows L2
/-- rows of values that own objects -/
structure Tw (α : Type) where
  ok : Hp → Hp → (Addr → Prop) → List V → α → Prop
  mono : ∀ {B B' H H' : Hp} {o o' : Addr → Prop} {vs : List V} {a : α}, Same B B' → (∀ p u, o p → H p = some u → H' p = some u) → (∀ p, o p → o' p) → ok B H o vs a → ok B' H' o' vs a
def tI {α : Type} (r : Rp α) : Tr α := ⟨fun B _ _ v a => r.rel B v a, fun b _ _ h => r.mono b h⟩
def tK {α : Type} (c : Cl α) : Tr α := ⟨fun B H o v a => ∃ p u, v = .ref p ∧ o p ∧ H p = some u ∧ c.ok B u a, fun b k n ⟨p, u, e, op, hu, q⟩ => ⟨p, u, e, n p op, k p u op hu, c.mono b q⟩⟩
def tw0 : Tw Unit := ⟨fun _ _ _ vs _ => vs = [], fun _ _ _ h => h⟩
def tw1 {α : Type} (t : Tr α) : Tw α := ⟨fun B H o vs a => ∃ v, vs = [v] ∧ t.ok B H o v a, fun b k n ⟨v, e, q⟩ => ⟨v, e, t.mono b k n q⟩⟩
def twC {α β : Type} (t : Tr α) (w : Tw β) : Tw (α × β) := ⟨fun B H o vs a => ∃ v vs' o1 o2, vs = v :: vs' ∧ (∀ p, o1 p → o p) ∧ (∀ p, o2 p → o p) ∧ (∀ p, o1 p → ¬ o2 p) ∧ t.ok B H o1 v a.1 ∧ w.ok B H o2 vs' a.2,
  by
    intro B B' H H' o o' vs a b k n ⟨v, vs', o1, o2, e, h1, h2, hd, q1, q2⟩
    exact ⟨v, vs', o1, o2, e, fun p z => n p (h1 p z), fun p z => n p (h2 p z), hd, t.mono (o := o1) (o' := o1) b (fun p u z => k p u (h1 p z)) (fun _ z => z) q1, w.mono (o := o2) (o' := o2) b (fun p u z => k p u (h2 p z)) (fun _ z => z) q2⟩⟩
def tH {α : Type} (w : Tw α) : Tr α := ⟨fun B H o v a => ∃ p vs, v = .ref p ∧ o p ∧ H p = some (.lst vs) ∧ w.ok B H (fun q => o q ∧ q ≠ p) vs a,
  fun b k n ⟨p, vs, e, op, hp, q⟩ => ⟨p, vs, e, n p op, k p _ op hp, w.mono b (fun q u z => k q u z.1) (fun q z => ⟨n q z.1, z.2⟩) q⟩⟩
/-- the k-th of a row: what it is, and what becomes of the row if it changes -/
def AccT {α β : Type} (w : Tw α) (k : Nat) (t : Tr β) (f : α → β) (g : α → β → α) : Prop := ∀ B H o vs a, w.ok B H o vs a → k < vs.length ∧ ∃ v o1, vs[k]? = some v ∧ (∀ p, o1 p → o p) ∧ t.ok B H o1 v (f a) ∧
  ∀ B' H' v' b, Same B B' → (∀ p u, o p → ¬ o1 p → H p = some u → H' p = some u) → t.ok B' H' o1 v' b → w.ok B' H' o (vs.set k v') (g a b)
theorem Paired.setR {α β : Type} {F : α → β → Prop} {x : α} {y : β} (h : F x y) : ∀ {l₁ : List α} {l₂ : List β} (n : Nat), Paired F l₁ l₂ → Paired F (l₁.set n x) (l₂.set n y)
  | _, _, _, .nil => .nil
  | _, _, 0, .cons _ t => .cons h t
  | _, _, n + 1, .cons q t => .cons q (Paired.setR h n t)
theorem Paired.eraseR {α β : Type} {F : α → β → Prop} : ∀ {l₁ : List α} {l₂ : List β} (n : Nat), Paired F l₁ l₂ → Paired F (l₁.eraseIdx n) (l₂.eraseIdx n)
  | _, _, _, .nil => .nil
  | _, _, 0, .cons _ t => t
  | _, _, n + 1, .cons q t => .cons q (Paired.eraseR n t)
section
variable {α β γ δ ρ : Type} {r ra : Rp α} {rb : Rp β} {c : Cl β} {t : Tr α} {tb : Tr β} {w : Tw α} {wb : Tw β} {te ta : TE} {A : Amb} {D : Ends} {Γ Γ1 : List Sl} {i k : Nat} {v : V} {a x : α} {b y : β} {K : PySem.W.Frag} {u : TS} {f : α → β} {g : α → β → α}
theorem accT1 : AccT (tw1 t) 0 t (fun a => a) (fun _ b => b) := fun B H o vs a ⟨v, e, q⟩ => ⟨by rw [e]; exact Nat.zero_lt_one, v, o, by rw [e]; rfl, fun _ z => z, q, fun B' H' v' b _ _ z => ⟨v', by rw [e]; rfl, z⟩⟩
theorem accT0 : AccT (twC t wb) 0 t (·.1) (fun a b => (b, a.2)) := fun B H o vs a ⟨v, vs', o1, o2, e, h1, h2, hd, q1, q2⟩ => ⟨by rw [e, List.length_cons]; omega, v, o1, by rw [e]; rfl, h1, q1, fun B' H' v' b bb k z =>
  ⟨v', vs', o1, o2, by rw [e]; rfl, h1, h2, hd, z, wb.mono bb (fun p u o => k p u (h2 p o) fun z => hd p z o) (fun _ z => z) q2⟩⟩
theorem accTS {tc : Tr γ} {f : β → γ} {g : β → γ → β} (h : AccT wb k tc f g) : AccT (twC t wb) (k + 1) tc (fun a => f a.2) (fun a b => (a.1, g a.2 b)) := fun B H o vs a ⟨v, vs', o1, o2, e, h1, h2, hd, q1, q2⟩ => by
  obtain ⟨hl, x, o3, hx, h3, q3, q⟩ := h B H o2 vs' a.2 q2
  refine ⟨by rw [e, List.length_cons]; omega, x, o3, by rw [e]; simpa using hx, fun p z => h2 p (h3 p z), q3, fun B' H' v' b bb kk z => ⟨v, vs'.set k v', o1, o2, by rw [e]; rfl, h1, h2, hd, t.mono bb (fun p u op => kk p u (h1 p op) fun z => hd p op (h3 p z)) (fun _ z => z) q1, q B' H' v' b bb (fun p u op n => kk p u (h2 p op) n) z⟩⟩
/-- what is seen of the frame's own list of lists -/
theorem tre_at {σ : L2.St} {H B : Hp} (F : Frm A σ H B Γ) (h : Γ[i]? = some (.tre v (tH w) a)) : ∃ p vs o, v = .ref p ∧ σ[i]? = some (some (.ref p)) ∧ H p = some (.lst vs) ∧ w.ok B H o vs a := by
  obtain ⟨e, o, _, p, vs, rfl, op, hp, k⟩ := F.sl i _ h
  exact ⟨p, vs, _, rfl, e, hp, k⟩
/-- a reading that makes nothing -/
def EvK {α : Type} (r : Rp α) (t : TE) (Γ : List Sl) (a : α) : Prop := ∀ (A : Amb) (σ : L2.St) (H B : Hp), Frm A σ H B Γ → ∀ Q : VK, (∀ v, r.rel B v a → Q v H) → t σ H Q
theorem ev_K (h : EvK r te Γ a) : EvX r te Γ Γ a := fun A σ H B F Q q => h A σ H B F Q fun v k => q v H B F (Same.refl _) k
theorem ek_var (h : Γ[i]? = some (.imm r a)) : EvK r (tVar i) Γ a := fun A σ H B F Q q => by
  obtain ⟨v, e, k⟩ := F.sl i _ h
  exact ⟨v, e, q v k⟩
theorem ek_int {j : Int} : EvK rInt (tC (.int j)) Γ j := fun A σ H B F Q q => q _ rfl
theorem ek_to {a' : α} (h : EvK r te Γ a) (e : a = a') : EvK r te Γ a' := e ▸ h
theorem ek_I {C : Int → Int → Prop} {g : Int → Int → Int} {j l : Int} {tb : TE} (ha : EvK rInt ta Γ j) (hb : EvK rInt tb Γ l) (hc : C j l) : EvK rInt (tOp (rI C fun i j => .int (g i j)) ta tb) Γ (g j l) := fun A σ H B F Q q =>
  ha A σ H B F _ fun x kx => hb A σ H B F _ fun y ky => ⟨j, l, kx, ky, hc, q _ rfl⟩
theorem ek_I0 {g : Int → Int → Int} {j l : Int} {tb : TE} (ha : EvK rInt ta Γ j) (hb : EvK rInt tb Γ l) : EvK rInt (tOp (rI0 fun i j => .int (g i j)) ta tb) Γ (g j l) := fun A σ H B F Q q =>
  ha A σ H B F _ fun x kx => hb A σ H B F _ fun y ky => ⟨j, l, kx, ky, q _ rfl⟩
/-- x[k], a value -/
theorem ek_treI (h : Γ[i]? = some (.tre v (tH w) a)) (s : AccT w k (tI rb) f g) : EvK rb (tOp (rIxL K) (tVar i) (tC (.int (k : Int)))) Γ (f a) := fun A σ H B F Q q => by
  obtain ⟨p, vs, o, rfl, e, hp, kw⟩ := tre_at F h
  obtain ⟨_, z, o1, hz, _, kz, _⟩ := s B H o vs a kw
  exact ⟨_, e, p, vs, (k : Int), z, rfl, rfl, SqL.of hp, atI_nat hz, q z kz⟩
/-- x[k], a list of the frame's own -/
theorem tre_sub {xs : List δ} {rd : Rp δ} {f : α → List δ} {g : α → List δ → α} {σ : L2.St} {H B : Hp} (F : Frm A σ H B Γ) (h : Γ[i]? = some (.tre v (tH w) a)) (s : AccT w k (tK (cLst rd)) f g) : ∃ p vs o q zs, v = .ref p ∧ σ[i]? = some (some (.ref p)) ∧ H p = some (.lst vs) ∧ w.ok B H o vs a ∧ vs[k]? = some (.ref q) ∧ H q = some (.lst zs) ∧ Paired (rd.rel B) zs (f a) := by
  obtain ⟨p, vs, o, rfl, e, hp, kw⟩ := tre_at F h
  obtain ⟨_, z, o1, hz, _, ⟨q, w, rfl, _, hq, zs, rfl, kz⟩, _⟩ := s B H o vs a kw
  exact ⟨p, vs, o, q, zs, rfl, e, hp, kw, hz, hq, kz⟩
theorem ek_treL {rd : Rp δ} {f : α → List δ} {g : α → List δ → α} (h : Γ[i]? = some (.tre v (tH w) a)) (s : AccT w k (tK (cLst rd)) f g) : EvK rInt (tCB (RLen K) (tCons (tOp (rIxL K) (tVar i) (tC (.int (k : Int)))) tNil)) Γ ((f a).length : Int) := fun A σ H B F Q q => by
  obtain ⟨p, vs, o, l, zs, rfl, e, hp, kw, hz, hq, kz⟩ := tre_sub (xs := f a) F h s
  exact ⟨_, e, p, vs, (k : Int), _, rfl, rfl, SqL.of hp, atI_nat hz, l, zs, rfl, .inl (SqL.of hq), by rw [Paired.len kz]; exact q _ rfl⟩
theorem ek_treX {rd : Rp δ} {f : α → List δ} {g : α → List δ → α} {d : δ} {j : Int} {tj : TE} (h : Γ[i]? = some (.tre v (tH w) a)) (s : AccT w k (tK (cLst rd)) f g) (hj : EvK rInt tj Γ j) (e : atI (f a) j = some d) : EvK rd (tOp (rIxL K) (tOp (rIxL K) (tVar i) (tC (.int (k : Int)))) tj) Γ d := fun A σ H B F Q q => by
  obtain ⟨p, vs, o, l, zs, rfl, e1, hp, kw, hz, hq, kz⟩ := tre_sub (xs := f a) F h s
  obtain ⟨z, hz2, kz2⟩ := atI_rel kz e
  exact ⟨_, e1, p, vs, (k : Int), _, rfl, rfl, SqL.of hp, atI_nat hz, hj A σ H B F _ fun y ky => ⟨l, zs, j, z, rfl, ky, SqL.of hq, hz2, q z kz2⟩⟩
theorem len_set_sz {H : Hp} {p : Addr} {vs : List V} {v : V} {k : Nat} (z : Sz H) (hp : H p = some (.lst vs)) : szO (.lst (vs.set k v)) := by show (vs.set k v).length ≤ _; rw [List.length_set]; exact z _ _ hp
/-- x[k] = e, a value -/
theorem Frm.treI {σ : L2.St} {H B : Hp} {p : Addr} {vs : List V} {z : V} (F : Frm A σ H B Γ) (h : Γ[i]? = some (.tre (.ref p) (tH w) a)) (s : AccT w k (tI rb) f g) (hp : H p = some (.lst vs)) (kz : rb.rel B z b) : Frm A σ (upd H p (.lst (vs.set k z))) B (Γ.set i (.tre (.ref p) (tH w) (g a b))) := by
  obtain ⟨e1, o0, ho, p', vs', e2, op, hp', kw⟩ := F.sl i _ h
  cases e2
  rw [hp] at hp'; cases hp'
  have n := (ho p op).1
  have m := (ho p op).2.2
  refine F.chg h ⟨fun b u q => ?_, F.b0, fun b u nm q => ?_, F.out, fun b n => ?_, F.sub, F.mh, F.ph, F.sz.upd (len_set_sz F.sz hp)⟩ (Same.refl _) fun ow hh so => ⟨ow, fun q z => .inl z, fun q z => ?_, fun q h nq => ⟨h.1, fun u hu => ?_⟩, e1, ?_⟩
  · have hb : b ≠ p := fun z => by rw [z, n] at q; cases q
    rw [upd_ne hb]; exact F.bh b u q
  · have hb : b ≠ p := fun z => by
      rcases m with m | m
      · rw [z, m] at q; cases q
      · rw [z] at nm; exact nm m
    rw [upd_ne hb]; exact F.keep b u nm q
  · by_cases hb : b = p
    · rw [hb, upd_same]; simp
    · rw [upd_ne hb]; exact F.alive b n
  · have h := hh q z
    refine ⟨h.1, ?_, h.2.2⟩
    by_cases hb : q = p
    · rw [hb, upd_same]; simp
    · rw [upd_ne hb]; exact h.2.1
  · obtain ⟨_, q', _, e3, oq, _⟩ := so
    cases e3
    have hq : q ≠ p := fun z => nq (by rw [z]; exact oq)
    rw [upd_ne hq]; exact hu
  · obtain ⟨_, q', vs2, e3, oq, hq', kw2⟩ := so
    cases e3
    rw [hp] at hq'; cases hq'
    obtain ⟨_, _, o1, _, h1, _, q⟩ := s B H _ vs a kw2
    exact ⟨p, _, rfl, oq, upd_same, q B _ z b (Same.refl _) (fun q u oq _ hu => by rw [upd_ne oq.2]; exact hu) kz⟩
theorem sq_setT (h : EvX rb te Γ Γ1 b) (hi : Γ1[i]? = some (.tre v (tH w) a)) (s : AccT w k (tI rb) f g) (n : Nx A (u D) (Γ1.set i (.tre v (tH w) (g a b)))) : Nx A (tSeq (tAsg te (gSub (tVar i) (tC (.int (k : Int))) rSetL)) u D) Γ := fun σ H B F =>
  h A σ H B F _ fun z H1 B1 F1 s1 k1 => by
    obtain ⟨p, vs, o, rfl, e, hp, kw⟩ := tre_at F1 hi
    obtain ⟨hk, _⟩ := s B1 H1 o vs a kw
    refine ⟨_, e, p, vs, (k : Int), k, rfl, rfl, hp, ?_, n σ _ B1 (F1.treI hi s hp k1)⟩
    unfold ixN; rw [if_pos (by omega), if_pos (by omega)]; simp
/-- a list of the frame's own within its own list is changed -/
theorem Frm.treS {rd : Rp δ} {f : α → List δ} {g : α → List δ → α} {σ : L2.St} {H B : Hp} {p q : Addr} {vs zs' : List V} {xs' : List δ} (F : Frm A σ H B Γ) (h : Γ[i]? = some (.tre (.ref p) (tH w) a)) (s : AccT w k (tK (cLst rd)) f g) (hp : H p = some (.lst vs)) (hv : vs[k]? = some (.ref q)) (hz : szO (.lst zs')) (kz : Paired (rd.rel B) zs' xs') :
    Frm A σ (upd H q (.lst zs')) B (Γ.set i (.tre (.ref p) (tH w) (g a xs'))) := by
  obtain ⟨e1, o0, ho, p', vs', e2, op, hp', kw⟩ := F.sl i _ h
  cases e2
  rw [hp] at hp'; cases hp'
  obtain ⟨_, z, o1, hz1, h1, ⟨q', w1, e4, oq1, hq1, _⟩, _⟩ := s B H _ vs a kw
  rw [hv] at hz1; cases hz1
  cases e4
  have oq0 := (h1 q oq1).1
  have n := (ho q oq0).1
  have m := (ho q oq0).2.2
  refine F.chg h ⟨fun b u z => ?_, F.b0, fun b u nm z => ?_, F.out, fun b n => ?_, F.sub, F.mh, F.ph, F.sz.upd hz⟩ (Same.refl _) fun ow hh so => ?_
  · have hb : b ≠ q := fun e => by rw [e, n] at z; cases z
    rw [upd_ne hb]; exact F.bh b u z
  · have hb : b ≠ q := fun e => by
      rcases m with m | m
      · rw [e, m] at z; cases z
      · rw [e] at nm; exact nm m
    rw [upd_ne hb]; exact F.keep b u nm z
  · by_cases hb : b = q
    · rw [hb, upd_same]; simp
    · rw [upd_ne hb]; exact F.alive b n
  · obtain ⟨_, p2, vs2, e3, op2, hp2, kw2⟩ := so
    cases e3
    rw [hp] at hp2; cases hp2
    obtain ⟨_, z2, o2, hz2, h2, ⟨q2, w2, e5, oq2, hq2, zz, ez, kk⟩, fin⟩ := s B H _ vs a kw2
    rw [hv] at hz2; cases hz2
    cases e5
    have ne : q ≠ p := (h2 q oq2).2
    refine ⟨ow, fun q z => .inl z, fun b z => ?_, fun b h nb => ⟨h.1, fun u hu => ?_⟩, e1, p, vs, rfl, op2, by rw [upd_ne (Ne.symm ne)]; exact hp, ?_⟩
    · have h := hh b z
      refine ⟨h.1, ?_, h.2.2⟩
      by_cases hb : b = q
      · rw [hb, upd_same]; simp
      · rw [upd_ne hb]; exact h.2.1
    · have hb : b ≠ q := fun z => nb (by rw [z]; exact (h2 q oq2).1)
      rw [upd_ne hb]; exact hu
    · have := fin B (upd H q (.lst zs')) (.ref q) xs' (Same.refl _) (fun b u ob nb hu => by rw [upd_ne fun z => nb (by rw [z]; exact oq2)]; exact hu) ⟨q, _, rfl, oq2, upd_same, zs', rfl, kz⟩
      rw [set_same hv] at this
      exact this
/-- x[k][j] = e -/
theorem sq_setTS {rd : Rp δ} {f : α → List δ} {g : α → List δ → α} {d : δ} {j : Int} {n : Nat} {tj : TE} (h : EvX rd te Γ Γ1 d) (hi : Γ1[i]? = some (.tre v (tH w) a)) (s : AccT w k (tK (cLst rd)) f g) (hj : EvK rInt tj Γ1 j) (e : ixN (f a).length j = some n) (nx : Nx A (u D) (Γ1.set i (.tre v (tH w) (g a ((f a).set n d))))) :
    Nx A (tSeq (tAsg te (gSub (tOp (rIxL K) (tVar i) (tC (.int (k : Int)))) tj rSetL)) u D) Γ := fun σ H B F =>
  h A σ H B F _ fun z H1 B1 F1 s1 k1 => by
    obtain ⟨p, vs, o, l, zs, rfl, e1, hp, kw, hz, hq, kz⟩ := tre_sub (xs := f a) F1 hi s
    refine ⟨_, e1, p, vs, (k : Int), _, rfl, rfl, SqL.of hp, atI_nat hz, hj A σ H1 B1 F1 _ fun y ky => ⟨l, zs, j, n, rfl, ky, hq, by rw [Paired.len kz]; exact e, nx σ _ B1 (F1.treS hi s hp hz (len_set_sz F1.sz hq) ?_)⟩⟩
    exact Paired.setR k1 n kz
/-- x[k].pop(j) -/
theorem sq_popTS {rd : Rp δ} {f : α → List δ} {g : α → List δ → α} {j : Int} {n : Nat} {tj : TE} (hi : Γ[i]? = some (.tre v (tH w) a)) (s : AccT w k (tK (cLst rd)) f g) (hj : EvK rInt tj Γ j) (e : seqIndex? j (f a).length = some n) (hn : n < (f a).length) (h1 : -(2 ^ 63) ≤ j) (h2 : j < 2 ^ 63) (nx : Nx A (u D) (Γ.set i (.tre v (tH w) (g a ((f a).eraseIdx n))))) :
    Nx A (tSeq (tDrop (tBM K "list" rPopAt (tOp (rIxL K) (tVar i) (tC (.int (k : Int)))) (tCons tj tNil))) u D) Γ := fun σ H B F => by
  obtain ⟨p, vs, o, l, zs, rfl, e1, hp, kw, hz, hq, kz⟩ := tre_sub (xs := f a) F hi s
  have hl := Paired.len kz
  obtain ⟨y, hy⟩ : ∃ y, zs[n]? = some y := ⟨zs[n]'(by omega), List.getElem?_eq_getElem (by omega)⟩
  refine ⟨_, e1, p, vs, (k : Int), _, rfl, rfl, SqL.of hp, atI_nat hz, .inl ⟨rfl, zs, SqL.of hq⟩, hj A σ H B F _ fun z kz2 => ⟨l, zs, j, n, y, rfl, by rw [show z = _ from kz2], hq, h1, h2, by rw [hl]; exact e, hy, nx σ _ B (F.treS hi s hp hz ?_ (Paired.eraseR n kz))⟩⟩
  show (zs.eraseIdx n).length ≤ sizeLine
  have := F.sz _ _ hq
  exact Nat.le_trans (List.length_eraseIdx_le ..) this
/-- one of two items, by a number -/
def pick2 (j : Int) (x y : β) : Option β := if j = 0 then some x else if j = 1 then some y else none
theorem ek_treI' {j : Int} {tj : TE} (h : Γ[i]? = some (.tre v (tH w) a)) (s : AccT w k (tI rb) f g) (hj : EvK rInt tj Γ j) (e : j = (k : Int)) : EvK rb (tOp (rIxL K) (tVar i) tj) Γ (f a) := fun A σ H B F Q q => by
  subst e
  obtain ⟨p, vs, o, rfl, e, hp, kw⟩ := tre_at F h
  obtain ⟨_, z, o1, hz, _, kz, _⟩ := s B H o vs a kw
  exact ⟨_, e, hj A σ H B F _ fun y ky => ⟨p, vs, (k : Int), z, rfl, ky, SqL.of hp, atI_nat hz, q z kz⟩⟩
theorem ek_pick {j : Int} {tj : TE} {f0 f1 : α → β} {g0 g1 : α → β → α} (h : Γ[i]? = some (.tre v (tH w) a)) (s0 : AccT w 0 (tI rb) f0 g0) (s1 : AccT w 1 (tI rb) f1 g1) (hj : EvK rInt tj Γ j) (e : pick2 j (f0 a) (f1 a) = some b) : EvK rb (tOp (rIxL K) (tVar i) tj) Γ b := by
  unfold pick2 at e
  split at e
  · rename_i z; cases e; exact ek_treI' h s0 hj z
  · split at e
    · rename_i z; cases e; exact ek_treI' h s1 hj z
    · cases e
theorem sq_setT' {j : Int} {tj : TE} (h : EvX rb te Γ Γ1 b) (hi : Γ1[i]? = some (.tre v (tH w) a)) (s : AccT w k (tI rb) f g) (hj : EvK rInt tj Γ1 j) (e : j = (k : Int)) (n : Nx A (u D) (Γ1.set i (.tre v (tH w) (g a b)))) : Nx A (tSeq (tAsg te (gSub (tVar i) tj rSetL)) u D) Γ := fun σ H B F =>
  h A σ H B F _ fun z H1 B1 F1 s1 k1 => by
    subst e
    obtain ⟨p, vs, o, rfl, e, hp, kw⟩ := tre_at F1 hi
    obtain ⟨hk, _⟩ := s B1 H1 o vs a kw
    refine ⟨_, e, hj A σ H1 B1 F1 _ fun y ky => ⟨p, vs, (k : Int), k, rfl, ky, hp, ?_, n σ _ B1 (F1.treI hi s hp k1)⟩⟩
    unfold ixN; rw [if_pos (by omega), if_pos (by omega)]; simp
theorem sq_put2 {j : Int} {tj : TE} {f0 f1 : α → β} {g0 g1 : α → β → α} {a' : α} (h : EvX rb te Γ Γ1 b) (hi : Γ1[i]? = some (.tre v (tH w) a)) (s0 : AccT w 0 (tI rb) f0 g0) (s1 : AccT w 1 (tI rb) f1 g1) (hj : EvK rInt tj Γ1 j) (e : pick2 j (g0 a b) (g1 a b) = some a') (n : Nx A (u D) (Γ1.set i (.tre v (tH w) a'))) : Nx A (tSeq (tAsg te (gSub (tVar i) tj rSetL)) u D) Γ := by
  unfold pick2 at e
  split at e
  · rename_i z; cases e; exact sq_setT' h hi s0 hj z n
  · split at e
    · rename_i z; cases e; exact sq_setT' h hi s1 hj z n
    · cases e
/-! ### making -/
structure Ext (A A' : Amb) (n : Addr → Prop) : Prop where
  b0 : A'.B0 = A.B0
  m : A'.m = A.m
  ph : ∀ B, A'.φ B → A.φ B
  old : ∀ p o, A.H0 p = some o → A'.H0 p = some o
  new : ∀ p, n p → A.H0 p = none ∧ A'.H0 p ≠ none
theorem Ext.refl (A : Amb) : Ext A A (fun _ => False) := ⟨rfl, rfl, fun _ h => h, fun _ _ h => h, fun _ h => h.elim⟩
theorem Ext.trans {A A' A2 : Amb} {n n2 : Addr → Prop} (E : Ext A A' n) (E2 : Ext A' A2 n2) : Ext A A2 (fun p => n p ∨ n2 p) := ⟨E2.b0.trans E.b0, E2.m.trans E.m, fun B h => E.ph B (E2.ph B h), fun p o h => E2.old p o (E.old p o h), fun p h => by
  rcases h with h | h
  · obtain ⟨h1, h2⟩ := E.new p h
    refine ⟨h1, ?_⟩
    cases e : A'.H0 p with
    | none => exact absurd e h2
    | some u => rw [E2.old p u e]; simp
  · obtain ⟨h1, h2⟩ := E2.new p h
    refine ⟨?_, h2⟩
    cases e : A.H0 p with
    | none => rfl
    | some u => rw [E.old p u e] at h1; cases h1⟩
theorem Ext.add {A : Amb} {p : Addr} {o : HO} (h : A.H0 p = none) : Ext A (A.add p o) (fun q => q = p) := ⟨rfl, rfl, fun _ h => h, fun q u e => by
  show upd A.H0 p o q = some u
  rw [upd_ne (ne_of_none e h)]; exact e, fun q e => by
  subst e
  exact ⟨h, by show upd A.H0 q o q ≠ none; rw [upd_same]; simp⟩⟩
/-- new objects stay as they are -/
theorem Ext.stay {A A' : Amb} {n : Addr → Prop} {σ : L2.St} {H B : Hp} (E : Ext A A' n) (mh : ∀ p, A.m p → A.H0 p ≠ none) {Γ : List Sl} (F : Frm A' σ H B Γ) {p : Addr} {o : HO} (h : n p) (e : A'.H0 p = some o) : H p = some o := F.keep p o (fun z => mh p (by rw [← E.m]; exact z) (E.new p h).1) e
theorem Ext.keeps {A A' : Amb} {n : Addr → Prop} {σ : L2.St} {H B H2 B2 : Hp} (E : Ext A A' n) (mh : ∀ p, A.m p → A.H0 p ≠ none) {Γ Γ2 : List Sl} (F : Frm A' σ H B Γ) (F2 : Post A' H2 B2) (p : Addr) (u : HO) (h : n p) (e : H p = some u) : H2 p = some u := by
  obtain ⟨_, h2⟩ := E.new p h
  cases q : A'.H0 p with
  | none => exact absurd q h2
  | some o =>
    have nm : ¬ A'.m p := fun z => mh p (by rw [← E.m]; exact z) (E.new p h).1
    have := F.keep p o nm q
    rw [this] at e; cases e
    exact F2.keep p _ nm q
def EvN {α : Type} (w : Tw α) (ta : TA) (Γ Γ' : List Sl) (a : α) : Prop := ∀ (A : Amb) (σ : L2.St) (H B : Hp), Frm A σ H B Γ → ∀ Q : List V → Hp → Prop, (∀ vs H' B' A' n, Frm A' σ H' B' Γ' → Ext A A' n → Same B B' → w.ok B' H' n vs a → Q vs H') → ta σ H Q
theorem en_0 : EvN tw0 tNil Γ Γ () := fun A σ H B F Q q => q _ H B A _ F (Ext.refl A) (Same.refl _) rfl
theorem en_1I (h : EvX r te Γ Γ1 a) : EvN (tw1 (tI r)) (tCons te tNil) Γ Γ1 a := fun A σ H B F Q q => h A σ H B F _ fun v H1 B1 F1 s1 k1 => q _ H1 B1 A _ F1 (Ext.refl A) s1 ⟨v, rfl, k1⟩
theorem hid_hp {σ : L2.St} {H B : Hp} {p : Addr} {o : HO} (F : Frm (A.add p o) σ H B Γ) (h0 : A.H0 p = none) (mh : ∀ p, A.m p → A.H0 p ≠ none) : H p = some o := F.hid h0 fun m => mh p m h0
theorem en_1K {c : Cl α} (h : EvC c te Γ Γ1 a) : EvN (tw1 (tK c)) (tCons te tNil) Γ Γ1 a := fun A σ H B F Q q => h A σ H B F _ fun p o H1 B1 F1 n1 s1 k1 => q _ H1 B1 _ _ F1 (Ext.add n1) s1 ⟨_, rfl, p, o, rfl, rfl, hid_hp F1 n1 F.mh, k1⟩
variable {Γ2 : List Sl} {tr : TA}
theorem en_I (h : EvX r te Γ Γ1 a) (hr : EvN wb tr Γ1 Γ2 y) : EvN (twC (tI r) wb) (tCons te tr) Γ Γ2 (a, y) := fun A σ H B F Q q =>
  h A σ H B F _ fun v H1 B1 F1 s1 k1 => hr A σ H1 B1 F1 _ fun vs H2 B2 A2 n2 F2 E2 s2 k2 => q _ H2 B2 A2 n2 F2 E2 (s1.trans s2) ⟨v, vs, fun _ => False, n2, rfl, fun _ z => z.elim, fun _ z => z, fun _ z => z.elim, r.mono s2 k1, k2⟩
theorem en_K {c : Cl α} (h : EvC c te Γ Γ1 a) (hr : EvN wb tr Γ1 Γ2 y) : EvN (twC (tK c) wb) (tCons te tr) Γ Γ2 (a, y) := fun A σ H B F Q q =>
  h A σ H B F _ fun p o H1 B1 F1 n1 s1 k1 => hr (A.add p o) σ H1 B1 F1 _ fun vs H2 B2 A2 n2 F2 E2 s2 k2 => by
    have E1 := Ext.add (o := o) n1
    refine q _ H2 B2 A2 _ F2 (E1.trans E2) (s1.trans s2) ⟨_, vs, fun q => q = p, n2, rfl, fun _ z => .inl z, fun _ z => .inr z, fun b hb z => ?_, ⟨p, o, rfl, rfl, ?_, c.mono s2 k1⟩, k2⟩
    · have := (E2.new b z).1
      rw [hb] at this
      have t : upd A.H0 p o p = none := this
      rw [upd_same] at t; cases t
    · refine F2.keep p o (fun z => ?_) (E2.old p o upd_same)
      rw [E2.m] at z
      exact F.mh p z n1
theorem Ext.post {A A' : Amb} {n : Addr → Prop} {H B : Hp} (E : Ext A A' n) (sub : Same A.B0 A.H0) (mh : ∀ p, A.m p → A.H0 p ≠ none) (P : Post A' H B) : Post A H B :=
  ⟨P.bh, fun p o e => P.b0 p o (by rw [E.b0]; exact e), fun p o m e => P.keep p o (by rw [E.m]; exact m) (E.old p o e), fun p n z => P.out p (by
    cases e : A.H0 p with
    | none => exact absurd e n
    | some u => rw [E.old p u e]; simp) (by rw [E.b0]; exact z), fun p n => P.alive p (by
    cases e : A.H0 p with
    | none => exact absurd e n
    | some u => rw [E.old p u e]; simp), sub, mh, E.ph B P.ph, P.sz⟩
/-- new objects, with all that they own, at a slot -/
theorem Frm.ownsT {A' : Amb} {n : Addr → Prop} {σ : L2.St} {H B : Hp} {t : Tr α} (F : Frm A' σ H B Γ) (E : Ext A A' n) (sub : Same A.B0 A.H0) (mh : ∀ p, A.m p → A.H0 p ≠ none) (k : t.ok B H n v a) : Frm A (σ.set i (some v)) H B (Γ.set i (.tre v t a)) := by
  refine F.owns n (E.post sub mh F.post) (fun q hq => ?_) (fun q h => ?_) fun hl => ⟨by rw [List.getElem?_set_self (by rw [F.len]; exact hl)], k⟩
  · obtain ⟨h1, h2⟩ := E.new q hq
    refine ⟨⟨F.out q h2 ?_, F.alive q h2, .inl h1⟩, fun z => ?_⟩
    · rw [E.b0]
      cases e : A.B0 q with
      | none => rfl
      | some u => rw [sub q u e] at h1; cases h1
    · rcases z.2.2 with z | z
      · exact h2 z
      · rw [E.m] at z; exact mh q z h1
  · rcases h.2.2 with z | z
    · left
      cases e : A.H0 q with
      | none => rfl
      | some u => rw [E.old q u e] at z; cases z
    · right; rw [← E.m]; exact z
class TLen {α : Type} (w : Tw α) (n : outParam Nat) : Prop where
  len : ∀ {B H o vs a}, w.ok B H o vs a → vs.length = n
instance (t : Tr α) : TLen (tw1 t) 1 := ⟨fun ⟨v, e, _⟩ => by rw [e]; rfl⟩
instance (t : Tr α) (w : Tw β) {n : Nat} [i : TLen w n] : TLen (twC t w) (n + 1) := ⟨fun {B H o vs a} h => by
  obtain ⟨v, vs', o1, o2, e, _, _, _, _, k⟩ := h
  rw [e, List.length_cons, i.len k]⟩
theorem sq_asgN {n : Nat} [z : TLen w n] {ta : TA} (h : EvN w ta Γ Γ1 a) (k : ∀ p, Nx A (u D) (Γ1.set i (.tre (.ref p) (tH w) a))) (hn : n ≤ 1000 := by decide) : Nx A (tSeq (tAsg (tLst ta) (gName i)) u D) Γ := fun σ H B F => h A σ H B F _ fun vs H1 B1 A1 n1 F1 E1 s1 k1 => by
  have hl : vs.length ≤ sizeLine := by rw [z.len k1]; exact Nat.le_of_lt (small1000 hn)
  refine ⟨hl, fun p hp => ?_⟩
  have F2 := F1.fresh (o := .lst vs) hp hl
  have h0 := F1.H0none hp
  have E2 := E1.trans (Ext.add (o := .lst vs) h0)
  have np : ¬ n1 p := fun q => (E1.new p q).2 h0
  refine k p _ _ B1 (F2.ownsT (t := tH w) (n := fun q => n1 q ∨ q = p) E2 F.sub F.mh ⟨p, vs, rfl, .inr rfl, upd_same, w.mono (Same.refl _) (fun q u nq hu => ?_) (fun q nq => ⟨.inl nq, fun e => np (by rw [← e]; exact nq)⟩) k1⟩)
  rw [upd_ne fun e => np (by rw [← e]; exact nq)]; exact hu
/-! ### what is owned is changed no more -/
open Classical in
noncomputable def fz (B H : Hp) (o : Addr → Prop) : Hp := fun p => if o p then H p else B p
theorem fz_in {B H : Hp} {o : Addr → Prop} {p : Addr} (h : o p) : fz B H o p = H p := by unfold fz; rw [if_pos h]
theorem fz_out {B H : Hp} {o : Addr → Prop} {p : Addr} (h : ¬ o p) : fz B H o p = B p := by unfold fz; rw [if_neg h]
theorem fz_same {B H : Hp} {o : Addr → Prop} (h : ∀ p, o p → B p = none) : Same B (fz B H o) := fun p u e => by
  rw [fz_out fun z => by rw [h p z] at e; cases e]; exact e
theorem fz_mono {B H : Hp} {o o' : Addr → Prop} (n : ∀ p, o p → o' p) (h : ∀ p, o' p → B p = none) : Same (fz B H o) (fz B H o') := fun p u e => by
  by_cases z : o p
  · rw [fz_in z] at e; rw [fz_in (n p z)]; exact e
  · rw [fz_out z] at e
    rw [fz_out fun z => by rw [h p z] at e; cases e]; exact e
class Fz {α : Type} (t : Tr α) (r : outParam (Rp α)) : Prop where
  fz : ∀ {B H o v a}, (∀ p, o p → B p = none) → t.ok B H o v a → r.rel (G.fz B H o) v a
class FzW {α : Type} (w : Tw α) (r : outParam (Rw α)) : Prop where
  fz : ∀ {B H o vs a}, (∀ p, o p → B p = none) → w.ok B H o vs a → r.rel (G.fz B H o) vs a
instance (r : Rp α) : Fz (tI r) r := ⟨fun h k => r.mono (fz_same h) k⟩
instance (c : Cl α) : Fz (tK c) (rOb c) := ⟨fun h ⟨p, u, e, op, hu, k⟩ => ⟨p, u, e, by rw [fz_in op]; exact hu, c.mono (fz_same h) k⟩⟩
instance (t : Tr α) (r : Rp α) [z : Fz t r] : FzW (tw1 t) (w1 r) := ⟨fun h ⟨v, e, k⟩ => ⟨v, e, z.fz h k⟩⟩
instance (t : Tr α) (r : Rp α) (w : Tw β) (s : Rw β) [z : Fz t r] [zw : FzW w s] : FzW (twC t w) (wC r s) := ⟨fun {B H o vs a} h k => by
  obtain ⟨v, vs', o1, o2, e, h1, h2, _, k1, k2⟩ := k
  exact ⟨v, vs', e, r.mono (fz_mono h1 h) (z.fz (fun p q => h p (h1 p q)) k1), s.mono (fz_mono h2 h) (zw.fz (fun p q => h p (h2 p q)) k2)⟩⟩
instance (w : Tw α) (s : Rw α) [zw : FzW w s] : Fz (tH w) (rHls s) := ⟨fun {B H o v a} h k => by
  obtain ⟨p, vs, e, op, hp, kw⟩ := k
  exact ⟨p, _, e, by rw [fz_in op]; exact hp, vs, rfl, s.mono (fz_mono (fun q z => z.1) h) (zw.fz (fun q z => h q z.1) kw)⟩⟩
theorem Frm.freezeT {σ : L2.St} {H B : Hp} [z : Fz t r] (F : Frm A σ H B Γ) (e : Γ[i]? = some (.tre v t a)) (hm : ∀ ow, Own A σ H B Γ ow → ∀ p, ow i p → ¬ A.m p) : ∃ B', Same B B' ∧ Frm A σ H B' (Γ.set i (.imm r a)) := by
  obtain ⟨ow, W⟩ := id F.own
  have hb : ∀ p, ow i p → B p = none := fun p h => (W.ht i p h).1
  have s := fz_same (H := H) hb
  have so := W.so i _ e
  have k := z.fz hb so.2
  refine ⟨fz B H (ow i), s, ⟨⟨fun p u q => ?_, fun p u q => s p u (F.b0 p u q), F.keep, fun p n q => ?_, F.alive, F.sub, F.mh, A.up _ _ s F.ph, F.sz⟩, by rw [List.length_set]; exact F.len, fun j q => if j = i then False else ow j q, fun j s' ej => ?_, fun j l q hj hl => ?_, fun j q hj => ?_⟩⟩
  · by_cases h : ow i p
    · rw [fz_in h] at q; exact q
    · rw [fz_out h] at q; exact F.bh p u q
  · have h : ¬ ow i p := fun h => by
      rcases (W.ht i p h).2.2 with m | m
      · exact n m
      · exact hm ow W p h m
    rw [fz_out h]; exact F.out p n q
  · rcases getset ej with ⟨rfl, rfl, _⟩ | ⟨ne, ej⟩
    · exact ⟨v, so.1, k⟩
    · exact slo_mono (W.so j s' ej) rfl s (fun _ _ _ z => z) fun q z => by rw [if_neg (Ne.symm ne)]; exact z
  · by_cases h1 : j = i
    · rw [if_pos h1] at hj; exact hj.elim
    · by_cases h2 : l = i
      · rw [if_pos h2] at hl; exact hl.elim
      · rw [if_neg h1] at hj; rw [if_neg h2] at hl; exact W.dj j l q hj hl
  · by_cases h1 : j = i
    · rw [if_pos h1] at hj; exact hj.elim
    · rw [if_neg h1] at hj
      have h := W.ht j q hj
      exact ⟨by rw [fz_out fun z => h1 (W.dj j i q hj z)]; exact h.1, h.2⟩
theorem nx_freezeT {P : L2.St → Hp → Prop} (i : Nat) [z : Fz t r] (e : Γ[i]? = some (.tre v t a)) (hm : ∀ q, ¬ A.m q) (h : Nx A P (Γ.set i (.imm r a))) : Nx A P Γ := fun σ H B F => by
  obtain ⟨B', _, F'⟩ := F.freezeT e fun _ _ p _ => hm p
  exact h σ H B' F'
theorem nx_freezeTS {P : L2.St → Hp → Prop} {γ : Type} {cc : Cl γ} {st : γ} {p0 : Addr} {j : Nat} (i : Nat) [z : Fz t r] (e : Γ[i]? = some (.tre v t a)) (ej : Γ[j]? = some (.cel p0 cc st)) (ne : i ≠ j) (hm : ∀ q, A.m q → q = p0) (h : Nx A P (Γ.set i (.imm r a))) : Nx A P Γ := fun σ H B F => by
  obtain ⟨B', _, F'⟩ := F.freezeT e fun ow W p o m => ne (W.dj i j p o (by rw [hm p m]; exact W.cel (by rw [ej]; rfl)))
  exact h σ H B' F'
end
/-! ### more words of the frame's own lists -/
section
variable {α β γ δ ρ : Type} {r ra : Rp α} {te ta tj : TE} {A : Amb} {D : Ends} {Γ Γ1 : List Sl} {i k : Nat} {K : PySem.W.Frag} {u : TS} {p : Addr} {xs : List α}
theorem sq_rev (hi : Γ[i]? = some (.cel p (cLst r) xs)) (n : Nx A (u D) (Γ.set i (.cel p (cLst r) xs.reverse))) : Nx A (tSeq (tDrop (tBM0 K "list" rReverse (tVar i))) u D) Γ := fun σ H B F => by
  obtain ⟨e1, vs, hp, kp⟩ := cel_lst F hi
  refine ⟨_, e1, .inl ⟨rfl, vs, SqL.of hp⟩, p, vs, rfl, rfl, hp, n σ _ B (F.write hi (c' := cLst r) (o' := .lst vs.reverse) ⟨_, rfl, Paired.revR kp⟩ ?_)⟩
  show vs.reverse.length ≤ sizeLine
  rw [List.length_reverse]; exact F.sz _ _ hp
theorem sq_clr (hi : Γ[i]? = some (.cel p (cLst r) xs)) (n : Nx A (u D) (Γ.set i (.cel p (cLst r) []))) : Nx A (tSeq (tDrop (tBM0 K "list" rClear (tVar i))) u D) Γ := fun σ H B F => by
  obtain ⟨e1, vs, hp, kp⟩ := cel_lst F hi
  exact ⟨_, e1, .inl ⟨rfl, vs, SqL.of hp⟩, p, vs, rfl, rfl, hp, n σ _ B (F.write hi (c' := cLst r) (o' := .lst []) ⟨_, rfl, .nil⟩ (Nat.zero_le _))⟩
end
end G
namespace G
open PySem PySem.Spec PyProof.Rows L2
section
variable {α β γ δ ρ : Type} {r ra : Rp α} {w : Tw α} {te ta tj : TE} {tn : TA} {A : Amb} {D : Ends} {Γ Γ1 : List Sl} {i k : Nat} {K : PySem.W.Frag} {u : TS} {v : V} {a a' : α} {P : L2.St → Hp → Prop} {t : Tr α}
theorem en_to (h : EvN w tn Γ Γ1 a) (e : a = a') : EvN w tn Γ Γ1 a' := e ▸ h
theorem nx_tre (h : Γ[i]? = some (.tre v t a)) (e : a = a') (k : Nx A P (Γ.set i (.tre v t a'))) : Nx A P Γ := by
  subst e
  rw [set_same h] at k; exact k
/-- x.pop(j), what is left -/
def pyPopAt (xs : List δ) (j : Int) : Option (List δ) := match seqIndex? j xs.length with
  | some n => if n < xs.length ∧ -(2 ^ 63) ≤ j ∧ j < 2 ^ 63 then some (xs.eraseIdx n) else none
  | none => none
theorem sq_popTS' {rd : Rp δ} {f : α → List δ} {g : α → List δ → α} {j : Int} {ys : List δ} (hi : Γ[i]? = some (.tre v (tH w) a)) (s : AccT w k (tK (cLst rd)) f g) (hj : EvK rInt tj Γ j) (e : pyPopAt (f a) j = some ys) (nx : Nx A (u D) (Γ.set i (.tre v (tH w) (g a ys)))) :
    Nx A (tSeq (tDrop (tBM K "list" rPopAt (tOp (rIxL K) (tVar i) (tC (.int (k : Int)))) (tCons tj tNil))) u D) Γ := by
  unfold pyPopAt at e
  split at e
  · rename_i n hn
    split at e
    · rename_i hh
      cases e
      exact sq_popTS hi s hj hn hh.1 hh.2.1 hh.2.2 nx
    · cases e
  · cases e
theorem ek_mod {j l m : Int} {tb : TE} (ha : EvK rInt ta Γ j) (hb : EvK rInt tb Γ l) (e : pyMod j l = some m) : EvK rInt (tOp (rI (fun _ j => 0 < j) fun i j => .int (i % j)) ta tb) Γ m := by
  unfold pyMod at e; split at e
  · rename_i h; cases e; exact ek_I (g := fun i j => i % j) ha hb h
  · cases e
end
end G
namespace G
open PySem PySem.Spec PyProof.Rows L2
theorem Post.hide {A : Amb} {H B : Hp} {q : Addr} {o : HO} (P : Post A H B) (h0 : A.H0 q = none) (hq : H q = some o) (hb : B q = none) : Post (A.add q o) H B := by
  refine ⟨P.bh, P.b0, fun b u m e => ?_, fun b n z => ?_, fun b n => ?_, fun b u e => ?_, fun b m => ?_, P.ph, P.sz⟩
  · by_cases h : b = q
    · subst h
      have e' : upd A.H0 b o b = some u := e
      rw [upd_same] at e'; cases e'; exact hq
    · have e' : upd A.H0 q o b = some u := e
      rw [upd_ne h] at e'; exact P.keep b u m e'
  · by_cases h : b = q
    · rw [h]; exact hb
    · have n' : upd A.H0 q o b ≠ none := n
      rw [upd_ne h] at n'; exact P.out b n' z
  · by_cases h : b = q
    · rw [h, hq]; simp
    · have n' : upd A.H0 q o b ≠ none := n
      rw [upd_ne h] at n'; exact P.alive b n'
  · have e0 := P.sub b u e
    show upd A.H0 q o b = some u
    rw [upd_ne (ne_of_none e0 h0)]; exact e0
  · have m0 := P.mh b m
    by_cases h : b = q
    · rw [h] at m0; exact absurd h0 m0
    · show upd A.H0 q o b ≠ none
      rw [upd_ne h]; exact m0
class NoLC {α : Type} (c : Cl α) : Prop where
  no : ∀ {B : Hp} {p : Addr} {vs : List V} {o : HO} {a : α}, B p = some (.lst vs) → c.ok B o a → c.ok (ers B p) o a
theorem paired_noL {α : Type} {r : Rp α} [NoL r] {B : Hp} {p : Addr} {vs : List V} (hp : B p = some (.lst vs)) : ∀ {us : List V} {xs : List α}, Paired (r.rel B) us xs → Paired (r.rel (ers B p)) us xs
  | _, _, .nil => .nil
  | _, _, .cons h t => .cons (NoL.no hp h) (paired_noL hp t)
instance {α : Type} (r : Rp α) [NoL r] : NoLC (cLst r) := ⟨fun hp ⟨us, e, k⟩ => ⟨us, e, paired_noL hp k⟩⟩
instance {α : Type} (r : Rp α) [NoL r] : NoLC (cTpl r) := ⟨fun hp ⟨us, e, k⟩ => ⟨us, e, paired_noL hp k⟩⟩
/-- the frame's own list is read while a new object is made -/
theorem ec_frz {α β : Type} {r : Rp α} {c : Cl β} {te : TE} {Γ : List Sl} {i : Nat} {p : Addr} {xs : List α} {b : β} [NoLC c] (hi : Γ[i]? = some (.cel p (cLst r) xs)) (h : EvC c te (frz Γ i (.imm (rLst r) xs)) (frz Γ i (.imm (rLst r) xs)) b) : EvC c te Γ Γ b := fun A σ H B F Q q => by
  obtain ⟨vs, hBp, _, F'⟩ := frz_in F hi
  refine h _ σ H _ F' _ fun q0 o H2 B2 F2 n2 s2 k2 => ?_
  have n2' : H q0 = none := n2
  obtain ⟨h1, h2, h3⟩ := frz_out F hBp (F2.drop n2 F'.sub F'.mh) s2
  have hq : H2 q0 = some o := F2.hid n2 fun z => z
  have hb : ers B2 p q0 = none := by
    by_cases e : q0 = p
    · rw [e]; exact ers_self
    · rw [ers_ne e]; exact F2.hidB n2 F'.sub
  have P3 := h3.post.hide (F.H0none n2') hq hb
  refine q q0 o H2 _ (F.move P3 h2 fun b hot => ?_) (F.H0none n2') h2 (NoLC.no h1 k2)
  have hne : b ≠ q0 := fun e => hot.2.1 (by rw [e]; exact n2')
  refine ⟨?_, ?_, fun u e => ?_⟩
  · by_cases e : b = p
    · rw [e]; exact ers_self
    · rw [ers_ne e]
      refine F2.out b ?_ (by show upd B p (.lst vs) b = none; rw [upd_ne e]; exact hot.1)
      show upd H q0 o b ≠ none
      rw [upd_ne hne]; exact hot.2.1
  · rcases hot.2.2 with m | m
    · left; show upd A.H0 q0 o b = none; rw [upd_ne hne]; exact m
    · exact .inr m
  · exact F2.keep b u (fun z => z) (by show upd H q0 o b = some u; rw [upd_ne hne]; exact e)
end G
namespace G
open PySem PySem.Spec PyProof.Rows L2
theorem nx_freezeC {α : Type} {c : Cl α} {a : α} {p : Addr} {A : Amb} {Γ : List Sl} {P : L2.St → Hp → Prop} (i : Nat) (e : Γ[i]? = some (.cel p c a)) (hm : ∀ q, ¬ A.m q) (h : Nx A P (Γ.set i (.imm (rOb c) a))) : Nx A P Γ := nx_freeze i (hm p) e h
theorem nx_freezeCS {α γ : Type} {c : Cl α} {a : α} {p p0 : Addr} {cc : Cl γ} {st : γ} {j : Nat} {A : Amb} {Γ : List Sl} {P : L2.St → Hp → Prop} (i : Nat) (e : Γ[i]? = some (.cel p c a)) (ej : Γ[j]? = some (.cel p0 cc st)) (ne : i ≠ j) (hm : ∀ q, A.m q → q = p0) (h : Nx A P (Γ.set i (.imm (rOb c) a))) : Nx A P Γ := fun σ H B F => by
  have hp : ¬ A.m p := fun z => ne (F.ds i j p (by rw [e]; rfl) (by rw [ej, ← hm p z]; rfl))
  exact nx_freeze i hp e h σ H B F
end G


namespace Law
open PySem L2 G
def m_between (low0 : (Option Int)) (high0 : (Option Int)) (number0 : Int) : Option Bool := letO (low0.isNone) fun c3 => bindO (iteO c3 (some true) (bindO (low0) fun g1 => some (decide (g1 ≤ number0)))) fun b2 => letO (b2) fun c8 => bindO (iteO c8 (letO (high0.isNone) fun c6 => bindO (iteO c6 (some true) (bindO (high0) fun g4 => some (decide (number0 ≤ g4)))) fun b5 => some b5) (some false)) fun b7 => some b7
def m_one_form_c1 (low0 : (Option Int)) (high0 : (Option Int)) (number1 : Int) : Option (Option Int) := bindO (m_between low0 high0 number1) fun v2 => letO (v2) fun c3 => iteO c3 (some (some number1)) (some (none))
def m_one_form_b1 (s8 : ((Option Int) × Int)) : Option (Step ((Option Int) × (Option Int) × (List Int)) ((Option Int) × Int)) := bindO (s8.1) fun g12 => letO ((some (g12 + (1 : Int)))) fun low13 => letO ((s8.2 + (1 : Int))) fun start14 => some (.nx (low13, start14))
def m_one_form_w1 (gaps6 : (List Int)) (s8 : ((Option Int) × Int)) : Option Bool := letO ((decide (s8.2 < (gaps6.length : Int)))) fun c11 => bindO (iteO c11 (bindO (atI gaps6 s8.2) fun y9 => some (decide ((some y9) = s8.1))) (some false)) fun b10 => some b10
def m_one_form_b2 (s18 : ((Option Int) × Int)) : Option (Step ((Option Int) × (Option Int) × (List Int)) ((Option Int) × Int)) := bindO (s18.1) fun g22 => letO ((some (g22 - (1 : Int)))) fun high23 => letO ((s18.2 - (1 : Int))) fun end24 => some (.nx (high23, end24))
def m_one_form_w2 (gaps6 : (List Int)) (e16 : ((Option Int) × Int)) (s18 : ((Option Int) × Int)) : Option Bool := letO ((decide (e16.2 < s18.2))) fun c21 => bindO (iteO c21 (bindO (atI gaps6 (s18.2 - (1 : Int))) fun y19 => some (decide ((some y19) = s18.1))) (some false)) fun b20 => some b20
def m_one_form (low0 : (Option Int)) (high0 : (Option Int)) (without0 : (List Int)) : Option ((Option Int) × (Option Int) × (List Int)) := bindO (compL (m_one_form_c1 low0 high0) without0) fun l4 => bindO (pySS l4) fun l5 => letO (l5) fun gaps6 => letO ((0 : Int)) fun start7 => bindO (whL (m_one_form_w1 gaps6) (m_one_form_b1) 1000000 (low0, start7)) fun R15 => stepO R15 fun e16 => letO ((gaps6.length : Int)) fun end17 => bindO (whL (m_one_form_w2 gaps6 e16) (m_one_form_b2) 1000000 (high0, end17)) fun R25 => stepO R25 fun e26 => letO (e16.1.isSome) fun c32 => bindO (iteO c32 (letO (e26.1.isSome) fun c30 => bindO (iteO c30 (bindO (e16.1) fun g27 => bindO (e26.1) fun g28 => some (decide (g28 < g27))) (some false)) fun b29 => some b29) (some false)) fun b31 => letO (b31) fun c33 => iteO c33 (some ((some (1 : Int)), (some (0 : Int)), [])) (some (e16.1, e26.1, (cut gaps6 (some e16.2) (some e26.2))))
def m_one_form_Vk_c1 (low0 : (Option Int)) (high0 : (Option Int)) (number1 : Int) : Option (Option Int) := bindO (m_between low0 high0 number1) fun v2 => letO (v2) fun c3 => iteO c3 (some (some number1)) (some (none))
def m_one_form_Vk_b1 (s8 : ((Option Int) × Int)) : Option (Step ((Option Int) × (Option Int) × (List Int)) ((Option Int) × Int)) := bindO (s8.1) fun g12 => letO ((some (g12 + (1 : Int)))) fun low13 => letO ((s8.2 + (1 : Int))) fun start14 => some (.nx (low13, start14))
def m_one_form_Vk_w1 (gaps6 : (List Int)) (s8 : ((Option Int) × Int)) : Option Bool := letO ((decide (s8.2 < (gaps6.length : Int)))) fun c11 => bindO (iteO c11 (bindO (atI gaps6 s8.2) fun y9 => some (decide ((some y9) = s8.1))) (some false)) fun b10 => some b10
def m_one_form_Vk_b2 (s18 : ((Option Int) × Int)) : Option (Step ((Option Int) × (Option Int) × (List Int)) ((Option Int) × Int)) := bindO (s18.1) fun g22 => letO ((some (g22 - (1 : Int)))) fun high23 => letO ((s18.2 - (1 : Int))) fun end24 => some (.nx (high23, end24))
def m_one_form_Vk_w2 (gaps6 : (List Int)) (e16 : ((Option Int) × Int)) (s18 : ((Option Int) × Int)) : Option Bool := letO ((decide (e16.2 < s18.2))) fun c21 => bindO (iteO c21 (bindO (atI gaps6 (s18.2 - (1 : Int))) fun y19 => some (decide ((some y19) = s18.1))) (some false)) fun b20 => some b20
def m_one_form_Vk (low0 : (Option Int)) (high0 : (Option Int)) (without0 : (List Int)) : Option ((Option Int) × (Option Int) × (List Int)) := bindO (compL (m_one_form_Vk_c1 low0 high0) without0) fun l4 => bindO (pySS l4) fun l5 => letO (l5) fun gaps6 => letO ((0 : Int)) fun start7 => bindO (whL (m_one_form_Vk_w1 gaps6) (m_one_form_Vk_b1) 1000000 (low0, start7)) fun R15 => stepO R15 fun e16 => letO ((gaps6.length : Int)) fun end17 => bindO (whL (m_one_form_Vk_w2 gaps6 e16) (m_one_form_Vk_b2) 1000000 (high0, end17)) fun R25 => stepO R25 fun e26 => letO (e16.1.isSome) fun c32 => bindO (iteO c32 (letO (e26.1.isSome) fun c30 => bindO (iteO c30 (bindO (e16.1) fun g27 => bindO (e26.1) fun g28 => some (decide (g28 < g27))) (some false)) fun b29 => some b29) (some false)) fun b31 => letO (b31) fun c33 => iteO c33 (some ((some (1 : Int)), (some (0 : Int)), [])) (some (e16.1, e26.1, (cut gaps6 (some e16.2) (some e26.2))))
def m_size_of (low0 : (Option Int)) (high0 : (Option Int)) (without0 : (List Int)) : Option (Option Int) := letO ((low0.isNone || high0.isNone)) fun c1 => iteO c1 (some (none : Option Int)) (bindO (high0) fun g2 => bindO (low0) fun g3 => some (some (((g2 - g3) + (1 : Int)) - (without0.length : Int))))
def m_Region___init_c1 (number8 : Int) : Option (Option (Int × Bool)) := some (some (number8, true))
def m_Region___init (low0 : (Option Int)) (high0 : (Option Int)) (without0 : (List Int)) : Option ((Option Int) × (Option Int) × (List Int) × (Option Int) × (Option Int) × (List (Int × Bool))) := bindO (m_one_form low0 high0 without0) fun v1 => letO (v1) fun u2 => bindO (m_size_of ((u2.1, u2.2.1, u2.2.2).1) ((u2.1, u2.2.1, u2.2.2).2.1) ((u2.1, u2.2.1, u2.2.2).2.2)) fun v3 => letO (v3) fun size4 => letO ((decide ((u2.1, u2.2.1, u2.2.2, size4).2.2.2 = (some (1 : Int))))) fun c6 => bindO (iteO c6 (some ((u2.1, u2.2.1, u2.2.2, size4).1)) (some (none : Option Int))) fun i5 => letO (i5) fun value7 => bindO (compD (m_Region___init_c1) ((u2.1, u2.2.1, u2.2.2, size4, value7).2.2.1) []) fun d9 => letO (d9) fun gaps10 => some (u2.1, u2.2.1, u2.2.2, size4, value7, gaps10)
def m_Region___init___Vk_c1 (number8 : Int) : Option (Option (Int × Bool)) := some (some (number8, true))
def m_Region___init___Vk (low0 : (Option Int)) (high0 : (Option Int)) (without0 : (List Int)) : Option ((Option Int) × (Option Int) × (List Int) × (Option Int) × (Option Int) × (List (Int × Bool))) := bindO (m_one_form_Vk low0 high0 without0) fun v1 => letO (v1) fun u2 => bindO (m_size_of ((u2.1, u2.2.1, u2.2.2).1) ((u2.1, u2.2.1, u2.2.2).2.1) ((u2.1, u2.2.1, u2.2.2).2.2)) fun v3 => letO (v3) fun size4 => letO ((decide ((u2.1, u2.2.1, u2.2.2, size4).2.2.2 = (some (1 : Int))))) fun c6 => bindO (iteO c6 (some ((u2.1, u2.2.1, u2.2.2, size4).1)) (some (none : Option Int))) fun i5 => letO (i5) fun value7 => bindO (compD (m_Region___init___Vk_c1) ((u2.1, u2.2.1, u2.2.2, size4, value7).2.2.1) []) fun d9 => letO (d9) fun gaps10 => some (u2.1, u2.2.1, u2.2.2, size4, value7, gaps10)
def m_Region___init___Vt_c1 (number8 : Int) : Option (Option (Int × Bool)) := some (some (number8, true))
def m_Region___init___Vt (low0 : (Option Int)) (high0 : (Option Int)) (without0 : (List Int)) : Option ((Option Int) × (Option Int) × (List Int) × (Option Int) × (Option Int) × (List (Int × Bool))) := bindO (m_one_form_Vk low0 high0 without0) fun v1 => letO (v1) fun u2 => bindO (m_size_of ((u2.1, u2.2.1, u2.2.2).1) ((u2.1, u2.2.1, u2.2.2).2.1) ((u2.1, u2.2.1, u2.2.2).2.2)) fun v3 => letO (v3) fun size4 => letO ((decide ((u2.1, u2.2.1, u2.2.2, size4).2.2.2 = (some (1 : Int))))) fun c6 => bindO (iteO c6 (some ((u2.1, u2.2.1, u2.2.2, size4).1)) (some (none : Option Int))) fun i5 => letO (i5) fun value7 => bindO (compD (m_Region___init___Vt_c1) ((u2.1, u2.2.1, u2.2.2, size4, value7).2.2.1) []) fun d9 => letO (d9) fun gaps10 => some (u2.1, u2.2.1, u2.2.2, size4, value7, gaps10)
def m_one_form_Vt_c1 (low0 : (Option Int)) (high0 : (Option Int)) (number1 : Int) : Option (Option Int) := bindO (m_between low0 high0 number1) fun v2 => letO (v2) fun c3 => iteO c3 (some (some number1)) (some (none))
def m_one_form_Vt_b1 (s8 : ((Option Int) × Int)) : Option (Step ((Option Int) × (Option Int) × (List Int)) ((Option Int) × Int)) := bindO (s8.1) fun g12 => letO ((some (g12 + (1 : Int)))) fun low13 => letO ((s8.2 + (1 : Int))) fun start14 => some (.nx (low13, start14))
def m_one_form_Vt_w1 (gaps6 : (List Int)) (s8 : ((Option Int) × Int)) : Option Bool := letO ((decide (s8.2 < (gaps6.length : Int)))) fun c11 => bindO (iteO c11 (bindO (atI gaps6 s8.2) fun y9 => some (decide ((some y9) = s8.1))) (some false)) fun b10 => some b10
def m_one_form_Vt_b2 (s18 : ((Option Int) × Int)) : Option (Step ((Option Int) × (Option Int) × (List Int)) ((Option Int) × Int)) := bindO (s18.1) fun g22 => letO ((some (g22 - (1 : Int)))) fun high23 => letO ((s18.2 - (1 : Int))) fun end24 => some (.nx (high23, end24))
def m_one_form_Vt_w2 (gaps6 : (List Int)) (e16 : ((Option Int) × Int)) (s18 : ((Option Int) × Int)) : Option Bool := letO ((decide (e16.2 < s18.2))) fun c21 => bindO (iteO c21 (bindO (atI gaps6 (s18.2 - (1 : Int))) fun y19 => some (decide ((some y19) = s18.1))) (some false)) fun b20 => some b20
def m_one_form_Vt (low0 : (Option Int)) (high0 : (Option Int)) (without0 : (List Int)) : Option ((Option Int) × (Option Int) × (List Int)) := bindO (compL (m_one_form_Vt_c1 low0 high0) without0) fun l4 => bindO (pySS l4) fun l5 => letO (l5) fun gaps6 => letO ((0 : Int)) fun start7 => bindO (whL (m_one_form_Vt_w1 gaps6) (m_one_form_Vt_b1) 1000000 (low0, start7)) fun R15 => stepO R15 fun e16 => letO ((gaps6.length : Int)) fun end17 => bindO (whL (m_one_form_Vt_w2 gaps6 e16) (m_one_form_Vt_b2) 1000000 (high0, end17)) fun R25 => stepO R25 fun e26 => letO (e16.1.isSome) fun c32 => bindO (iteO c32 (letO (e26.1.isSome) fun c30 => bindO (iteO c30 (bindO (e16.1) fun g27 => bindO (e26.1) fun g28 => some (decide (g28 < g27))) (some false)) fun b29 => some b29) (some false)) fun b31 => letO (b31) fun c33 => iteO c33 (some ((some (1 : Int)), (some (0 : Int)), [])) (some (e16.1, e26.1, (cut gaps6 (some e16.2) (some e26.2))))
def m_meet_c1 (region1 : ((Option Int) × (Option Int) × (List Int) × (Option Int) × (Option Int) × (List (Int × Bool)))) : Option (Option Int) := letO (region1.1.isSome) fun c3 => iteO c3 (bindO (region1.1) fun g2 => some (some g2)) (some (none))
def m_meet_c2 (region6 : ((Option Int) × (Option Int) × (List Int) × (Option Int) × (Option Int) × (List (Int × Bool)))) : Option (Option Int) := letO (region6.2.1.isSome) fun c8 => iteO c8 (bindO (region6.2.1) fun g7 => some (some g7)) (some (none))
def m_meet_ci3 (region11 : ((Option Int) × (Option Int) × (List Int) × (Option Int) × (Option Int) × (List (Int × Bool)))) : Option (List Int) := some region11.2.2.1
def m_meet_c4 (region11 : ((Option Int) × (Option Int) × (List Int) × (Option Int) × (Option Int) × (List (Int × Bool)))) (number12 : Int) : Option (Option Int) := some (some number12)
def m_meet (regions0 : (List ((Option Int) × (Option Int) × (List Int) × (Option Int) × (Option Int) × (List (Int × Bool))))) : Option ((Option Int) × (Option Int) × (List Int) × (Option Int) × (Option Int) × (List (Int × Bool))) := bindO (compL (m_meet_c1) regions0) fun l4 => letO (l4) fun lows5 => bindO (compL (m_meet_c2) regions0) fun l9 => letO (l9) fun highs10 => bindO (comp2 (m_meet_ci3) (m_meet_c4) regions0) fun l13 => letO (l13) fun without14 => bindO (m_Region___init (pyMaxN lows5) (pyMinN highs10) without14) fun o15 => some o15
def m_Region___eq (self0 : ((Option Int) × (Option Int) × (List Int) × (Option Int) × (Option Int) × (List (Int × Bool)))) (other0 : ((Option Int) × (Option Int) × (List Int) × (Option Int) × (Option Int) × (List (Int × Bool)))) : Option Bool := letO (true) fun c7 => bindO (iteO c7 (letO ((decide (self0.1 = other0.1))) fun c5 => bindO (iteO c5 (letO ((decide (self0.2.1 = other0.2.1))) fun c3 => bindO (iteO c3 (bindO (pyEq ((dTpl PyData.int) self0.2.2.1) ((dTpl PyData.int) other0.2.2.1)) fun q1 => some q1) (some false)) fun b2 => some b2) (some false)) fun b4 => some b4) (some false)) fun b6 => some b6
def m_Region___eq___Vt (self0 : ((Option Int) × (Option Int) × (List Int) × (Option Int) × (Option Int) × (List (Int × Bool)))) (other0 : ((Option Int) × (Option Int))) : Option Bool := some false
def m_Region___eq___Vn (self0 : ((Option Int) × (Option Int) × (List Int) × (Option Int) × (Option Int) × (List (Int × Bool)))) (other0 : Unit) : Option Bool := some false
def m_Region___eq___Vi (self0 : ((Option Int) × (Option Int) × (List Int) × (Option Int) × (Option Int) × (List (Int × Bool)))) (other0 : Int) : Option Bool := some false
def m_Region___bool (self0 : ((Option Int) × (Option Int) × (List Int) × (Option Int) × (Option Int) × (List (Int × Bool)))) : Option Bool := some (!decide (self0.2.2.2.1 = (some (0 : Int))))
def m_Region_within (self0 : ((Option Int) × (Option Int) × (List Int) × (Option Int) × (Option Int) × (List (Int × Bool)))) (other0 : ((Option Int) × (Option Int) × (List Int) × (Option Int) × (Option Int) × (List (Int × Bool)))) : Option Bool := bindO (m_meet [self0, other0]) fun v1 => bindO (m_Region___eq v1 self0) fun n2 => some n2
def m_l_start (script0 : (List Int)) : Option ((List Int) × Int × Int × Int) := letO ((0 : Int)) fun first1 => letO ((decide ((0 : Int) < (script0.length : Int)))) fun c2 => bindO (iteO c2 (bindO (atI script0 (0 : Int)) fun y4 => letO (y4) fun first5 => some first5) (some first1)) fun j3 => bindO (pyScr script0) fun l6 => some (l6, (1 : Int), j3, (0 : Int))
def m_l_draw (st0 : ((List Int) × Int × Int × Int)) (many0 : Int) : Option (Int × ((List Int) × Int × Int × Int)) := letO ((decide (((10 : Int) ^ ((18 : Int)).toNat) ≤ st0.2.2.1))) fun c1 => iteO c1 (bindO (pyMod st0.2.2.1 many0) fun r2 => letO (r2) fun drawn3 => bindO (pyDiv st0.2.2.1 many0) fun q4 => letO ((st0.1, st0.2.1, q4, st0.2.2.2)) fun z5 => some (drawn3, z5)) (letO ((st0.1, st0.2.1, st0.2.2.1, (st0.2.2.2 + (1 : Int)))) fun z6 => letO ((((z6.2.2.1 % (1000000007 : Int)) + ((69621 : Int) * z6.2.2.2)) + (48271 : Int))) fun seed7 => bindO (pyPow seed7 (17 : Int)) fun w8 => letO ((w8 % (170141183460469231731687303715884105727 : Int))) fun mixed9 => letO ((decide (z6.2.1 < (z6.1.length : Int)))) fun c10 => bindO (iteO c10 (bindO (atI z6.1 z6.2.1) fun y12 => letO ((z6.1, z6.2.1, y12, z6.2.2.2)) fun z13 => letO ((z13.1, (z13.2.1 + (1 : Int)), z13.2.2.1, z13.2.2.2)) fun z14 => some z14) (some z6)) fun j11 => bindO (pyMod (mixed9 / (64 : Int)) many0) fun r15 => some (r15, j11))
def m_l_end (st0 : ((List Int) × Int × Int × Int)) (base_here0 : Int) : Option ((Option Int) × ((List Int) × Int × Int × Int)) := bindO (m_l_draw st0 (4 : Int)) fun p1 => letO ((decide (p1.1 = (0 : Int)))) fun c2 => iteO c2 (some ((none : Option Int), p1.2)) (bindO (m_l_draw p1.2 (13 : Int)) fun p3 => some ((some ((base_here0 + p3.1) - (6 : Int))), p3.2))
def m_l_base (st0 : ((List Int) × Int × Int × Int)) : Option (Int × ((List Int) × Int × Int × Int)) := bindO (m_l_draw st0 (5 : Int)) fun p1 => letO (p1.1) fun kind2 => letO ((decide (kind2 < (3 : Int)))) fun c3 => iteO c3 (some ((0 : Int), p1.2)) (bindO (atI [((10 : Int) ^ ((40 : Int)).toNat), (-((10 : Int) ^ ((40 : Int)).toNat))] (kind2 - (3 : Int))) fun y4 => some (y4, p1.2))
def m_l_parts_c1 (base_here0 : Int) (k7 : Int) (st8 : ((List Int) × Int × Int × Int)) : Option (Option Int × ((List Int) × Int × Int × Int)) := bindO (m_l_draw st8 (17 : Int)) fun p9 => some (some ((base_here0 + p9.1) - (8 : Int)), p9.2)
def m_l_parts (st0 : ((List Int) × Int × Int × Int)) (base_here0 : Int) : Option (((Option Int) × (Option Int) × (List Int)) × ((List Int) × Int × Int × Int)) := bindO (m_l_end st0 base_here0) fun p1 => letO (p1.1) fun least2 => bindO (m_l_end p1.2 base_here0) fun p3 => letO (p3.1) fun most4 => bindO (m_l_draw p3.2 (9 : Int)) fun p5 => bindO (pyRng p5.1) fun l6 => bindO (compS (m_l_parts_c1 base_here0) l6 p5.2) fun l10 => letO (l10.1) fun holes11 => some ((least2, most4, holes11), l10.2)
def m_l_in_part (part0 : ((Option Int) × (Option Int) × (List Int))) (number0 : Int) : Option Bool := letO (part0.1.isSome) fun c3 => bindO (iteO c3 (bindO (part0.1) fun g1 => some (decide (number0 < g1))) (some false)) fun b2 => letO (b2) fun c4 => iteO c4 (some false) (letO (part0.2.1.isSome) fun c7 => bindO (iteO c7 (bindO (part0.2.1) fun g5 => some (decide (g5 < number0))) (some false)) fun b6 => letO (b6) fun c8 => iteO c8 (some false) (some (!decide (number0 ∈ part0.2.2))))
def m_l_window_c1 (number2 : Int) : Option (Option Int) := some (some number2)
def m_l_window (base_here0 : Int) : Option (List Int) := bindO (pyRng3 (base_here0 - (22 : Int)) (base_here0 + (23 : Int))) fun l1 => bindO (compL (m_l_window_c1) l1) fun l3 => some l3
def m_l_moved (st0 : ((List Int) × Int × Int × Int)) (part0 : ((Option Int) × (Option Int) × (List Int))) : Option (((Option Int) × (Option Int) × (List Int)) × ((List Int) × Int × Int × Int)) := bindO (m_l_draw st0 (7 : Int)) fun p1 => letO (p1.1) fun kind2 => bindO (m_l_draw p1.2 (2 : Int)) fun p3 => bindO (atI [(-(1 : Int)), (1 : Int)] p3.1) fun y4 => letO (y4) fun step5 => bindO (m_l_draw p3.2 (17 : Int)) fun p6 => letO (p6.1) fun spot7 => letO ((part0.1, part0.2.1, part0.2.2)) fun changed8 => letO ((decide (kind2 < (2 : Int)))) fun c11 => bindO (iteO c11 (bindO (pick2 kind2 changed8.1 changed8.2.1) fun y9 => some y9.isSome) (some false)) fun b10 => letO (b10) fun c12 => bindO (iteO c12 (bindO (pick2 kind2 changed8.1 changed8.2.1) fun y14 => bindO (y14) fun g15 => bindO (pick2 kind2 ((some (g15 + step5)), changed8.2.1, changed8.2.2) (changed8.1, (some (g15 + step5)), changed8.2.2)) fun z16 => some z16) (some changed8)) fun j13 => letO (((decide (kind2 = (2 : Int))) || (decide (kind2 = (3 : Int))))) fun c17 => bindO (iteO c17 (bindO (pick2 (kind2 - 2) ((none : Option Int), j13.2.1, j13.2.2) (j13.1, (none : Option Int), j13.2.2)) fun z19 => some z19) (some j13)) fun j18 => letO (((decide (kind2 = (4 : Int))) && (decide ((0 : Int) < (j18.2.2.length : Int))))) fun c20 => bindO (iteO c20 (bindO (pyMod spot7 (j18.2.2.length : Int)) fun y22 => bindO (pyPopAt j18.2.2 y22) fun l23 => letO ((j18.1, j18.2.1, l23)) fun z24 => some z24) (some j18)) fun j21 => some (j21, p6.2)
def m_l_spelled (st0 : ((List Int) × Int × Int × Int)) (part0 : ((Option Int) × (Option Int) × (List Int))) (base_here0 : Int) : Option (((Option Int) × (Option Int) × (List Int)) × ((List Int) × Int × Int × Int)) := letO (part0.2.2) fun holes1 => letO (holes1.reverse) fun holes2 => bindO (pyCat holes2 part0.2.2) fun l3 => letO (l3) fun holes4 => letO (part0.1.isSome) fun c5 => bindO (iteO c5 (bindO (part0.1) fun g7 => bindO (m_l_draw st0 (5 : Int)) fun p8 => bindO (pyApp holes4 ((g7 - (1 : Int)) - p8.1)) fun holes9 => some (holes9, p8.2)) (some (holes4, st0))) fun j6 => letO (part0.2.1.isSome) fun c10 => bindO (iteO c10 (bindO (part0.2.1) fun g12 => bindO (m_l_draw j6.2 (5 : Int)) fun p13 => bindO (pyApp j6.1 ((g12 + (1 : Int)) + p13.1)) fun holes14 => some (holes14, p13.2)) (some (j6.1, j6.2))) fun j11 => some ((part0.1, part0.2.1, j11.1), j11.2)
def m_l_second (st0 : ((List Int) × Int × Int × Int)) (part0 : ((Option Int) × (Option Int) × (List Int))) (base_here0 : Int) : Option (((Option Int) × (Option Int) × (List Int)) × ((List Int) × Int × Int × Int)) := bindO (m_l_draw st0 (6 : Int)) fun p1 => letO (p1.1) fun kind2 => letO ((decide (kind2 < (3 : Int)))) fun c3 => iteO c3 (bindO (m_l_parts p1.2 base_here0) fun p4 => some (p4.1, p4.2)) (letO ((decide (kind2 = (3 : Int)))) fun c5 => iteO c5 (bindO (m_l_spelled p1.2 part0 base_here0) fun p6 => some (p6.1, p6.2)) (letO ((decide (kind2 = (4 : Int)))) fun c7 => iteO c7 (bindO (m_l_draw p1.2 (17 : Int)) fun p8 => bindO (pyCat part0.2.2 [((base_here0 + p8.1) - (8 : Int))]) fun l9 => some ((part0.1, part0.2.1, l9), p8.2)) (bindO (m_l_moved p1.2 part0) fun p10 => some (p10.1, p10.2))))
def m_l_within_c1 (one0 : ((Option Int) × (Option Int) × (List Int))) (two0 : ((Option Int) × (Option Int) × (List Int))) (n2 : Int) : Option (Option Int) := bindO (m_l_in_part one0 n2) fun v3 => letO (v3) fun c6 => bindO (iteO c6 (bindO (m_l_in_part two0 n2) fun v4 => some (!v4)) (some false)) fun b5 => letO (b5) fun c7 => iteO c7 (some (some n2)) (some (none))
def m_l_within (one0 : ((Option Int) × (Option Int) × (List Int))) (two0 : ((Option Int) × (Option Int) × (List Int))) (base_here0 : Int) : Option Bool := bindO (m_l_window base_here0) fun v1 => bindO (compL (m_l_within_c1 one0 two0) v1) fun l8 => bindO (pyEq ((dLst PyData.int) l8) ((dHls dw0) ())) fun q9 => some q9
def m_l_told (actual0 : Bool) (expected0 : Bool) : Option Bool := some (true && (decide (actual0 = expected0)))
def m_law (script0 : (List Int)) : Option Bool := bindO (m_l_start script0) fun v1 => letO (v1) fun state2 => bindO (m_l_base state2) fun p3 => letO (p3.1) fun base_here4 => bindO (m_l_parts p3.2 base_here4) fun p5 => letO (p5.1) fun one6 => bindO (m_l_second p5.2 one6 base_here4) fun p7 => letO (p7.1) fun two8 => bindO (m_Region___init one6.1 one6.2.1 one6.2.2) fun o9 => letO (o9) fun first10 => bindO (m_Region___init___Vk two8.1 two8.2.1 two8.2.2) fun o11 => letO (o11) fun second_here12 => bindO (m_l_within one6 two8 base_here4) fun v13 => bindO (m_l_within two8 one6 base_here4) fun v14 => letO ([v13, v14]) fun due15 => bindO (m_Region_within first10 second_here12) fun v16 => bindO (atI due15 (0 : Int)) fun y17 => bindO (m_l_told v16 y17) fun v18 => letO ((!v18)) fun c23 => bindO (iteO c23 (some true) (bindO (m_Region_within second_here12 first10) fun v19 => bindO (atI due15 (1 : Int)) fun y20 => bindO (m_l_told v19 y20) fun v21 => some (!v21))) fun b22 => letO (b22) fun c24 => iteO c24 (some false) (bindO (m_Region_within first10 first10) fun v25 => letO ((!v25)) fun c28 => bindO (iteO c28 (some true) (bindO (m_Region_within second_here12 second_here12) fun v26 => some (!v26))) fun b27 => letO (b27) fun c29 => iteO c29 (some false) (bindO (atI due15 (0 : Int)) fun y30 => letO (y30) fun c33 => bindO (iteO c33 (bindO (atI due15 (1 : Int)) fun y31 => some y31) (some false)) fun b32 => letO (b32) fun alike34 => bindO (m_Region___eq first10 second_here12) fun n35 => letO ((!decide (n35 = alike34))) fun c41 => bindO (iteO c41 (some true) (bindO (m_Region___eq second_here12 first10) fun n36 => letO ((!decide (n36 = alike34))) fun c39 => bindO (iteO c39 (some true) (bindO (m_Region___eq first10 second_here12) fun n37 => some (decide ((!n37) = alike34)))) fun b38 => some b38)) fun b40 => letO (b40) fun c42 => iteO c42 (some false) (bindO (m_Region___eq first10 first10) fun n43 => letO ((!n43)) fun c52 => bindO (iteO c52 (some true) (bindO (m_Region___eq___Vt first10 (one6.1, one6.2.1)) fun n44 => letO (n44) fun c50 => bindO (iteO c50 (some true) (bindO (m_Region___eq___Vn first10 ()) fun n45 => letO (n45) fun c48 => bindO (iteO c48 (some true) (bindO (m_Region___eq___Vi second_here12 base_here4) fun n46 => some n46)) fun b47 => some b47)) fun b49 => some b49)) fun b51 => letO (b51) fun c53 => iteO c53 (some false) (bindO (m_Region___init___Vk (some base_here4) (some (base_here4 - (1 : Int))) ([] : (List Int))) fun o54 => letO (o54) fun nothing55 => bindO (m_Region_within nothing55 first10) fun v56 => letO ((!v56)) fun c60 => bindO (iteO c60 (some true) (bindO (m_Region_within second_here12 nothing55) fun v57 => bindO (m_Region___bool second_here12) fun n58 => some (!decide (v57 = (!n58))))) fun b59 => letO (b59) fun c61 => iteO c61 (some false) (bindO (m_Region___init___Vk (none : (Option Int)) (none : (Option Int)) ([] : (List Int))) fun o62 => bindO (m_Region_within first10 o62) fun v63 => letO (v63) fun c69 => bindO (iteO c69 (bindO (m_Region___init___Vk (none : (Option Int)) (none : (Option Int)) ([] : (List Int))) fun o64 => bindO (m_Region_within o64 second_here12) fun v65 => bindO (m_Region___init___Vk (none : (Option Int)) (none : (Option Int)) ([] : (List Int))) fun o66 => bindO (m_Region___eq second_here12 o66) fun n67 => some (decide (v65 = n67))) (some false)) fun b68 => some b68)))))
end Law

set_option maxHeartbeats 4000000
/-! # the mathematics of regions: one form, members, equality, meets -/
namespace Law
open PySem L2 G
theorem atI_nat2 {α : Type} (l : List α) (k : Nat) : atI l (k : Int) = l[k]? := by
  unfold atI ixN
  rw [if_pos (by omega)]
  by_cases h : k < l.length
  · rw [if_pos (by omega)]; rfl
  · rw [if_neg (by omega), List.getElem?_eq_none (by omega)]; rfl
theorem compL_fil {α β : Type} {f : α → Option (Option β)} {p : α → Bool} {g : α → β} : ∀ {xs : List α}, (∀ x ∈ xs, f x = some (if p x = true then some (g x) else none)) → compL f xs = some ((xs.filter p).map g)
  | [], _ => rfl
  | x :: xs, h => by
    have ih := compL_fil (f := f) (p := p) (g := g) (xs := xs) fun y hy => h y (List.mem_cons_of_mem _ hy)
    unfold compL
    rw [h x List.mem_cons_self, ih]
    cases hp : p x with
    | true => rw [if_pos rfl, List.filter_cons_of_pos hp, List.map_cons]
    | false => rw [if_neg (by decide), List.filter_cons_of_neg (by rw [hp]; decide)]
theorem compL_all {α β : Type} {f : α → Option (Option β)} {g : α → β} {xs : List α} (h : ∀ x ∈ xs, f x = some (some (g x))) : compL f xs = some (xs.map g) := by
  have := compL_fil (f := f) (p := fun _ => true) (g := g) (xs := xs) fun x hx => by rw [h x hx, if_pos rfl]
  rw [this, List.filter_eq_self.mpr fun _ _ => rfl]
/-! ### members -/
def LoOk (l : Option Int) (v : Int) : Prop := ∀ a, l = some a → a ≤ v
def HiOk (h : Option Int) (v : Int) : Prop := ∀ b, h = some b → v ≤ b
def Mem (l h : Option Int) (w : List Int) (v : Int) : Prop := LoOk l v ∧ HiOk h v ∧ v ∉ w
def NF (l h : Option Int) (w : List Int) : Prop := w.Pairwise (· < ·) ∧ (∀ x ∈ w, (∀ a, l = some a → a < x) ∧ (∀ b, h = some b → x < b)) ∧ (∀ a b, l = some a → h = some b → a ≤ b)
def Fm (l h : Option Int) (w : List Int) : Prop := NF l h w ∨ (l = some 1 ∧ h = some 0 ∧ w = [])
theorem lo_none (v : Int) : LoOk none v := fun _ h => nomatch h
theorem hi_none (v : Int) : HiOk none v := fun _ h => nomatch h
theorem lo_some {a v : Int} : LoOk (some a) v ↔ a ≤ v := ⟨fun h => h a rfl, fun h b e => by cases e; exact h⟩
theorem hi_some {b v : Int} : HiOk (some b) v ↔ v ≤ b := ⟨fun h => h b rfl, fun h a e => by cases e; exact h⟩
def btw (l h : Option Int) (v : Int) : Bool := (match l with | none => true | some a => decide (a ≤ v)) && (match h with | none => true | some b => decide (v ≤ b))
theorem btw_iff (l h : Option Int) (v : Int) : btw l h v = true ↔ LoOk l v ∧ HiOk h v := by
  unfold btw
  rw [Bool.and_eq_true]
  cases l with
  | none => cases h with
    | none => simp [lo_none, hi_none]
    | some b => simp [lo_none, hi_some]
  | some a => cases h with
    | none => simp [lo_some, hi_none]
    | some b => simp [lo_some, hi_some]
theorem between_ok (l h : Option Int) (v : Int) : m_between l h v = some (btw l h v) := by
  cases l with
  | none => cases h <;> rfl
  | some a => cases h with
    | none =>
      show bindO (iteO (decide (a ≤ v)) (some true) (some false)) _ = _
      unfold btw
      dsimp only
      cases decide (a ≤ v) <;> rfl
    | some b =>
      show bindO (iteO (decide (a ≤ v)) (some (decide (v ≤ b))) (some false)) _ = _
      unfold btw
      dsimp only
      cases decide (a ≤ v) <;> rfl
def mb (l h : Option Int) (w : List Int) (v : Int) : Bool := btw l h v && !decide (v ∈ w)
theorem mb_iff (l h : Option Int) (w : List Int) (v : Int) : mb l h w v = true ↔ Mem l h w v := by
  unfold mb Mem
  rw [Bool.and_eq_true, btw_iff, Bool.not_eq_true', decide_eq_false_iff_not, and_assoc]
/-! ### the ends move over what is left out -/
def strip : Int → List Int → Int × List Int
  | l, [] => (l, [])
  | l, x :: xs => if x = l then strip (l + 1) xs else (l, x :: xs)
theorem strip_ok : ∀ (xs : List Int) (l : Int), xs.Pairwise (· < ·) → (∀ x ∈ xs, l ≤ x) → (∀ x ∈ (strip l xs).2, (strip l xs).1 < x) ∧ (∀ v, ((strip l xs).1 ≤ v ∧ v ∉ (strip l xs).2) ↔ (l ≤ v ∧ v ∉ xs)) ∧ (strip l xs).2 <:+ xs
  | [], l, _, _ => by simp [strip]
  | x :: xs, l, hp, hl => by
    have hp' := List.pairwise_cons.mp hp
    unfold strip
    by_cases e : x = l
    · rw [if_pos e]
      obtain ⟨h1, h2, h3⟩ := strip_ok xs (l + 1) hp'.2 fun y hy => by have := hp'.1 y hy; omega
      refine ⟨h1, fun v => (h2 v).trans ?_, h3.trans (List.suffix_cons _ _)⟩
      rw [List.mem_cons]
      constructor
      · intro ⟨a, b⟩; exact ⟨by omega, fun z => z.elim (fun z => by omega) b⟩
      · intro ⟨a, b⟩
        have : v ≠ x := fun z => b (.inl z)
        exact ⟨by omega, fun z => b (.inr z)⟩
    · rw [if_neg e]
      refine ⟨fun y hy => ?_, fun v => Iff.rfl, List.suffix_refl _⟩
      have hx := hl x List.mem_cons_self
      rcases List.mem_cons.mp hy with rfl | hy
      · show l < y; omega
      · have := hp'.1 y hy; show l < y; omega
def stripD : Int → List Int → Int × List Int
  | h, [] => (h, [])
  | h, x :: xs => if x = h then stripD (h - 1) xs else (h, x :: xs)
theorem stripD_ok : ∀ (xs : List Int) (h : Int), xs.Pairwise (· > ·) → (∀ x ∈ xs, x ≤ h) → (∀ x ∈ (stripD h xs).2, x < (stripD h xs).1) ∧ (∀ v, (v ≤ (stripD h xs).1 ∧ v ∉ (stripD h xs).2) ↔ (v ≤ h ∧ v ∉ xs)) ∧ (stripD h xs).2 <:+ xs
  | [], h, _, _ => by simp [stripD]
  | x :: xs, h, hp, hl => by
    have hp' := List.pairwise_cons.mp hp
    unfold stripD
    by_cases e : x = h
    · rw [if_pos e]
      obtain ⟨h1, h2, h3⟩ := stripD_ok xs (h - 1) hp'.2 fun y hy => by have : x > y := hp'.1 y hy; omega
      refine ⟨h1, fun v => (h2 v).trans ?_, h3.trans (List.suffix_cons _ _)⟩
      rw [List.mem_cons]
      constructor
      · intro ⟨a, b⟩; exact ⟨by omega, fun z => z.elim (fun z => by omega) b⟩
      · intro ⟨a, b⟩
        have : v ≠ x := fun z => b (.inl z)
        exact ⟨by omega, fun z => b (.inr z)⟩
    · rw [if_neg e]
      refine ⟨fun y hy => ?_, fun v => Iff.rfl, List.suffix_refl _⟩
      have hx := hl x List.mem_cons_self
      rcases List.mem_cons.mp hy with rfl | hy
      · show y < h; omega
      · have : x > y := hp'.1 y hy; show y < h; omega
theorem whL_step {ρ ς : Type} {c : ς → Option Bool} {f : ς → Option (Step ρ ς)} {s s' : ς} {n : Nat} (h : c s = some true) (e : f s = some (.nx s')) : whL c f (n + 1) s = whL c f n s' := by
  show (match c s with | none => none | some false => some (Step.nx s) | some true => _) = _
  rw [h]
  show (match f s with | none => none | some (.nx s') => whL c f n s' | some (.brk s') => some (Step.nx s') | some (.ret b) => some (Step.ret b)) = _
  rw [e]
theorem whL_end {ρ ς : Type} {c : ς → Option Bool} {f : ς → Option (Step ρ ς)} {s : ς} {n : Nat} (h : c s = some false) : whL c f (n + 1) s = some (.nx s) := by
  show (match c s with | none => none | some false => some (Step.nx s) | some true => _) = _
  rw [h]
theorem w1_in {gs : List Int} {l : Option Int} {s : Nat} {x : Int} (h : gs[s]? = some x) : m_one_form_w1 gs (l, (s : Int)) = some (decide (some x = l)) := by
  have hs : s < gs.length := (List.getElem?_eq_some_iff.mp h).1
  unfold m_one_form_w1
  simp only [letO_s, atI_nat2, h, bindO_s, show decide ((s : Int) < (gs.length : Int)) = true from decide_eq_true (by omega), iteO_T]
theorem w1_out {gs : List Int} {l : Option Int} {s : Nat} (h : gs.length ≤ s) : m_one_form_w1 gs (l, (s : Int)) = some false := by
  unfold m_one_form_w1
  simp only [letO_s, show decide ((s : Int) < (gs.length : Int)) = false from decide_eq_false (by omega), iteO_F, bindO_s]
theorem wh1 (gs : List Int) : ∀ (n : Nat) (l : Int) (s : Nat), gs.length - s < n → s ≤ gs.length → whL (m_one_form_w1 gs) m_one_form_b1 n (some l, (s : Int)) = some (.nx (some (strip l (gs.drop s)).1, ((gs.length - (strip l (gs.drop s)).2.length : Nat) : Int)))
  | 0, _, _, h, _ => by omega
  | n + 1, l, s, h, hs => by
    by_cases hl : s < gs.length
    · have hx : gs[s]? = some gs[s] := List.getElem?_eq_getElem hl
      rw [List.drop_eq_getElem_cons hl]
      unfold strip
      by_cases e : gs[s] = l
      · rw [if_pos e, whL_step (s' := (some (l + 1), ((s + 1 : Nat) : Int))) (by rw [w1_in hx, e, decide_eq_true rfl]) (by rfl), wh1 gs n (l + 1) (s + 1) (by omega) (by omega)]
      · rw [if_neg e, whL_end (by rw [w1_in hx, decide_eq_false fun z => e (Option.some.inj z)])]
        rw [List.length_cons, List.length_drop]
        congr 4
        omega
    · have e : gs.drop s = [] := List.drop_eq_nil_of_le (by omega)
      rw [whL_end (w1_out (by omega)), e]
      show some (Step.nx (some l, (s : Int))) = some (Step.nx (some l, ((gs.length - 0 : Nat) : Int)))
      rw [show s = gs.length - 0 by omega]
theorem w2_in {gs : List Int} {l h : Option Int} {s e : Nat} {x : Int} (hs : s < e) (hx : gs[e - 1]? = some x) : m_one_form_w2 gs (l, (s : Int)) (h, (e : Int)) = some (decide (some x = h)) := by
  unfold m_one_form_w2
  have e1 : (e : Int) - 1 = ((e - 1 : Nat) : Int) := by omega
  simp only [letO_s, e1, atI_nat2, hx, bindO_s, show decide ((s : Int) < (e : Int)) = true from decide_eq_true (by omega), iteO_T]
theorem w2_out {gs : List Int} {l h : Option Int} {s e : Nat} (hs : e ≤ s) : m_one_form_w2 gs (l, (s : Int)) (h, (e : Int)) = some false := by
  unfold m_one_form_w2
  simp only [letO_s, show decide ((s : Int) < (e : Int)) = false from decide_eq_false (by omega), iteO_F, bindO_s]
theorem wh2 (gs : List Int) (l : Option Int) (s : Nat) : ∀ (n : Nat) (h : Int) (e : Nat), e - s < n → s ≤ e → e ≤ gs.length → whL (m_one_form_w2 gs (l, (s : Int))) m_one_form_b2 n (some h, (e : Int)) =
    some (.nx (some (stripD h ((gs.take e).drop s).reverse).1, ((s + (stripD h ((gs.take e).drop s).reverse).2.length : Nat) : Int)))
  | 0, _, _, h, _, _ => by omega
  | n + 1, h, e, hn, hs, he => by
    by_cases hl : s < e
    · have hx : gs[e - 1]? = some gs[e - 1] := List.getElem?_eq_getElem (by omega)
      have ec : ((gs.take e).drop s).reverse = gs[e - 1] :: ((gs.take (e - 1)).drop s).reverse := by
        have e0 : gs.take e = gs.take (e - 1) ++ [gs[e - 1]] := by
          have := List.take_append_getElem (l := gs) (i := e - 1) (by omega)
          rw [show e - 1 + 1 = e by omega] at this
          exact this.symm
        rw [e0, List.drop_append_of_le_length (by rw [List.length_take]; omega), List.reverse_append]
        rfl
      rw [ec]
      unfold stripD
      by_cases ee : gs[e - 1] = h
      · rw [if_pos ee, whL_step (s' := (some (h - 1), ((e - 1 : Nat) : Int))) (by rw [w2_in hl hx, ee, decide_eq_true rfl]) (by
          show some (Step.nx (some (h - 1), (e : Int) - 1)) = _
          rw [show (e : Int) - 1 = ((e - 1 : Nat) : Int) by omega]), wh2 gs l s n (h - 1) (e - 1) (by omega) (by omega) (by omega)]
      · rw [if_neg ee, whL_end (by rw [w2_in hl hx, decide_eq_false fun z => ee (Option.some.inj z)])]
        rw [List.length_cons, List.length_reverse, List.length_drop, List.length_take]
        congr 4
        omega
    · have e0 : (gs.take e).drop s = [] := List.drop_eq_nil_of_le (by rw [List.length_take]; omega)
      rw [whL_end (w2_out (by omega)), e0]
      show some (Step.nx (some h, (e : Int))) = some (Step.nx (some h, ((s + 0 : Nat) : Int)))
      rw [show s + 0 = e by omega]
theorem lo_loop (gs : List Int) (low : Option Int) (ha : gs.Pairwise (· < ·)) (hl : ∀ x ∈ gs, LoOk low x) (hn : gs.length < 1000000) : ∃ (l1 : Option Int) (s : Nat), whL (m_one_form_w1 gs) m_one_form_b1 1000000 (low, 0) = some (.nx (l1, (s : Int))) ∧ s ≤ gs.length ∧
    (∀ x ∈ gs.drop s, ∀ a, l1 = some a → a < x) ∧ (∀ v, (LoOk l1 v ∧ v ∉ gs.drop s) ↔ (LoOk low v ∧ v ∉ gs)) := by
  cases low with
  | none =>
    refine ⟨none, 0, whL_end ?_, Nat.zero_le _, (fun x _ a h => nomatch h), fun v => by rw [List.drop_zero]⟩
    cases gs with
    | nil => exact w1_out (Nat.le_refl _)
    | cons x xs => exact w1_in (s := 0) (x := x) rfl
  | some l =>
    obtain ⟨h1, h2, h3⟩ := strip_ok gs l ha fun x hx => lo_some.mp (hl x hx)
    have := wh1 gs 1000000 l 0 (by omega) (Nat.zero_le _)
    rw [List.drop_zero] at this
    have ed : gs.drop (gs.length - (strip l gs).2.length) = (strip l gs).2 := (List.suffix_iff_eq_drop.mp h3).symm
    refine ⟨_, _, this, Nat.sub_le _ _, fun x hx a e => ?_, fun v => ?_⟩
    · rw [ed] at hx; cases e; exact h1 x hx
    · rw [ed, lo_some, lo_some]; exact h2 v
theorem hi_loop (gs : List Int) (l high : Option Int) (s : Nat) (hs : s ≤ gs.length) (ha : gs.Pairwise (· < ·)) (hl : ∀ x ∈ gs, HiOk high x) (hn : gs.length < 1000000) : ∃ (h1 : Option Int) (e : Nat), whL (m_one_form_w2 gs (l, (s : Int))) m_one_form_b2 1000000 (high, (gs.length : Int)) = some (.nx (h1, (e : Int))) ∧ s ≤ e ∧ e ≤ gs.length ∧
    (∀ x ∈ (gs.take e).drop s, ∀ a, h1 = some a → x < a) ∧ (∀ v, (HiOk h1 v ∧ v ∉ (gs.take e).drop s) ↔ (HiOk high v ∧ v ∉ gs.drop s)) := by
  cases high with
  | none =>
    refine ⟨none, gs.length, whL_end ?_, hs, Nat.le_refl _, (fun x _ a h => nomatch h), fun v => by rw [List.take_length]⟩
    by_cases h : s < gs.length
    · exact w2_in h (List.getElem?_eq_getElem (by omega))
    · exact w2_out (by omega)
  | some h =>
    have hr : (gs.drop s).reverse.Pairwise (· > ·) := by
      rw [List.pairwise_reverse]
      exact (ha.sublist (List.drop_sublist s gs)).imp fun q => q
    obtain ⟨h1, h2, h3⟩ := stripD_ok (gs.drop s).reverse h hr fun x hx => hi_some.mp (hl x (List.mem_of_mem_drop (List.mem_reverse.mp hx)))
    have := wh2 gs l s 1000000 h gs.length (by omega) hs (Nat.le_refl _)
    rw [List.take_length] at this
    have hle : (stripD h (gs.drop s).reverse).2.length ≤ gs.length - s := by
      have := h3.length_le
      rw [List.length_reverse, List.length_drop] at this; exact this
    have ed : (gs.take (s + (stripD h (gs.drop s).reverse).2.length)).drop s = (stripD h (gs.drop s).reverse).2.reverse := by
      rw [List.drop_take, Nat.add_sub_cancel_left]
      obtain ⟨p, hp⟩ := h3
      have e2 : gs.drop s = (stripD h (gs.drop s).reverse).2.reverse ++ p.reverse := by
        rw [← List.reverse_append, hp, List.reverse_reverse]
      have e3 : ∀ m : List Int, m = (stripD h (gs.drop s).reverse).2.reverse ++ p.reverse → m.take (stripD h (gs.drop s).reverse).2.length = (stripD h (gs.drop s).reverse).2.reverse := fun m em => by
        rw [em]; exact List.take_left' (by rw [List.length_reverse])
      exact e3 _ e2
    refine ⟨_, _, this, by omega, by omega, fun x hx a e => ?_, fun v => ?_⟩
    · rw [ed] at hx; cases e; exact h1 x (List.mem_reverse.mp hx)
    · rw [ed, hi_some, hi_some, List.mem_reverse]
      have := h2 v
      rw [List.mem_reverse] at this
      exact this
theorem cut_nat (gs : List Int) {s e : Nat} (h1 : s ≤ e) (h2 : e ≤ gs.length) : cut gs (some (s : Int)) (some (e : Int)) = (gs.take e).drop s := by
  unfold cut
  rw [List.drop_take]
  simp only [HT.sIx_nat, Nat.min_eq_left (show s ≤ gs.length by omega), Nat.min_eq_left h2]
theorem form_ok (low high : Option Int) (ws : List Int) (hw : ws.length < 64) : ∃ l h w, m_one_form low high ws = some (l, h, w) ∧ Fm l h w ∧ w.length ≤ ws.length ∧ ∀ v, Mem l h w v ↔ Mem low high ws v := by
  unfold m_one_form
  have hf : compL (m_one_form_c1 low high) ws = some ((ws.filter (btw low high)).map id) := compL_fil fun x _ => by
    unfold m_one_form_c1
    simp only [between_ok, bindO_s, letO_s]
    cases btw low high x <;> rfl
  have hl : (ws.filter (btw low high)).length < 64 := Nat.lt_of_le_of_lt (List.length_filter_le _ _) hw
  have hss : pySS ((ws.filter (btw low high)).map id) = some (sset (ws.filter (btw low high))) := by rw [List.map_id]; exact if_pos hl
  have hgl : (sset (ws.filter (btw low high))).length ≤ ws.length := by
    have : ∀ l : List Int, (sset l).length ≤ l.length := fun l => by
      induction l with
      | nil => exact Nat.le_refl _
      | cons x xs ih =>
        have hi : ∀ (x : Int) (l : List Int), (insI x l).length ≤ l.length + 1 := fun x l => by
          induction l with
          | nil => exact Nat.le_refl _
          | cons y ys ih => unfold insI; split <;> (try split) <;> simp_all <;> omega
        unfold sset
        have := hi x (sset xs)
        rw [List.length_cons]; omega
    have := this (ws.filter (btw low high))
    have := List.length_filter_le (btw low high) ws
    omega
  have hm : ∀ v, v ∈ sset (ws.filter (btw low high)) ↔ v ∈ ws ∧ LoOk low v ∧ HiOk high v := fun v => by rw [sset_mem, List.mem_filter, btw_iff]
  have hasc := sset_asc (ws.filter (btw low high))
  generalize sset (ws.filter (btw low high)) = gs at hss hgl hm hasc
  obtain ⟨l1, s, e1, hs, a1, b1⟩ := lo_loop gs low hasc (fun x hx => ((hm x).mp hx).2.1) (by omega)
  obtain ⟨h1, e, e2, hse, he, a2, b2⟩ := hi_loop gs l1 high s hs hasc (fun x hx => ((hm x).mp hx).2.2) (by omega)
  simp only [hf, bindO_s, hss, letO_s, e1, stepO_N, e2]
  have hmem : ∀ v, Mem l1 h1 ((gs.take e).drop s) v ↔ Mem low high ws v := fun v => by
    have q1 := b1 v
    have q2 := b2 v
    have q3 := hm v
    unfold Mem
    constructor
    · rintro ⟨x1, x2, x3⟩
      obtain ⟨y1, y2⟩ := q2.mp ⟨x2, x3⟩
      obtain ⟨z1, z2⟩ := q1.mp ⟨x1, y2⟩
      exact ⟨z1, y1, fun z => z2 (q3.mpr ⟨z, z1, y1⟩)⟩
    · rintro ⟨x1, x2, x3⟩
      obtain ⟨y1, y2⟩ := q1.mpr ⟨x1, fun z => x3 (q3.mp z).1⟩
      obtain ⟨z1, z2⟩ := q2.mpr ⟨x2, y2⟩
      exact ⟨y1, z1, z2⟩
  have hpw : ((gs.take e).drop s).Pairwise (· < ·) := hasc.sublist ((List.drop_sublist _ _).trans (List.take_sublist _ _))
  have hsub : ∀ x ∈ (gs.take e).drop s, x ∈ gs.drop s := fun x hx => by
    rw [List.drop_take] at hx
    exact List.mem_of_mem_take hx
  have fin : (∀ a b, l1 = some a → h1 = some b → a ≤ b) → Fm l1 h1 ((gs.take e).drop s) := fun hab => .inl ⟨hpw, fun x hx => ⟨fun a ea => a1 x (hsub x hx) a ea, fun b eb => a2 x hx b eb⟩, hab⟩
  rw [cut_nat gs hse he]
  have hlen : ((gs.take e).drop s).length ≤ ws.length := by rw [List.length_drop, List.length_take]; omega
  cases l1 with
  | none => exact ⟨_, _, _, rfl, fin ((fun _ _ h => nomatch h)), hlen, hmem⟩
  | some a =>
    cases h1 with
    | none => exact ⟨_, _, _, rfl, fin ((fun _ _ _ h => nomatch h)), hlen, hmem⟩
    | some b =>
      show ∃ l h w, bindO (some (decide (b < a))) _ = _ ∧ _
      rw [bindO_s]
      by_cases hab : b < a
      · rw [decide_eq_true hab]
        refine ⟨_, _, _, rfl, .inr ⟨rfl, rfl, rfl⟩, Nat.zero_le _, fun v => ?_⟩
        rw [← hmem v]
        unfold Mem
        rw [lo_some, hi_some, lo_some, hi_some]
        constructor
        · rintro ⟨x, y, _⟩; omega
        · rintro ⟨x, y, _⟩; omega
      · rw [decide_eq_false hab]
        exact ⟨_, _, _, rfl, fin (fun x y e1 e2 => by cases e1; cases e2; omega), hlen, hmem⟩
/-! ### the object -/
abbrev Rg := Option Int × Option Int × List Int × Option Int × Option Int × List (Int × Bool)
def szR (l h : Option Int) (w : List Int) : Option Int := match l, h with
  | some a, some b => some (b - a + 1 - (w.length : Int))
  | _, _ => none
def mkR (l h : Option Int) (w : List Int) : Rg := (l, h, w, szR l h w, (if szR l h w = some 1 then l else none), w.map fun x => (x, true))
theorem size_ok (l h : Option Int) (w : List Int) : m_size_of l h w = some (szR l h w) := by
  cases l <;> cases h <;> rfl
theorem putM_new {d : List (Int × Bool)} {x : Int} (h : ∀ p ∈ d, p.1 ≠ x) : putM d x true = d ++ [(x, true)] := by
  induction d with
  | nil => rfl
  | cons p ps ih =>
    have h1 := h p List.mem_cons_self
    have h2 := ih fun q hq => h q (List.mem_cons_of_mem _ hq)
    first
    | (unfold putM; rw [if_neg h1, h2]; rfl)
    | (unfold putM at h2 ⊢; simp_all)
theorem dict_ok : ∀ (w : List Int) (d : List (Int × Bool)), w.Pairwise (· < ·) → (∀ x ∈ w, ∀ p ∈ d, p.1 ≠ x) → compD m_Region___init_c1 w d = some (d ++ w.map fun x => (x, true))
  | [], d, _, _ => by rw [List.map_nil, List.append_nil]; rfl
  | x :: xs, d, hp, hd => by
    have hp' := List.pairwise_cons.mp hp
    show compD m_Region___init_c1 xs (putM d x true) = _
    rw [putM_new (hd x List.mem_cons_self), dict_ok xs _ hp'.2 fun y hy p hpp => ?_, List.append_assoc]
    · rfl
    · rcases List.mem_append.mp hpp with h | h
      · exact hd y (List.mem_cons_of_mem _ hy) p h
      · rw [List.mem_singleton.mp h]
        have := hp'.1 y hy
        show x ≠ y
        omega
theorem fm_asc {l h : Option Int} {w : List Int} (f : Fm l h w) : w.Pairwise (· < ·) := by
  rcases f with f | ⟨_, _, rfl⟩
  · exact f.1
  · exact .nil
theorem init_ok (low high : Option Int) (ws : List Int) (hw : ws.length < 64) : ∃ l h w, m_Region___init low high ws = some (mkR l h w) ∧ Fm l h w ∧ w.length ≤ ws.length ∧ ∀ v, Mem l h w v ↔ Mem low high ws v := by
  obtain ⟨l, h, w, e, f, n, m⟩ := form_ok low high ws hw
  refine ⟨l, h, w, ?_, f, n, m⟩
  unfold m_Region___init
  simp only [e, bindO_s, letO_s, size_ok, dict_ok w [] (fm_asc f) ((fun _ _ _ z => nomatch z)), List.nil_append]
  unfold mkR
  by_cases h1 : szR l h w = some 1
  · rw [h1, decide_eq_true rfl]; rfl
  · rw [decide_eq_false h1, if_neg h1]; rfl
theorem dict_in (w : List Int) (v : Int) : (getM (w.map fun x => (x, true)) v).isSome = decide (v ∈ w) := by
  unfold getM
  rw [Option.isSome_map]
  induction w with
  | nil => rfl
  | cons x xs ih =>
    rw [List.map_cons]
    by_cases h : x = v
    · rw [List.find?_cons_of_pos (by simpa using h)]
      subst h; simp
    · rw [List.find?_cons_of_neg (by simpa using h), ih]
      have h' : ¬ v = x := fun e => h e.symm
      simp [h']
/-! ### one form: equal members, equal ends -/
theorem below (w : List Int) (c : Int) : ∃ v, v ≤ c ∧ ∀ x ∈ w, v < x := by
  induction w with
  | nil => exact ⟨c, Int.le_refl _, (fun _ h => nomatch h)⟩
  | cons x xs ih =>
    obtain ⟨v, h1, h2⟩ := ih
    refine ⟨min v (x - 1), by omega, fun y hy => ?_⟩
    rcases List.mem_cons.mp hy with rfl | hy
    · omega
    · have := h2 y hy; omega
theorem above (w : List Int) (c : Int) : ∃ v, c ≤ v ∧ ∀ x ∈ w, x < v := by
  induction w with
  | nil => exact ⟨c, Int.le_refl _, (fun _ h => nomatch h)⟩
  | cons x xs ih =>
    obtain ⟨v, h1, h2⟩ := ih
    refine ⟨max v (x + 1), by omega, fun y hy => ?_⟩
    rcases List.mem_cons.mp hy with rfl | hy
    · omega
    · have := h2 y hy; omega
theorem low_mem {a : Int} {h : Option Int} {w : List Int} (f : NF (some a) h w) : Mem (some a) h w a :=
  ⟨lo_some.mpr (Int.le_refl _), fun b eb => f.2.2 a b rfl eb, fun z => by have := (f.2.1 a z).1 a rfl; omega⟩
theorem high_mem {l : Option Int} {b : Int} {w : List Int} (f : NF l (some b) w) : Mem l (some b) w b :=
  ⟨fun a ea => f.2.2 a b ea rfl, hi_some.mpr (Int.le_refl _), fun z => by have := (f.2.1 b z).2 b rfl; omega⟩
theorem far_low {h : Option Int} {w : List Int} (c : Int) : ∃ v, v ≤ c ∧ Mem none h w v := by
  obtain ⟨v, h1, h2⟩ := below w (match h with | none => c | some b => min b c)
  refine ⟨v, ?_, lo_none _, fun b eb => ?_, fun z => by have := h2 v z; omega⟩
  · cases h with
    | none => exact h1
    | some b => have h1 : v ≤ min b c := h1; omega
  · subst eb
    have h1 : v ≤ min b c := h1
    omega
theorem far_high {l : Option Int} {w : List Int} (c : Int) : ∃ v, c ≤ v ∧ Mem l none w v := by
  obtain ⟨v, h1, h2⟩ := above w (match l with | none => c | some b => max b c)
  refine ⟨v, ?_, fun a ea => ?_, hi_none _, fun z => by have := h2 v z; omega⟩
  · cases l with
    | none => exact h1
    | some b => have h1 : max b c ≤ v := h1; omega
  · subst ea
    have h1 : max a c ≤ v := h1
    omega
theorem nf_some {l h : Option Int} {w : List Int} (f : NF l h w) : ∃ v, Mem l h w v := by
  cases l with
  | some a => exact ⟨a, low_mem f⟩
  | none =>
    obtain ⟨v, _, h⟩ := far_low (h := h) (w := w) 0
    exact ⟨v, h⟩
theorem no_mem (v : Int) : ¬ Mem (some 1) (some 0) [] v := fun ⟨a, b, _⟩ => by
  have := lo_some.mp a
  have := hi_some.mp b
  omega
theorem uniq {l h l' h' : Option Int} {w w' : List Int} (f : Fm l h w) (f' : Fm l' h' w') (m : ∀ v, Mem l h w v ↔ Mem l' h' w' v) : l = l' ∧ h = h' ∧ w = w' := by
  rcases f with f | ⟨rfl, rfl, rfl⟩
  · rcases f' with f' | ⟨rfl, rfl, rfl⟩
    · have el : l = l' := by
        cases l with
        | none => cases l' with
          | none => rfl
          | some a =>
            obtain ⟨v, h1, h2⟩ := far_low (h := h) (w := w) (a - 1)
            have := lo_some.mp ((m v).mp h2).1
            omega
        | some a => cases l' with
          | none =>
            obtain ⟨v, h1, h2⟩ := far_low (h := h') (w := w') (a - 1)
            have := lo_some.mp ((m v).mpr h2).1
            omega
          | some a' =>
            have h1 := lo_some.mp ((m a).mp (low_mem f)).1
            have h2 := lo_some.mp ((m a').mpr (low_mem f')).1
            congr 1; omega
      have eh : h = h' := by
        cases h with
        | none => cases h' with
          | none => rfl
          | some a =>
            obtain ⟨v, h1, h2⟩ := far_high (l := l) (w := w) (a + 1)
            have := hi_some.mp ((m v).mp h2).2.1
            omega
        | some a => cases h' with
          | none =>
            obtain ⟨v, h1, h2⟩ := far_high (l := l') (w := w') (a + 1)
            have := hi_some.mp ((m v).mpr h2).2.1
            omega
          | some a' =>
            have h1 := hi_some.mp ((m a).mp (high_mem f)).2.1
            have h2 := hi_some.mp ((m a').mpr (high_mem f')).2.1
            congr 1; omega
      subst el
      subst eh
      refine ⟨rfl, rfl, asc_eq f.1 f'.1 fun z => ⟨fun hz => ?_, fun hz => ?_⟩⟩
      · by_cases hz' : z ∈ w'
        · exact hz'
        · have q := f.2.1 z hz
          exact absurd hz ((m z).mpr ⟨fun a ea => Int.le_of_lt (q.1 a ea), fun b eb => Int.le_of_lt (q.2 b eb), hz'⟩).2.2
      · by_cases hz' : z ∈ w
        · exact hz'
        · have q := f'.2.1 z hz
          exact absurd hz ((m z).mp ⟨fun a ea => Int.le_of_lt (q.1 a ea), fun b eb => Int.le_of_lt (q.2 b eb), hz'⟩).2.2
    · obtain ⟨v, hv⟩ := nf_some f
      exact absurd ((m v).mp hv) (no_mem v)
  · rcases f' with f' | ⟨rfl, rfl, rfl⟩
    · obtain ⟨v, hv⟩ := nf_some f'
      exact absurd ((m v).mpr hv) (no_mem v)
    · exact ⟨rfl, rfl, rfl⟩
/-! ### data -/
theorem lay_nil : PyData.canLayAll0 [] = true := by simp [PyData.canLayAll0]
theorem lay_cons {x : PyData} {xs : List PyData} (h : x.canLay0 = true) (h2 : PyData.canLayAll0 xs = true) : PyData.canLayAll0 (x :: xs) = true := by simp [PyData.canLayAll0, h, h2]
theorem lay_tup {xs : List PyData} (h : PyData.canLayAll0 xs = true) : PyData.canLay0 (.tuple xs) = true := by simpa [PyData.canLay0] using h
theorem lay_list {xs : List PyData} (h : PyData.canLayAll0 xs = true) : PyData.canLay0 (.list xs) = true := by simpa [PyData.canLay0] using h
theorem lay_int (i : Int) : PyData.canLay0 (.int i) = true := by simp [PyData.canLay0]
theorem lay_none : PyData.canLay0 .none = true := by simp [PyData.canLay0]
theorem lay_bool (b : Bool) : PyData.canLay0 (.bool b) = true := by simp [PyData.canLay0]
theorem lay_opt (o : Option Int) : PyData.canLay0 (dOpt PyData.int o) = true := by
  cases o with
  | none => exact lay_none
  | some i => exact lay_int i
theorem lay_ints : ∀ l : List Int, PyData.canLayAll0 (l.map PyData.int) = true
  | [] => lay_nil
  | x :: xs => lay_cons (lay_int x) (lay_ints xs)
theorem dep_opt (o : Option Int) : (dOpt PyData.int o).depth = 0 := by cases o <;> simp [dOpt, PyData.depth]
theorem dep_ints : ∀ l : List Int, PyData.depthAll (l.map PyData.int) = 0
  | [] => by simp [PyData.depthAll]
  | x :: xs => by simp [PyData.depthAll, PyData.depth, dep_ints xs]
theorem eq_some {d e : PyData} (h : d.canLay0 = true) (hd : d.depth ≤ 64) (h2 : e.canLay0 = true) (he : e.depth ≤ 64) : pyEq d e = some (PyData.eqv d e) := by
  unfold pyEq
  have hs : ∀ d : PyData, d.canLay0 = true → d.depth ≤ 64 → SeqAt.shaped d = true := fun d h hd => by
    unfold SeqAt.shaped
    rw [h, decide_eq_true hd]; rfl
  rw [if_pos ⟨hs d h hd, hs e h2 he⟩]
theorem eqv_int (i j : Int) : PyData.eqv (.int i) (.int j) = decide (i = j) := by
  simp only [PyData.eqv]
  by_cases h : i = j <;> simp [h]
theorem eqv_opt (o p : Option Int) : PyData.eqv (dOpt PyData.int o) (dOpt PyData.int p) = decide (o = p) := by
  cases o with
  | none => cases p with
    | none => simp [dOpt, PyData.eqv]
    | some j => simp [dOpt, PyData.eqv]
  | some i => cases p with
    | none => simp [dOpt, PyData.eqv]
    | some j =>
      show PyData.eqv (.int i) (.int j) = _
      rw [eqv_int]
      by_cases h : i = j <;> simp [h]
theorem eqvAll_ints : ∀ a b : List Int, PyData.eqvAll (a.map PyData.int) (b.map PyData.int) = decide (a = b)
  | [], [] => by simp [PyData.eqvAll]
  | [], y :: ys => by simp [PyData.eqvAll]
  | x :: xs, [] => by simp [PyData.eqvAll]
  | x :: xs, y :: ys => by
    rw [List.map_cons, List.map_cons, PyData.eqvAll, eqv_int, eqvAll_ints xs ys]
    by_cases h : x = y <;> by_cases h2 : xs = ys <;> simp [h, h2]
theorem eq_tpl (a b : List Int) : pyEq (dTpl PyData.int a) (dTpl PyData.int b) = some (decide (a = b)) := by
  refine (eq_some (lay_tup (lay_ints _)) (by simp [PyData.depth, dep_ints]) (lay_tup (lay_ints _)) (by simp [PyData.depth, dep_ints])).trans (congrArg some ?_)
  show PyData.eqv (.tuple _) (.tuple _) = _
  simp only [PyData.eqv]
  exact eqvAll_ints a b
theorem eq_lst (a b : List Int) : pyEq (dLst PyData.int a) (dLst PyData.int b) = some (decide (a = b)) := by
  refine (eq_some (lay_list (lay_ints _)) (by simp [PyData.depth, dep_ints]) (lay_list (lay_ints _)) (by simp [PyData.depth, dep_ints])).trans (congrArg some ?_)
  show PyData.eqv (.list _) (.list _) = _
  simp only [PyData.eqv]
  exact eqvAll_ints a b
theorem eq_nil {α : Type} (d : α → PyData) (l : List α) (h : PyData.canLayAll0 (l.map d) = true) (hd : PyData.depthAll (l.map d) ≤ 60) : pyEq (dLst d l) (dHls dw0 ()) = some l.isEmpty := by
  refine (eq_some (lay_list h) (by show (PyData.list (l.map d)).depth ≤ 64; simp only [PyData.depth]; omega) (lay_list lay_nil) (by show (PyData.list []).depth ≤ 64; simp [PyData.depth, PyData.depthAll])).trans (congrArg some ?_)
  show PyData.eqv (.list (l.map d)) (.list []) = _
  simp only [PyData.eqv]
  cases l with
  | nil => simp [PyData.eqvAll]
  | cons x xs => simp [PyData.eqvAll]
theorem eq_ints_nil (l : List Int) : pyEq (dLst PyData.int l) (dHls dw0 ()) = some l.isEmpty := eq_nil _ l (lay_ints l) (by rw [dep_ints]; decide)
end Law

set_option maxHeartbeats 4000000
/-! # the draws of the first family of laws -/
namespace G
theorem forL_inv {α ρ ς : Type} {f : α → ς → Option (Step ρ ς)} (P : Nat → ς → Prop) : ∀ {xs : List α} {s : ς} {k : Nat}, P k s → (∀ (i : Nat) (x : α) (s : ς), xs[i]? = some x → P (k + i) s → ∃ s', f x s = some (.nx s') ∧ P (k + i + 1) s') → ∃ s', forL f xs s = some (.nx s') ∧ P (k + xs.length) s'
  | [], s, k, h, _ => ⟨s, rfl, h⟩
  | x :: xs, s, k, h, st => by
    obtain ⟨s1, e1, h1⟩ := st 0 x s rfl h
    obtain ⟨s2, e2, h2⟩ := forL_inv (xs := xs) (k := k + 1) P h1 fun i y s' hy hp => by
      have q := st (i + 1) y s' (by simpa using hy) (by rw [show k + (i + 1) = k + 1 + i by omega]; exact hp)
      rw [show k + (i + 1) + 1 = k + 1 + i + 1 by omega] at q
      exact q
    refine ⟨s2, ?_, by rw [List.length_cons, show k + (xs.length + 1) = k + 1 + xs.length by omega]; exact h2⟩
    unfold forL
    rw [e1]
    exact e2
end G
namespace Law
open PySem L2 G
abbrev Dr := List Int × Int × Int × Int
def I (n : Int) (st : Dr) : Prop := 0 ≤ st.2.1 ∧ 0 ≤ st.2.2.2 ∧ st.2.2.2 ≤ n
theorem mod_some {i j : Int} (h : 0 < j) : pyMod i j = some (i % j) := if_pos h
theorem div_some {i j : Int} (h : 0 < j) (h2 : j ≤ 1000000000000) : pyDiv i j = some (i / j) := if_pos ⟨h, by
  have h3 : j.natAbs ≠ 0 := by omega
  rw [Nat.log2_lt h3]
  exact Nat.lt_of_lt_of_le (show j.natAbs < 2 ^ 40 by omega) (Nat.pow_le_pow_right (by decide) (by decide))⟩
theorem at_some {α : Type} {l : List α} {i : Int} (h0 : 0 ≤ i) (h : i < (l.length : Int)) : ∃ x, atI l i = some x := by
  unfold atI ixN
  rw [if_pos h0, if_pos h]
  exact ⟨l[i.toNat]'(by omega), by rw [Option.bind_some]; exact List.getElem?_eq_getElem (by omega)⟩
theorem draw_ok {n : Int} {st : Dr} {many : Int} (h : I n st) (hn : n ≤ 100000) (h1 : 0 < many) (h2 : many ≤ 1000000000000) : ∃ d st', m_l_draw st many = some (d, st') ∧ 0 ≤ d ∧ d < many ∧ I (n + 1) st' := by
  obtain ⟨l, pos, v, cnt⟩ := st
  obtain ⟨a1, a2, a3⟩ := h
  dsimp only at a1 a2 a3
  unfold m_l_draw
  simp only [letO_s]
  cases hc : decide ((10 : Int) ^ ((18 : Int)).toNat ≤ v) with
  | true =>
    rw [iteO_T, mod_some h1, bindO_s, div_some h1 h2, bindO_s]
    exact ⟨_, _, rfl, Int.emod_nonneg _ (by omega), Int.emod_lt_of_pos _ h1, a1, a2, by dsimp only; omega⟩
  | false =>
    rw [iteO_F]
    have hp : pyPow (v % 1000000007 + 69621 * (cnt + 1) + 48271) 17 = some ((v % 1000000007 + 69621 * (cnt + 1) + 48271) ^ (17 : Int).toNat) := if_pos ⟨by decide, by decide, by
      have b1 := Int.emod_nonneg v (show (1000000007 : Int) ≠ 0 by decide)
      have b2 := Int.emod_lt_of_pos v (show (0 : Int) < 1000000007 by decide)
      omega⟩
    rw [hp, bindO_s]
    cases hq : decide (pos < (l.length : Int)) with
    | true =>
      obtain ⟨x, hx⟩ := at_some a1 (of_decide_eq_true hq)
      rw [iteO_T, hx, bindO_s, bindO_s, mod_some h1, bindO_s]
      exact ⟨_, _, rfl, Int.emod_nonneg _ (by omega), Int.emod_lt_of_pos _ h1, by dsimp only; omega, by dsimp only; omega, by dsimp only; omega⟩
    | false =>
      rw [iteO_F, bindO_s, mod_some h1, bindO_s]
      exact ⟨_, _, rfl, Int.emod_nonneg _ (by omega), Int.emod_lt_of_pos _ h1, by dsimp only; omega, by dsimp only; omega, by dsimp only; omega⟩

theorem rng_some {j : Int} (h0 : 0 ≤ j) (h : j ≤ 1000) : pyRng j = some (rng 0 j.toNat) := if_pos ⟨by omega, by omega⟩
theorem start_ok (ns : List Int) (h : ns.length ≤ 63) : ∃ st, m_l_start ns = some st ∧ I 0 st := by
  unfold m_l_start
  have hs : pyScr ns = some ns := if_pos (by omega)
  simp only [letO_s, hs, bindO_s]
  cases hc : decide ((0 : Int) < (ns.length : Int)) with
  | false => exact ⟨_, rfl, by show (0 : Int) ≤ 1; decide, by show (0 : Int) ≤ 0; decide, by show (0 : Int) ≤ 0; decide⟩
  | true =>
    obtain ⟨x, hx⟩ := at_some (l := ns) (i := 0) (by decide) (of_decide_eq_true hc)
    rw [iteO_T, hx]
    exact ⟨_, rfl, by show (0 : Int) ≤ 1; decide, by show (0 : Int) ≤ 0; decide, by show (0 : Int) ≤ 0; decide⟩
theorem forL_cons {α ρ ς : Type} (f : α → ς → Option (Step ρ ς)) (x : α) (xs : List α) (s : ς) : forL f (x :: xs) s = (match f x s with
    | none => none
    | some (.nx s') => forL f xs s'
    | some (.brk s') => some (.nx s')
    | some (.ret b) => some (.ret b)) := rfl
theorem compL_cons {α β : Type} (f : α → Option (Option β)) (x : α) (xs : List α) : compL f (x :: xs) = (match f x with
    | none => none
    | some none => compL f xs
    | some (some y) => match compL f xs with
      | none => none
      | some ys => some (y :: ys)) := rfl

theorem forL_same {α ρ ς : Type} {f : α → ς → Option (Step ρ ς)} {s : ς} : ∀ {xs : List α}, (∀ x ∈ xs, f x s = some (.nx s)) → forL f xs s = some (.nx s)
  | [], _ => rfl
  | x :: xs, h => by
    rw [forL_cons, h x List.mem_cons_self]
    exact forL_same fun y hy => h y (List.mem_cons_of_mem _ hy)
theorem compS_cons {α β ς : Type} (f : α → ς → Option (Option β × ς)) (x : α) (xs : List α) (s : ς) : compS f (x :: xs) s = (match f x s with
    | none => none
    | some (none, s') => compS f xs s'
    | some (some y, s') => match compS f xs s' with
      | none => none
      | some (ys, s'') => some (y :: ys, s'')) := rfl
theorem at_mem {α : Type} {l : List α} {i : Int} {x : α} (h : atI l i = some x) : x ∈ l := by
  unfold atI at h
  cases q : ixN l.length i with
  | none => rw [q] at h; cases h
  | some j => rw [q] at h; exact List.mem_of_getElem? h
/-- a comprehension whose element is drawn -/
theorem drawn_ok {α β : Type} {f : α → Dr → Option (Option β × Dr)} {c : Int} (M : Int) (Z : β → Prop) (hc : 0 ≤ c) (hf : ∀ (x : α) (n : Int) (st : Dr), I n st → n ≤ M → ∃ y st', f x st = some (some y, st') ∧ Z y ∧ I (n + c) st') :
    ∀ (l : List α) (n : Int) (st : Dr), I n st → n + c * (l.length : Int) ≤ M → ∃ (ys : List β) (st' : Dr), compS f l st = some (ys, st') ∧ ys.length = l.length ∧ (∀ y ∈ ys, Z y) ∧ I (n + c * (l.length : Int)) st'
  | [], n, st, h, hm => ⟨[], st, rfl, rfl, (fun _ z => nomatch z), by simpa using h⟩
  | x :: xs, n, st, h, hm => by
    rw [List.length_cons] at hm
    have e0 : c * ((xs.length + 1 : Nat) : Int) = c * (xs.length : Int) + c := by rw [Int.natCast_add, Int.mul_add]; omega
    have e1 : 0 ≤ c * (xs.length : Int) := Int.mul_nonneg hc (by omega)
    obtain ⟨y, s, e, z, i⟩ := hf x n st h (by omega)
    obtain ⟨ys, st', e2, hl, ha, hi⟩ := drawn_ok M Z hc hf xs (n + c) s i (by omega)
    refine ⟨y :: ys, st', ?_, by simp [hl], fun w hw => ?_, ?_⟩
    · rw [compS_cons, e]
      dsimp only
      rw [e2]
    · rcases List.mem_cons.mp hw with rfl | hw
      · exact z
      · exact ha _ hw
    · rw [List.length_cons, e0, show n + (c * (xs.length : Int) + c) = n + c + c * (xs.length : Int) by omega]; exact hi
end Law

set_option maxHeartbeats 4000000
namespace Law
open PySem L2 G
theorem eq_ok {l1 h1 l2 h2 : Option Int} {w1 w2 : List Int} (f1 : Fm l1 h1 w1) (f2 : Fm l2 h2 w2) : ∃ b, m_Region___eq (mkR l1 h1 w1) (mkR l2 h2 w2) = some b ∧ (b = true ↔ ∀ v, Mem l1 h1 w1 v ↔ Mem l2 h2 w2 v) := by
  have key : m_Region___eq (mkR l1 h1 w1) (mkR l2 h2 w2) = some (decide (l1 = l2) && (decide (h1 = h2) && decide (w1 = w2))) := by
    unfold m_Region___eq
    show bindO (iteO true (bindO (iteO (decide (l1 = l2)) (bindO (iteO (decide (h1 = h2)) (bindO (pyEq (dTpl PyData.int w1) (dTpl PyData.int w2)) fun q1 => some q1) (some false)) fun b2 => some b2) (some false)) fun b4 => some b4) (some false)) (fun b6 => some b6) = _
    rw [eq_tpl]
    cases decide (l1 = l2) <;> cases decide (h1 = h2) <;> rfl
  refine ⟨_, key, ?_⟩
  rw [Bool.and_eq_true, Bool.and_eq_true, decide_eq_true_eq, decide_eq_true_eq, decide_eq_true_eq]
  constructor
  · rintro ⟨rfl, rfl, rfl⟩ v; exact Iff.rfl
  · exact fun h => uniq f1 f2 h
end Law

set_option maxHeartbeats 4000000
/-! # meets, equality, within -/
namespace Law
open PySem L2 G
theorem meet_ok {l1 h1 l2 h2 : Option Int} {w1 w2 : List Int} (hw : w1.length + w2.length < 64) : ∃ l h w, m_meet [mkR l1 h1 w1, mkR l2 h2 w2] = some (mkR l h w) ∧ Fm l h w ∧ w.length ≤ w1.length + w2.length ∧ ∀ v, Mem l h w v ↔ Mem l1 h1 w1 v ∧ Mem l2 h2 w2 v := by
  have e3 : comp2 m_meet_ci3 m_meet_c4 [mkR l1 h1 w1, mkR l2 h2 w2] = some (w1 ++ w2) := by
    have e : ∀ (g : Rg) (w : List Int), compL (m_meet_c4 g) w = some w := fun g w => by
      have := compL_all (f := m_meet_c4 g) (g := fun x => x) (xs := w) fun x _ => rfl
      rw [List.map_id'] at this; exact this
    unfold comp2
    have e2 : compL2 m_meet_ci3 m_meet_c4 [mkR l1 h1 w1, mkR l2 h2 w2] = some (w1 ++ (w2 ++ [])) := by
      show bindO (some w1) _ = _
      rw [bindO_s, e, bindO_s]
      show bindO (bindO (some w2) _) _ = _
      rw [bindO_s, e, bindO_s]
      rfl
    rw [e2, bindO_s, List.append_nil, if_pos (by rw [List.length_append]; omega)]
  obtain ⟨lo, e1, m1⟩ : ∃ lo, (bindO (compL m_meet_c1 [mkR l1 h1 w1, mkR l2 h2 w2]) fun l => some (pyMaxN l)) = some lo ∧ ∀ v, LoOk lo v ↔ LoOk l1 v ∧ LoOk l2 v := by
    cases l1 with
    | none => cases l2 with
      | none => exact ⟨_, rfl, fun v => ⟨fun h => ⟨h, h⟩, fun h => h.1⟩⟩
      | some b => exact ⟨_, rfl, fun v => ⟨fun h => ⟨lo_none _, h⟩, fun h => h.2⟩⟩
    | some a => cases l2 with
      | none => exact ⟨_, rfl, fun v => ⟨fun h => ⟨h, lo_none _⟩, fun h => h.1⟩⟩
      | some b =>
        refine ⟨some (max a b), rfl, fun v => ?_⟩
        rw [lo_some, lo_some, lo_some]; omega
  obtain ⟨hi, e2, m2⟩ : ∃ hi, (bindO (compL m_meet_c2 [mkR l1 h1 w1, mkR l2 h2 w2]) fun l => some (pyMinN l)) = some hi ∧ ∀ v, HiOk hi v ↔ HiOk h1 v ∧ HiOk h2 v := by
    cases h1 with
    | none => cases h2 with
      | none => exact ⟨_, rfl, fun v => ⟨fun h => ⟨h, h⟩, fun h => h.1⟩⟩
      | some b => exact ⟨_, rfl, fun v => ⟨fun h => ⟨hi_none _, h⟩, fun h => h.2⟩⟩
    | some a => cases h2 with
      | none => exact ⟨_, rfl, fun v => ⟨fun h => ⟨h, hi_none _⟩, fun h => h.1⟩⟩
      | some b =>
        refine ⟨some (min a b), rfl, fun v => ?_⟩
        rw [hi_some, hi_some, hi_some]; omega
  obtain ⟨x1, y1, e1⟩ := bindO_some e1
  obtain ⟨x2, y2, e2⟩ := bindO_some e2
  cases e1
  cases e2
  obtain ⟨l, h, w, e, f, n, m⟩ := init_ok (pyMaxN x1) (pyMinN x2) (w1 ++ w2) (by rw [List.length_append]; exact hw)
  refine ⟨l, h, w, ?_, f, by rw [List.length_append] at n; exact n, fun v => (m v).trans ?_⟩
  · unfold m_meet
    simp only [y1, y2, e3, bindO_s, letO_s, e]
  · unfold Mem
    rw [m1, m2, List.mem_append]
    constructor
    · rintro ⟨⟨a, b⟩, ⟨c, d⟩, e⟩; exact ⟨⟨a, c, fun z => e (.inl z)⟩, b, d, fun z => e (.inr z)⟩
    · rintro ⟨⟨a, b, c⟩, d, e, f⟩; exact ⟨⟨a, d⟩, ⟨b, e⟩, fun z => z.elim c f⟩
end Law

set_option maxHeartbeats 4000000
/-! # the window about the base -/
namespace Law
open PySem L2 G
theorem mem_rng {lo v : Int} {n : Nat} : v ∈ rng lo n ↔ lo ≤ v ∧ v < lo + (n : Int) := by
  unfold rng
  rw [List.mem_map]
  constructor
  · rintro ⟨i, hi, rfl⟩
    have := List.mem_range.mp hi
    omega
  · intro ⟨h1, h2⟩
    exact ⟨(v - lo).toNat, List.mem_range.mpr (by omega), by omega⟩
theorem rng_asc (lo : Int) (n : Nat) : (rng lo n).Pairwise (· < ·) := by
  unfold rng
  rw [List.pairwise_map]
  exact List.pairwise_lt_range.imp fun h => by omega
theorem first_ok {l : List Int} {a : Int} (hp : l.Pairwise (· < ·)) (h : atI l (0 : Int) = some a) : a ∈ l ∧ ∀ x ∈ l, a ≤ x := by
  refine ⟨at_mem h, fun x hx => ?_⟩
  cases l with
  | nil => cases hx
  | cons y ys =>
    have e : atI (y :: ys) (0 : Int) = some y := by have := atI_nat2 (y :: ys) 0; exact this
    rw [e] at h; cases h
    rcases List.mem_cons.mp hx with rfl | hx
    · exact Int.le_refl _
    · exact Int.le_of_lt ((List.pairwise_cons.mp hp).1 x hx)
theorem last_ok {l : List Int} {a : Int} (hp : l.Pairwise (· < ·)) (h : atI l (-(1 : Int)) = some a) : a ∈ l ∧ ∀ x ∈ l, x ≤ a := by
  refine ⟨at_mem h, fun x hx => ?_⟩
  obtain ⟨i, hi, rfl⟩ := List.getElem_of_mem hx
  have e : atI l (-(1 : Int)) = some l[l.length - 1] := by
    unfold atI ixN
    rw [if_neg (by omega), if_pos (by omega)]
    show l[(-(1 : Int) + (l.length : Int)).toNat]? = _
    rw [show (-(1 : Int) + (l.length : Int)).toNat = l.length - 1 by omega]
    exact List.getElem?_eq_getElem (by omega)
  rw [e] at h; cases h
  by_cases hl : i = l.length - 1
  · subst hl; exact Int.le_refl _
  · exact Int.le_of_lt (List.pairwise_iff_getElem.mp hp i (l.length - 1) hi (by omega) (by omega))
theorem at_first {l : List Int} (h : l ≠ []) : ∃ a, atI l (0 : Int) = some a := at_some (by decide) (by cases l with | nil => exact absurd rfl h | cons x xs => rw [List.length_cons]; omega)
theorem at_last {l : List Int} (h : l ≠ []) : ∃ a, atI l (-(1 : Int)) = some a := by
  have hl : 0 < l.length := List.length_pos_iff.mpr h
  refine ⟨l[l.length - 1], ?_⟩
  unfold atI ixN
  rw [if_neg (by omega), if_pos (by omega)]
  show l[(-(1 : Int) + (l.length : Int)).toNat]? = _
  rw [show (-(1 : Int) + (l.length : Int)).toNat = l.length - 1 by omega]
  exact List.getElem?_eq_getElem (by omega)
structure Wn (P : Int → Bool) (base : Int) (lo hi : Bool) : Prop where
  l1 : lo = true → ∀ v, P v = true → base - 8 ≤ v
  l0 : lo = false → ∀ v, v < base - 8 → P v = true
  h1 : hi = true → ∀ v, P v = true → v ≤ base + 8
  h0 : hi = false → ∀ v, base + 8 < v → P v = true
def Win (base : Int) : List Int := rng (base - 22) 45
theorem wn_empty {P : Int → Bool} {base : Int} {lo hi : Bool} (W : Wn P base lo hi) (h : (Win base).filter P = []) (v : Int) : P v = false := by
  have hin : ∀ u, base - 22 ≤ u → u < base + 23 → P u = false := fun u h1 h2 => by
    cases q : P u with
    | false => rfl
    | true =>
      have : u ∈ (Win base).filter P := List.mem_filter.mpr ⟨mem_rng.mpr ⟨by omega, by omega⟩, q⟩
      rw [h] at this; cases this
  cases q : P v with
  | false => rfl
  | true =>
    by_cases c1 : v < base - 22
    · cases lo with
      | true => have := W.l1 rfl v q; omega
      | false =>
        have h2 := W.l0 rfl (base - 20) (by omega)
        rw [hin (base - 20) (by omega) (by omega)] at h2; cases h2
    · by_cases c2 : base + 22 < v
      · cases hi with
        | true => have := W.h1 rfl v q; omega
        | false =>
          have h2 := W.h0 rfl (base + 20) (by omega)
          rw [hin (base + 20) (by omega) (by omega)] at h2; cases h2
      · rw [hin v (by omega) (by omega)] at q; cases q
theorem wn_form {P : Int → Bool} {base a b : Int} {lo hi : Bool} (W : Wn P base lo hi) (ha : atI ((Win base).filter P) (0 : Int) = some a) (hb : atI ((Win base).filter P) (-(1 : Int)) = some b) :
    Fm (if lo = true then some a else none) (if hi = true then some b else none) (((Win base).filter fun v => !P v).filter fun v => decide (a < v) && decide (v < b)) ∧
    ∀ v, Mem (if lo = true then some a else none) (if hi = true then some b else none) (((Win base).filter fun v => !P v).filter fun v => decide (a < v) && decide (v < b)) v ↔ P v = true := by
  have hasc : ((Win base).filter P).Pairwise (· < ·) := (rng_asc _ _).sublist List.filter_sublist
  obtain ⟨a1, a2⟩ := first_ok hasc ha
  obtain ⟨b1, b2⟩ := last_ok hasc hb
  have hin : ∀ u, base - 22 ≤ u → u < base + 23 → P u = true → u ∈ (Win base).filter P := fun u h1 h2 q => List.mem_filter.mpr ⟨mem_rng.mpr ⟨by omega, by omega⟩, q⟩
  have ha3 := List.mem_filter.mp a1
  have hb3 := List.mem_filter.mp b1
  have ha4 := mem_rng.mp ha3.1
  have hb4 := mem_rng.mp hb3.1
  have hw : ∀ v, v ∈ ((Win base).filter fun v => !P v).filter (fun v => decide (a < v) && decide (v < b)) ↔ a < v ∧ v < b ∧ P v = false := fun v => by
    rw [List.mem_filter, List.mem_filter, Bool.and_eq_true, decide_eq_true_eq, decide_eq_true_eq, Bool.not_eq_true']
    constructor
    · rintro ⟨⟨_, p⟩, q, r⟩; exact ⟨q, r, p⟩
    · rintro ⟨q, r, p⟩; exact ⟨⟨mem_rng.mpr ⟨by omega, by omega⟩, p⟩, q, r⟩
  have alow : lo = false → a = base - 22 := fun e => by
    have := a2 (base - 22) (hin _ (by omega) (by omega) (W.l0 e _ (by omega)))
    omega
  have bhigh : hi = false → b = base + 22 := fun e => by
    have := b2 (base + 22) (hin _ (by omega) (by omega) (W.h0 e _ (by omega)))
    omega
  have hle : a ≤ b := a2 b b1
  constructor
  · refine .inl ⟨((rng_asc _ _).sublist List.filter_sublist).sublist List.filter_sublist, fun x hx => ?_, fun x y e1 e2 => ?_⟩
    · obtain ⟨q, r, _⟩ := (hw x).mp hx
      refine ⟨fun z e => ?_, fun z e => ?_⟩
      · cases lo with
        | true => cases e; exact q
        | false => cases e
      · cases hi with
        | true => cases e; exact r
        | false => cases e
    · cases lo with
      | false => cases e1
      | true => cases hi with
        | false => cases e2
        | true => cases e1; cases e2; exact hle
  · intro v
    constructor
    · rintro ⟨m1, m2, m3⟩
      cases q : P v with
      | true => rfl
      | false =>
        exfalso
        have hnw : ¬ (a < v ∧ v < b) := fun z => m3 ((hw v).mpr ⟨z.1, z.2, q⟩)
        have hva : a ≠ v := fun z => by rw [← z, ha3.2] at q; cases q
        have hvb : b ≠ v := fun z => by rw [← z, hb3.2] at q; cases q
        have c1 : v < a → False := fun z => by
          cases lo with
          | true => have := lo_some.mp (show LoOk (some a) v from m1); omega
          | false =>
            have := alow rfl
            rw [W.l0 rfl v (by omega)] at q; cases q
        have c2 : b < v → False := fun z => by
          cases hi with
          | true => have := hi_some.mp (show HiOk (some b) v from m2); omega
          | false =>
            have := bhigh rfl
            rw [W.h0 rfl v (by omega)] at q; cases q
        have d1 : ¬ v < a := c1
        have d2 : ¬ b < v := c2
        exact hnw ⟨by omega, by omega⟩
    · intro q
      refine ⟨fun x e => ?_, fun x e => ?_, fun z => by rw [((hw v).mp z).2.2] at q; cases q⟩
      · cases lo with
        | false => cases e
        | true =>
          cases e
          have := W.l1 rfl v q
          by_cases c : v < base + 23
          · exact a2 v (hin v (by omega) c q)
          · omega
      · cases hi with
        | false => cases e
        | true =>
          cases e
          have := W.h1 rfl v q
          by_cases c : base - 22 ≤ v
          · exact b2 v (hin v c (by omega) q)
          · omega
/-! ### the parts that the law draws -/
abbrev Pt := Option Int × Option Int × List Int
def Near (base : Int) (p : Pt) : Prop := (∀ a, p.1 = some a → base - 8 ≤ a ∧ a ≤ base + 8) ∧ (∀ b, p.2.1 = some b → base - 8 ≤ b ∧ b ≤ base + 8) ∧ ∀ x ∈ p.2.2, base - 8 ≤ x ∧ x ≤ base + 8
def mp (p : Pt) (v : Int) : Bool := mb p.1 p.2.1 p.2.2 v
theorem wn_parts {base : Int} {ps : List Pt} (h : ∀ p ∈ ps, Near base p) : Wn (fun v => ps.all fun p => mp p v) base (ps.any fun p => p.1.isSome) (ps.any fun p => p.2.1.isSome) where
  l1 e v q := by
    obtain ⟨p, hp, e⟩ := List.any_eq_true.mp e
    have hm := (mb_iff _ _ _ _).mp (List.all_eq_true.mp q p hp)
    cases ep : p.1 with
    | none => rw [ep] at e; cases e
    | some a =>
      have := hm.1 a ep
      have := (h p hp).1 a ep
      omega
  l0 e v q := by
    refine List.all_eq_true.mpr fun p hp => (mb_iff _ _ _ _).mpr ⟨fun a ea => ?_, fun b eb => ?_, fun z => ?_⟩
    · have := List.any_eq_false.mp e p hp
      rw [ea] at this; exact absurd rfl this
    · have := (h p hp).2.1 b eb; omega
    · have := (h p hp).2.2 v z; omega
  h1 e v q := by
    obtain ⟨p, hp, e⟩ := List.any_eq_true.mp e
    have hm := (mb_iff _ _ _ _).mp (List.all_eq_true.mp q p hp)
    cases ep : p.2.1 with
    | none => rw [ep] at e; cases e
    | some a =>
      have := hm.2.1 a ep
      have := (h p hp).2.1 a ep
      omega
  h0 e v q := by
    refine List.all_eq_true.mpr fun p hp => (mb_iff _ _ _ _).mpr ⟨fun a ea => ?_, fun b eb => ?_, fun z => ?_⟩
    · have := (h p hp).1 a ea; omega
    · have := List.any_eq_false.mp e p hp
      rw [eb] at this; exact absurd rfl this
    · have := (h p hp).2.2 v z; omega
theorem end_ok {n base : Int} {st : Dr} (h : I n st) (hn : n ≤ 60000) : ∃ o st', m_l_end st base = some (o, st') ∧ (∀ a, o = some a → base - 6 ≤ a ∧ a ≤ base + 6) ∧ I (n + 2) st' := by
  unfold m_l_end
  obtain ⟨d, s, e, p, q, i⟩ := draw_ok h (by omega) (show (0 : Int) < 4 by decide) (by decide)
  simp only [e, bindO_s, letO_s]
  by_cases hd : d = 0
  · rw [decide_eq_true hd, iteO_T]
    exact ⟨_, _, rfl, (fun _ z => nomatch z), i.1, i.2.1, by have := i.2.2; omega⟩
  · rw [decide_eq_false hd, iteO_F]
    obtain ⟨d2, s2, e2, p2, q2, i2⟩ := draw_ok i (by omega) (show (0 : Int) < 13 by decide) (by decide)
    simp only [e2, bindO_s]
    refine ⟨_, _, rfl, fun a ea => ?_, i2.1, i2.2.1, by have := i2.2.2; omega⟩
    cases ea
    omega
theorem base_ok {n : Int} {st : Dr} (h : I n st) (hn : n ≤ 60000) : ∃ b st', m_l_base st = some (b, st') ∧ I (n + 1) st' := by
  unfold m_l_base
  obtain ⟨d, s, e, p, q, i⟩ := draw_ok h (by omega) (show (0 : Int) < 5 by decide) (by decide)
  simp only [e, bindO_s, letO_s]
  by_cases hd : d < 3
  · rw [decide_eq_true hd, iteO_T]; exact ⟨_, _, rfl, i⟩
  · rw [decide_eq_false hd, iteO_F]
    obtain ⟨x, hx⟩ := at_some (l := [((10 : Int) ^ ((40 : Int)).toNat), (-((10 : Int) ^ ((40 : Int)).toNat))]) (i := d - 3) (by omega) (by show d - 3 < 2; omega)
    rw [hx]
    exact ⟨_, _, rfl, i⟩
theorem base_ok2 {n : Int} {st : Dr} (h : I n st) (hn : n ≤ 60000) : ∃ b st', m_l_base st = some (b, st') ∧ (-(10 ^ 40) ≤ b ∧ b ≤ 10 ^ 40) ∧ I (n + 1) st' := by
  unfold m_l_base
  obtain ⟨d, s, e, p, q, i⟩ := draw_ok h (by omega) (show (0 : Int) < 5 by decide) (by decide)
  simp only [e, bindO_s, letO_s]
  by_cases hd : d < 3
  · rw [decide_eq_true hd, iteO_T]; exact ⟨_, _, rfl, ⟨by decide, by decide⟩, i⟩
  · rw [decide_eq_false hd, iteO_F]
    obtain ⟨x, hx⟩ := at_some (l := [((10 : Int) ^ ((40 : Int)).toNat), (-((10 : Int) ^ ((40 : Int)).toNat))]) (i := d - 3) (by omega) (by show d - 3 < 2; omega)
    have hm := at_mem hx
    rw [hx]
    refine ⟨_, _, rfl, ?_, i⟩
    simp only [List.mem_cons, List.mem_nil_iff, or_false] at hm
    rcases hm with rfl | rfl
    · exact ⟨by decide, by decide⟩
    · exact ⟨by decide, by decide⟩
/-- where the ends and the numbers left out lie -/
theorem wn_bound {P : Int → Bool} {base : Int} {lo hi : Bool} (W : Wn P base lo hi) {l h : Option Int} {w : List Int} (f : Fm l h w) (m : ∀ v, Mem l h w v ↔ P v = true) : (l = some 1 ∧ h = some 0 ∧ w = []) ∨
    ((∀ x, l = some x → base - 9 ≤ x ∧ x ≤ base + 9) ∧ (∀ x, h = some x → base - 9 ≤ x ∧ x ≤ base + 9) ∧ ∀ x ∈ w, base - 9 ≤ x ∧ x ≤ base + 9) := by
  rcases f with f | f
  · right
    have hlo : ∀ x, l = some x → lo = true := fun x e => by
      cases lo with
      | true => rfl
      | false =>
        have := lo_some.mp (e ▸ ((m (min (x - 1) (base - 9))).mpr (W.l0 rfl _ (by omega))).1)
        omega
    have hhi : ∀ x, h = some x → hi = true := fun x e => by
      cases hi with
      | true => rfl
      | false =>
        have := hi_some.mp (e ▸ ((m (max (x + 1) (base + 9))).mpr (W.h0 rfl _ (by omega))).2.1)
        omega
    have hno : l = none → lo = false := fun e => by
      subst e
      cases lo with
      | false => rfl
      | true =>
        obtain ⟨v, h1, h2⟩ := far_low (h := h) (w := w) (base - 9)
        have := W.l1 rfl v ((m v).mp h2)
        omega
    have hnh : h = none → hi = false := fun e => by
      subst e
      cases hi with
      | false => rfl
      | true =>
        obtain ⟨v, h1, h2⟩ := far_high (l := l) (w := w) (base + 9)
        have := W.h1 rfl v ((m v).mp h2)
        omega
    have b1 : ∀ x, l = some x → base - 9 ≤ x ∧ x ≤ base + 9 := fun x e => by
      have hx : P x = true := (m x).mp (by subst e; exact low_mem f)
      refine ⟨by have := W.l1 (hlo x e) x hx; omega, ?_⟩
      cases hi with
      | true => have := W.h1 rfl x hx; omega
      | false =>
        have := lo_some.mp (e ▸ ((m (base + 9)).mpr (W.h0 rfl _ (by omega))).1)
        omega
    have b2 : ∀ x, h = some x → base - 9 ≤ x ∧ x ≤ base + 9 := fun x e => by
      have hx : P x = true := (m x).mp (by subst e; exact high_mem f)
      refine ⟨?_, by have := W.h1 (hhi x e) x hx; omega⟩
      cases lo with
      | true => have := W.l1 rfl x hx; omega
      | false =>
        have := hi_some.mp (e ▸ ((m (base - 9)).mpr (W.l0 rfl _ (by omega))).2.1)
        omega
    refine ⟨b1, b2, fun x hx => ?_⟩
    have q := f.2.1 x hx
    have nx : ¬ P x = true := fun z => ((m x).mpr z).2.2 hx
    constructor
    · cases e : l with
      | some a => have := q.1 a e; have := b1 a e; omega
      | none =>
        by_cases c : x < base - 8
        · exact absurd (W.l0 (hno e) x c) nx
        · omega
    · cases e : h with
      | some a => have := q.2 a e; have := b2 a e; omega
      | none =>
        by_cases c : base + 8 < x
        · exact absurd (W.h0 (hnh e) x c) nx
        · omega
  · exact .inl f
theorem parts_ok {n base : Int} {st : Dr} (h : I n st) (hn : n ≤ 50000) : ∃ p st', m_l_parts st base = some (p, st') ∧ (Near base p ∧ p.2.2.length ≤ 8) ∧ I (n + 20) st' := by
  unfold m_l_parts
  obtain ⟨o1, s1, e1, b1, i1⟩ := end_ok (base := base) h (by omega)
  obtain ⟨o2, s2, e2, b2, i2⟩ := end_ok (base := base) i1 (by omega)
  obtain ⟨d, s3, e3, p3, q3, i3⟩ := draw_ok i2 (by omega) (show (0 : Int) < 9 by decide) (by decide)
  simp only [e1, e2, e3, bindO_s, letO_s, rng_some p3 (by omega)]
  obtain ⟨ys, s4, e4, hl, hz, i4⟩ := drawn_ok (f := m_l_parts_c1 base) (c := 1) 60000 (fun y => base - 8 ≤ y ∧ y ≤ base + 8) (by decide) (fun x n st h hn => by
    obtain ⟨d, s, e, p, q, i⟩ := draw_ok h (by omega) (show (0 : Int) < 17 by decide) (by decide)
    unfold m_l_parts_c1
    simp only [e, bindO_s]
    exact ⟨_, _, rfl, ⟨by omega, by omega⟩, i⟩) (rng 0 d.toNat) _ s3 i3 (by rw [rng_len]; omega)
  rw [rng_len] at hl i4
  simp only [e4, bindO_s]
  exact ⟨_, _, rfl, ⟨⟨fun a ea => by have := b1 a ea; omega, fun a ea => by have := b2 a ea; omega, hz⟩, by show ys.length ≤ 8; omega⟩, i4.1, i4.2.1, by have := i4.2.2; omega⟩
end Law

set_option maxHeartbeats 4000000
namespace Law
open PySem L2 G
theorem asc_len : ∀ (w : List Int) (a b : Int), w.Pairwise (· < ·) → (∀ x ∈ w, a < x ∧ x < b) → w.length ≤ (b - a - 1).toNat
  | [], _, _, _, _ => Nat.zero_le _
  | x :: xs, a, b, hp, h => by
    have hp' := List.pairwise_cons.mp hp
    have hx := h x List.mem_cons_self
    have := asc_len xs x b hp'.2 fun y hy => ⟨hp'.1 y hy, (h y (List.mem_cons_of_mem _ hy)).2⟩
    rw [List.length_cons]
    omega
/-- what the size says -/
theorem size_zero {l h : Option Int} {w : List Int} (f : Fm l h w) : szR l h w = some 0 ↔ (l = some 1 ∧ h = some 0) := by
  rcases f with f | ⟨rfl, rfl, rfl⟩
  · cases l with
    | none => simp [szR]
    | some a => cases h with
      | none => simp [szR]
      | some b =>
        have hab := f.2.2 a b rfl rfl
        have hl := asc_len w a b f.1 fun x hx => ⟨(f.2.1 x hx).1 a rfl, (f.2.1 x hx).2 b rfl⟩
        show some (b - a + 1 - (w.length : Int)) = some 0 ↔ _
        constructor
        · intro e; injection e with e; omega
        · rintro ⟨e1, e2⟩; cases e1; cases e2; omega
  · simp [szR]
theorem size_one {l h : Option Int} {w : List Int} (f : Fm l h w) (hz : ¬ (l = some 1 ∧ h = some 0)) : szR l h w = some 1 ↔ (l.isSome = true ∧ l = h) := by
  rcases f with f | ⟨rfl, rfl, rfl⟩
  · cases l with
    | none => simp [szR]
    | some a => cases h with
      | none => simp [szR]
      | some b =>
        have hab := f.2.2 a b rfl rfl
        have hl := asc_len w a b f.1 fun x hx => ⟨(f.2.1 x hx).1 a rfl, (f.2.1 x hx).2 b rfl⟩
        show some (b - a + 1 - (w.length : Int)) = some 1 ↔ _
        constructor
        · intro e; injection e with e
          have : a = b := by omega
          rw [this]; exact ⟨rfl, rfl⟩
        · rintro ⟨_, e2⟩; cases e2
          congr 1; omega
  · exact absurd ⟨rfl, rfl⟩ hz
end Law

set_option maxHeartbeats 4000000
namespace Law
open PySem L2 G
theorem inpart_ok (p : Pt) (v : Int) : m_l_in_part p v = some (mp p v) := by
  obtain ⟨l, h, w⟩ := p
  unfold m_l_in_part mp mb btw
  cases l with
  | none => cases h with
    | none => rfl
    | some b =>
      by_cases c : b < v
      · simp [c, bindO_s, letO_s, iteO_T, iteO_F, show ¬ v ≤ b by omega]
      · simp [c, bindO_s, letO_s, iteO_T, iteO_F, show v ≤ b by omega]
  | some a =>
    by_cases d : v < a
    · simp [d, bindO_s, letO_s, iteO_T, iteO_F, show ¬ a ≤ v by omega]
    · cases h with
      | none => simp [d, bindO_s, letO_s, iteO_T, iteO_F, show a ≤ v by omega]
      | some b =>
        by_cases c : b < v
        · simp [c, d, bindO_s, letO_s, iteO_T, iteO_F, show a ≤ v by omega, show ¬ v ≤ b by omega]
        · simp [c, d, bindO_s, letO_s, iteO_T, iteO_F, show a ≤ v by omega, show v ≤ b by omega]
theorem window_ok (base : Int) : m_l_window base = some (Win base) := by
  unfold m_l_window
  have e : pyRng3 (base - 22) (base + 23) = some (Win base) := by
    unfold pyRng3 Win
    rw [if_pos (by omega), show base + 23 - (base - 22) = 45 by omega]; rfl
  rw [e, bindO_s, compL_all (f := m_l_window_c1) (g := fun x => x) fun x _ => rfl, bindO_s, List.map_id']
def All (ps : List Pt) (v : Int) : Prop := ∀ p ∈ ps, Mem p.1 p.2.1 p.2.2 v
theorem all_app {a b : List Pt} {v : Int} : All (a ++ b) v ↔ All a v ∧ All b v := by
  unfold All
  constructor
  · intro h; exact ⟨fun p hp => h p (List.mem_append_left _ hp), fun p hp => h p (List.mem_append_right _ hp)⟩
  · rintro ⟨h1, h2⟩ p hp; exact (List.mem_append.mp hp).elim (h1 p) (h2 p)
def RG (g : Rg) (ps : List Pt) (n : Nat) : Prop := ∃ l h w, g = mkR l h w ∧ Fm l h w ∧ w.length ≤ n ∧ ∀ v, Mem l h w v ↔ All ps v
theorem rg_init (p : Pt) {n : Nat} (hp : p.2.2.length ≤ n) (hn : n < 64) : ∃ g, m_Region___init p.1 p.2.1 p.2.2 = some g ∧ RG g [p] n := by
  obtain ⟨l, h, w, e, f, c, m⟩ := init_ok p.1 p.2.1 p.2.2 (by omega)
  exact ⟨_, e, l, h, w, rfl, f, by omega, fun v => (m v).trans ⟨fun z q hq => by rw [List.mem_singleton.mp hq]; exact z, fun z => z p (List.mem_singleton.mpr rfl)⟩⟩
theorem rg_plain : ∃ g, m_Region___init___Vk none none [] = some g ∧ RG g [] 0 := by
  obtain ⟨l, h, w, e, f, c, m⟩ := init_ok none none [] (by decide)
  exact ⟨_, e, l, h, w, rfl, f, c, fun v => (m v).trans ⟨(fun _ _ z => nomatch z), fun _ => ⟨lo_none _, hi_none _, (fun z => nomatch z)⟩⟩⟩
theorem rg_eq {g1 g2 : Rg} {p1 p2 : List Pt} {n1 n2 : Nat} (h1 : RG g1 p1 n1) (h2 : RG g2 p2 n2) : ∃ b, m_Region___eq g1 g2 = some b ∧ (b = true ↔ ∀ v, All p1 v ↔ All p2 v) := by
  obtain ⟨l1, u1, w1, rfl, f1, c1, m1⟩ := h1
  obtain ⟨l2, u2, w2, rfl, f2, c2, m2⟩ := h2
  obtain ⟨b, e, h⟩ := eq_ok f1 f2
  refine ⟨b, e, h.trans ⟨fun z v => ?_, fun z v => ?_⟩⟩
  · rw [← m1, ← m2]; exact z v
  · rw [m1, m2]; exact z v
theorem rg_eqT {g1 g2 : Rg} {p1 p2 : List Pt} {n1 n2 : Nat} (h1 : RG g1 p1 n1) (h2 : RG g2 p2 n2) (h : ∀ v, All p1 v ↔ All p2 v) : m_Region___eq g1 g2 = some true := by
  obtain ⟨b, e, z⟩ := rg_eq h1 h2
  rw [e, z.mpr h]
theorem rg_initk (p : Pt) {n : Nat} (hp : p.2.2.length ≤ n) (hn : n < 64) : ∃ g, m_Region___init___Vk p.1 p.2.1 p.2.2 = some g ∧ RG g [p] n := rg_init p hp hn
theorem rg_within {g1 g2 : Rg} {p1 p2 : List Pt} {n1 n2 : Nat} (h1 : RG g1 p1 n1) (h2 : RG g2 p2 n2) (hn : n1 + n2 < 64) : ∃ b, m_Region_within g1 g2 = some b ∧ (b = true ↔ ∀ v, All p1 v → All p2 v) := by
  obtain ⟨l1, u1, w1, rfl, f1, c1, m1⟩ := h1
  obtain ⟨l2, u2, w2, rfl, f2, c2, m2⟩ := h2
  obtain ⟨l, u, w, e, f, c, m⟩ := meet_ok (l1 := l1) (h1 := u1) (l2 := l2) (h2 := u2) (w1 := w1) (w2 := w2) (by omega)
  obtain ⟨b, e2, hb⟩ := eq_ok f f1
  refine ⟨b, ?_, hb.trans ⟨fun z v q => ?_, fun z v => ⟨fun q => ((m v).mp q).1, fun q => (m v).mpr ⟨q, (m2 v).mpr (z v ((m1 v).mp q))⟩⟩⟩⟩
  · unfold m_Region_within
    rw [e, bindO_s, e2, bindO_s]
  · exact (m2 v).mp ((m v).mp ((z v).mpr ((m1 v).mpr q))).2
/-! ### the window of the law -/
def Nr (base k : Int) (p : Pt) : Prop := (∀ a, p.1 = some a → base - k ≤ a ∧ a ≤ base + k) ∧ (∀ b, p.2.1 = some b → base - k ≤ b ∧ b ≤ base + k) ∧ ∀ x ∈ p.2.2, base - k ≤ x ∧ x ≤ base + k
theorem nr_near {base : Int} {p : Pt} (h : Near base p) : Nr base 13 p := ⟨fun a e => by have := h.1 a e; omega, fun b e => by have := h.2.1 b e; omega, fun x e => by have := h.2.2 x e; omega⟩
theorem mp_iff {p : Pt} {v : Int} : mp p v = true ↔ Mem p.1 p.2.1 p.2.2 v := mb_iff _ _ _ _
theorem nr_high {base v : Int} {p : Pt} (h : Nr base 13 p) (hv : base + 13 < v) : Mem p.1 p.2.1 p.2.2 v ↔ p.2.1 = none := by
  constructor
  · intro z
    cases e : p.2.1 with
    | none => rfl
    | some b =>
      have h1 := h.2.1 b e
      have h2 := z.2.1 b e
      omega
  · intro e
    exact ⟨fun a ea => by have := h.1 a ea; omega, fun b eb => (by rw [e] at eb; cases eb), fun z => by have := h.2.2 v z; omega⟩
theorem nr_low {base v : Int} {p : Pt} (h : Nr base 13 p) (hv : v < base - 13) : Mem p.1 p.2.1 p.2.2 v ↔ p.1 = none := by
  constructor
  · intro z
    cases e : p.1 with
    | none => rfl
    | some b =>
      have h1 := h.1 b e
      have h2 := z.1 b e
      omega
  · intro e
    exact ⟨fun b eb => (by rw [e] at eb; cases eb), fun a ea => by have := h.2.1 a ea; omega, fun z => by have := h.2.2 v z; omega⟩
theorem lwithin_ok {base : Int} {p q : Pt} (hp : Nr base 13 p) (hq : Nr base 13 q) : ∃ b, m_l_within p q base = some b ∧ (b = true ↔ ∀ v, Mem p.1 p.2.1 p.2.2 v → Mem q.1 q.2.1 q.2.2 v) := by
  have e1 : compL (m_l_within_c1 p q) (Win base) = some (((Win base).filter fun v => mp p v && !mp q v).map fun x => x) := compL_fil fun v _ => by
    unfold m_l_within_c1
    simp only [inpart_ok, bindO_s, letO_s]
    cases mp p v <;> cases mp q v <;> rfl
  have e2 : pyEq ((dLst PyData.int) ((Win base).filter fun v => mp p v && !mp q v)) ((dHls dw0) ()) = some ((Win base).filter fun v => mp p v && !mp q v).isEmpty := eq_nil _ _ (lay_ints _) (by rw [dep_ints]; decide)
  refine ⟨((Win base).filter fun v => mp p v && !mp q v).isEmpty, ?_, ?_⟩
  · unfold m_l_within
    rw [List.map_id'] at e1
    simp only [window_ok, bindO_s, e1, e2]
  · rw [List.isEmpty_iff, List.filter_eq_nil_iff]
    have tr : ∀ v, ¬ (mp p v && !mp q v) = true ↔ (Mem p.1 p.2.1 p.2.2 v → Mem q.1 q.2.1 q.2.2 v) := fun v => by
      rw [← mp_iff, ← mp_iff]
      cases mp p v <;> cases mp q v <;> simp
    constructor
    · intro z v m
      by_cases c1 : v < base - 22
      · have := (tr (base - 20)).mp (z (base - 20) (mem_rng.mpr ⟨by omega, by omega⟩)) ((nr_low hp (by omega)).mpr ((nr_low hp (by omega)).mp m))
        exact (nr_low hq (by omega)).mpr ((nr_low hq (v := base - 20) (by omega)).mp this)
      · by_cases c2 : base + 22 < v
        · have := (tr (base + 20)).mp (z (base + 20) (mem_rng.mpr ⟨by omega, by omega⟩)) ((nr_high hp (by omega)).mpr ((nr_high hp (by omega)).mp m))
          exact (nr_high hq (by omega)).mpr ((nr_high hq (v := base + 20) (by omega)).mp this)
        · exact (tr v).mp (z v (mem_rng.mpr ⟨by omega, by omega⟩)) m
    · intro z v _
      exact (tr v).mpr (z v)
/-! ### the second parts -/
theorem cat_some {l m : List Int} (h : l.length + m.length ≤ 1000) : pyCat l m = some (l ++ m) := if_pos (by omega)
theorem app_some {l : List Int} {x : Int} (h : l.length < 1000) : pyApp l x = some (l ++ [x]) := if_pos (by omega)
theorem pop_some {l : List Int} {j : Int} (h0 : 0 ≤ j) (h : j < (l.length : Int)) (hl : l.length ≤ 1000) : pyPopAt l j = some (l.eraseIdx j.toNat) := by
  have e : seqIndex? j l.length = some j.toNat := by
    unfold seqIndex?
    simp only [if_neg (show ¬ j < 0 by omega)]
    rw [if_pos]
    simp [h0, h]
  unfold pyPopAt
  simp only [e]
  rw [if_pos ⟨by omega, by omega, by omega⟩]
theorem moved_ok {n base : Int} {st : Dr} {p : Pt} (h : I n st) (hn : n ≤ 50000) (hp : Near base p) (hl : p.2.2.length ≤ 8) : ∃ q st', m_l_moved st p = some (q, st') ∧ Nr base 13 q ∧ q.2.2.length ≤ 18 := by
  obtain ⟨l, u, w⟩ := p
  obtain ⟨h1, h2, h3⟩ := hp
  dsimp only at h1 h2 h3 hl
  unfold m_l_moved
  obtain ⟨d, s1, e1, p1, q1, i1⟩ := draw_ok h (by omega) (show (0 : Int) < 7 by decide) (by decide)
  obtain ⟨d2, s2, e2, p2, q2, i2⟩ := draw_ok i1 (by omega) (show (0 : Int) < 2 by decide) (by decide)
  obtain ⟨d3, s3, e3, p3, q3, i3⟩ := draw_ok i2 (by omega) (show (0 : Int) < 17 by decide) (by decide)
  obtain ⟨x, hx⟩ := at_some (l := [(-(1 : Int)), (1 : Int)]) (i := d2) p2 (by show d2 < 2; omega)
  have hm := at_mem hx
  have hxb : -1 ≤ x ∧ x ≤ 1 := by
    simp only [List.mem_cons, List.mem_nil_iff, or_false] at hm
    omega
  simp only [e1, e2, e3, hx, bindO_s, letO_s]
  have nn : Nr base 13 (l, u, w) := ⟨fun a e => by have := h1 a e; omega, fun b e => by have := h2 b e; omega, fun x e => by have := h3 x e; omega⟩
  have hd : d = 0 ∨ d = 1 ∨ d = 2 ∨ d = 3 ∨ d = 4 ∨ 4 < d := by omega
  rcases hd with rfl | rfl | rfl | rfl | rfl | hd
  · cases l with
    | none => exact ⟨_, _, rfl, nn, by show w.length ≤ 18; omega⟩
    | some a => exact ⟨_, _, rfl, ⟨fun b e => by cases e; have := h1 a rfl; omega, nn.2⟩, by show w.length ≤ 18; omega⟩
  · cases u with
    | none => exact ⟨_, _, rfl, nn, by show w.length ≤ 18; omega⟩
    | some a => exact ⟨_, _, rfl, ⟨nn.1, fun b e => by cases e; have := h2 a rfl; omega, nn.2.2⟩, by show w.length ≤ 18; omega⟩
  · exact ⟨_, _, rfl, ⟨(fun b e => nomatch e), nn.2⟩, by show w.length ≤ 18; omega⟩
  · exact ⟨_, _, rfl, ⟨nn.1, (fun b e => nomatch e), nn.2.2⟩, by show w.length ≤ 18; omega⟩
  · cases w with
    | nil => exact ⟨_, _, rfl, nn, by show 0 ≤ 18; omega⟩
    | cons y ys =>
      have hlen : (0 : Int) < ((y :: ys).length : Int) := by rw [List.length_cons]; omega
      have hmod : pyMod d3 ((y :: ys).length : Int) = some (d3 % ((y :: ys).length : Int)) := mod_some hlen
      have hpop := pop_some (l := y :: ys) (j := d3 % ((y :: ys).length : Int)) (Int.emod_nonneg _ (by omega)) (Int.emod_lt_of_pos _ hlen) (by omega)
      have hc : ((decide ((4 : Int) = 4)) && (decide ((0 : Int) < ((y :: ys).length : Int)))) = true := by rw [decide_eq_true hlen]; rfl
      have h42 : (decide ((4 : Int) < 2)) = false := rfl
      have h43 : ((decide ((4 : Int) = 2)) || (decide ((4 : Int) = 3))) = false := rfl
      simp only [h42, h43, iteO_F, bindO_s, letO_s, decide_true, Bool.true_and, decide_eq_true hlen, iteO_T, hmod, hpop]
      exact ⟨(l, u, (y :: ys).eraseIdx _), _, rfl, ⟨nn.1, nn.2.1, fun z hz => nn.2.2 z (List.mem_of_mem_eraseIdx hz)⟩, Nat.le_trans (List.length_eraseIdx_le ..) (by omega)⟩
  · have h1' : (decide (d < 2)) = false := decide_eq_false (by omega)
    have h2' : ((decide (d = 2)) || (decide (d = 3))) = false := by rw [decide_eq_false (by omega), decide_eq_false (by omega)]; rfl
    have h3' : (decide (d = 4)) = false := decide_eq_false (by omega)
    simp only [h1', h2', h3', iteO_F, bindO_s, letO_s, Bool.false_and]
    exact ⟨_, _, rfl, nn, by show w.length ≤ 18; omega⟩
theorem spelled_ok {n base : Int} {st : Dr} {p : Pt} (h : I n st) (hn : n ≤ 50000) (hp : Near base p) (hl : p.2.2.length ≤ 8) : ∃ q st', m_l_spelled st p base = some (q, st') ∧ Nr base 13 q ∧ q.2.2.length ≤ 18 := by
  obtain ⟨l, u, w⟩ := p
  obtain ⟨h1, h2, h3⟩ := hp
  dsimp only at h1 h2 h3 hl
  unfold m_l_spelled
  have hc : pyCat w.reverse w = some (w.reverse ++ w) := cat_some (by rw [List.length_reverse]; omega)
  simp only [letO_s, hc, bindO_s]
  have hlen : (w.reverse ++ w).length ≤ 16 := by rw [List.length_append, List.length_reverse]; omega
  have hin : ∀ x ∈ w.reverse ++ w, base - 13 ≤ x ∧ x ≤ base + 13 := fun x hx => by
    have : x ∈ w := by rcases List.mem_append.mp hx with z | z; exact List.mem_reverse.mp z; exact z
    have := h3 x this; omega
  generalize w.reverse ++ w = ws at hlen hin
  have s1 : ∃ vs st' n', iteO l.isSome (bindO l fun g7 => bindO (m_l_draw st (5 : Int)) fun p8 => bindO (pyApp ws ((g7 - (1 : Int)) - p8.1)) fun holes9 => some (holes9, p8.2)) (some (ws, st)) = some (vs, st') ∧ vs.length ≤ 17 ∧ (∀ x ∈ vs, base - 13 ≤ x ∧ x ≤ base + 13) ∧ I n' st' ∧ n' ≤ 50001 := by
    cases l with
    | none => exact ⟨ws, st, n, rfl, by omega, hin, h, by omega⟩
    | some a =>
      obtain ⟨d, s, e, p0, q0, i⟩ := draw_ok h (by omega) (show (0 : Int) < 5 by decide) (by decide)
      have := h1 a rfl
      refine ⟨ws ++ [a - 1 - d], s, n + 1, ?_, by rw [List.length_append, List.length_singleton]; omega, fun x hx => ?_, i, by omega⟩
      · simp only [Option.isSome_some, iteO_T, bindO_s, e, app_some (show ws.length < 1000 by omega)]
      · rcases List.mem_append.mp hx with z | z
        · exact hin x z
        · rw [List.mem_singleton.mp z]; omega
  obtain ⟨vs, st1, n1, e1, l1, in1, i1, hn1⟩ := s1
  simp only [e1, bindO_s]
  have s2 : ∃ us st', iteO u.isSome (bindO u fun g12 => bindO (m_l_draw st1 (5 : Int)) fun p13 => bindO (pyApp vs ((g12 + (1 : Int)) + p13.1)) fun holes14 => some (holes14, p13.2)) (some (vs, st1)) = some (us, st') ∧ us.length ≤ 18 ∧ (∀ x ∈ us, base - 13 ≤ x ∧ x ≤ base + 13) := by
    cases u with
    | none => exact ⟨vs, st1, rfl, by omega, in1⟩
    | some a =>
      obtain ⟨d, s, e, p0, q0, i⟩ := draw_ok i1 (by omega) (show (0 : Int) < 5 by decide) (by decide)
      have := h2 a rfl
      refine ⟨vs ++ [a + 1 + d], s, ?_, by rw [List.length_append, List.length_singleton]; omega, fun x hx => ?_⟩
      · simp only [Option.isSome_some, iteO_T, bindO_s, e, app_some (show vs.length < 1000 by omega)]
      · rcases List.mem_append.mp hx with z | z
        · exact in1 x z
        · rw [List.mem_singleton.mp z]; omega
  obtain ⟨us, st2, e2, l2, in2⟩ := s2
  simp only [e2, bindO_s]
  exact ⟨(l, u, us), _, rfl, ⟨fun a e => by have := h1 a e; omega, fun a e => by have := h2 a e; omega, in2⟩, l2⟩
theorem second_ok {n base : Int} {st : Dr} {p : Pt} (h : I n st) (hn : n ≤ 40000) (hp : Near base p) (hl : p.2.2.length ≤ 8) : ∃ q st', m_l_second st p base = some (q, st') ∧ Nr base 13 q ∧ q.2.2.length ≤ 18 := by
  unfold m_l_second
  obtain ⟨d, s1, e1, p1, q1, i1⟩ := draw_ok h (by omega) (show (0 : Int) < 6 by decide) (by decide)
  simp only [e1, bindO_s, letO_s]
  by_cases c1 : d < 3
  · obtain ⟨q, s, e, z, i⟩ := parts_ok (base := base) i1 (by omega)
    simp only [decide_eq_true c1, iteO_T, e, bindO_s]
    exact ⟨_, _, rfl, nr_near z.1, by omega⟩
  · by_cases c2 : d = 3
    · obtain ⟨q, s, e, z, y⟩ := spelled_ok (base := base) (p := p) i1 (by omega) hp hl
      simp only [decide_eq_false c1, decide_eq_true c2, iteO_T, iteO_F, e, bindO_s]
      exact ⟨_, _, rfl, z, y⟩
    · by_cases c3 : d = 4
      · obtain ⟨d2, s2, e2, p2, q2, i2⟩ := draw_ok i1 (by omega) (show (0 : Int) < 17 by decide) (by decide)
        simp only [decide_eq_false c1, decide_eq_false c2, decide_eq_true c3, iteO_T, iteO_F, e2, bindO_s, cat_some (l := p.2.2) (m := [base + d2 - 8]) (by rw [List.length_singleton]; omega)]
        have nn := nr_near hp
        refine ⟨(p.1, p.2.1, p.2.2 ++ [base + d2 - 8]), _, rfl, ⟨nn.1, nn.2.1, fun x hx => ?_⟩, by show (p.2.2 ++ [base + d2 - 8]).length ≤ 18; rw [List.length_append, List.length_singleton]; omega⟩
        rcases List.mem_append.mp hx with z | z
        · exact nn.2.2 x z
        · rw [List.mem_singleton.mp z]; omega
      · obtain ⟨q, s, e, z, y⟩ := moved_ok (base := base) (p := p) i1 (by omega) hp hl
        simp only [decide_eq_false c1, decide_eq_false c2, decide_eq_false c3, iteO_F, e, bindO_s]
        exact ⟨_, _, rfl, z, y⟩
theorem all_one {p : Pt} {v : Int} : All [p] v ↔ Mem p.1 p.2.1 p.2.2 v := ⟨fun z => z p (List.mem_singleton.mpr rfl), fun z q hq => by rw [List.mem_singleton.mp hq]; exact z⟩
theorem all_nil {v : Int} : All [] v := fun _ z => nomatch z
theorem bool_true {a b : Bool} (h : a = true ↔ b = true) : a = b := by cases a <;> cases b <;> simp_all
theorem law_true (ns : List Int) (h : ns.length ≤ 63) : m_law ns = some true := by
  unfold m_law
  obtain ⟨st, e0, i0⟩ := start_ok ns h
  obtain ⟨base, s1, e1, i1⟩ := base_ok i0 (by decide)
  obtain ⟨p, s2, e2, ⟨np, lp⟩, i2⟩ := parts_ok (base := base) i1 (by decide)
  obtain ⟨q, s3, e3, nq, lq⟩ := second_ok (base := base) i2 (by decide) np lp
  obtain ⟨g1, k1, r1⟩ := rg_init p lp (by decide)
  obtain ⟨g2, k2, r2⟩ := rg_initk q lq (by decide)
  have np' := nr_near np
  obtain ⟨w1, f1, z1⟩ := lwithin_ok np' nq
  obtain ⟨w2, f2, z2⟩ := lwithin_ok nq np'
  obtain ⟨v1, x1, y1⟩ := rg_within r1 r2 (by decide)
  obtain ⟨v2, x2, y2⟩ := rg_within r2 r1 (by decide)
  have hv1 : v1 = w1 := bool_true (y1.trans ((by simp only [all_one] : (∀ v, All [p] v → All [q] v) ↔ _).trans z1.symm))
  have hv2 : v2 = w2 := bool_true (y2.trans ((by simp only [all_one] : (∀ v, All [q] v → All [p] v) ↔ _).trans z2.symm))
  subst hv1 hv2
  obtain ⟨v3, x3, y3⟩ := rg_within r1 r1 (by decide)
  obtain ⟨v4, x4, y4⟩ := rg_within r2 r2 (by decide)
  cases y3.mpr fun _ z => z
  cases y4.mpr fun _ z => z
  obtain ⟨c1, t1, u1⟩ := rg_eq r1 r2
  obtain ⟨c2, t2, u2⟩ := rg_eq r2 r1
  have hc1 : c1 = (v1 && v2) := bool_true (u1.trans (by rw [Bool.and_eq_true, y1, y2]; exact ⟨fun z => ⟨fun v => (z v).mp, fun v => (z v).mpr⟩, fun z v => ⟨z.1 v, z.2 v⟩⟩))
  have hc2 : c2 = (v1 && v2) := bool_true (u2.trans (by rw [Bool.and_eq_true, y1, y2]; exact ⟨fun z => ⟨fun v => (z v).mpr, fun v => (z v).mp⟩, fun z v => ⟨z.2 v, z.1 v⟩⟩))
  have t3 := rg_eqT r1 r1 (fun v => Iff.rfl)
  obtain ⟨gn, kn, rn⟩ := rg_initk (some base, some (base - 1), []) (n := 0) (Nat.le_refl _) (by decide)
  obtain ⟨v5, x5, y5⟩ := rg_within rn r1 (by decide)
  obtain ⟨v6, x6, y6⟩ := rg_within r2 rn (by decide)
  have none_in : ∀ v, ¬ All [(some base, some (base - 1), ([] : List Int))] v := fun v z => by
    have m := all_one.mp z
    have a1 := lo_some.mp m.1
    have a2 := hi_some.mp m.2.1
    omega
  cases y5.mpr fun v z => absurd z (none_in v)
  obtain ⟨b, sb, hb⟩ : ∃ b, m_Region___bool g2 = some b ∧ (v6 = !b) := by
    obtain ⟨l2, u2', w2', rfl, f2', c2', m2'⟩ := r2
    refine ⟨!decide (szR l2 u2' w2' = some 0), rfl, ?_⟩
    rw [Bool.not_not]
    refine bool_true (y6.trans ?_)
    rw [decide_eq_true_eq, size_zero f2']
    constructor
    · intro z
      obtain ⟨rfl, rfl, _⟩ := uniq f2' (.inr ⟨rfl, rfl, rfl⟩ : Fm (some 1) (some 0) []) fun v => ⟨fun m => absurd (z v ((m2' v).mp m)) (none_in v), fun m => by
        have a1 := lo_some.mp m.1
        have a2 := hi_some.mp m.2.1
        omega⟩
      exact ⟨rfl, rfl⟩
    · rintro ⟨rfl, rfl⟩ v m
      have mm := (m2' v).mpr m
      have a1 := lo_some.mp mm.1
      have a2 := hi_some.mp mm.2.1
      omega
  obtain ⟨gp, kp, rp⟩ := rg_plain
  obtain ⟨v7, x7, y7⟩ := rg_within r1 rp (by decide)
  cases y7.mpr fun v _ => all_nil
  obtain ⟨v8, x8, y8⟩ := rg_within rp r2 (by decide)
  obtain ⟨c3, t4, u3⟩ := rg_eq r2 rp
  have h8 : v8 = c3 := bool_true (y8.trans (Iff.trans ⟨fun z v => ⟨fun _ => all_nil, fun y => z v y⟩, fun z v y => (z v).mpr y⟩ u3.symm))
  have a0 : ∀ x y : Bool, atI [x, y] (0 : Int) = some x := fun _ _ => rfl
  have a1 : ∀ x y : Bool, atI [x, y] (1 : Int) = some y := fun _ _ => rfl
  have tt : ∀ x : Bool, m_l_told x x = some true := fun x => by unfold m_l_told; rw [decide_eq_true rfl]; rfl
  have kn' : m_Region___init___Vk (some base) (some (base - (1 : Int))) ([] : (List Int)) = some gn := kn
  have kp' : m_Region___init___Vk (none : (Option Int)) (none : (Option Int)) ([] : (List Int)) = some gp := kp
  have q1 : ∀ x y, m_Region___eq___Vt x y = some false := fun _ _ => rfl
  have q2 : ∀ x y, m_Region___eq___Vn x y = some false := fun _ _ => rfl
  have q3 : ∀ x y, m_Region___eq___Vi x y = some false := fun _ _ => rfl
  subst hc1 hc2 hb h8
  simp only [e0, e1, e2, e3, k1, k2, f1, f2, x1, x2, x3, x4, x5, x6, x7, x8, t1, t2, t3, t4, sb, a0, a1, tt, kn', kp', q1, q2, q3, bindO_s, letO_s, Bool.not_true, Bool.not_false, iteO_T, iteO_F, decide_true]
  cases v1 <;> cases v2 <;> rfl
end Law

set_option maxHeartbeats 4000000
namespace Law
open PySem PySem.Spec PyProof.Rows L2 G
abbrev topS (i : Nat) : Stmt := PySem.Challenge.pw_shownwrites_k02_region_within.main.body.getD i (.Pass ⟨0, 0, 0, 0⟩)
abbrev s_between : Stmt := topS 5
abbrev N_between : List Str := ["low", "high", "number"]
theorem sc_between : FnScope N_between ["low", "high", "number"] (defScope s_between) := ⟨rfl, rfl, rfl, by decide +kernel, rfl, by decide +kernel, by decide +kernel⟩
abbrev s_one_form : Stmt := topS 6
abbrev N_one_form : List Str := ["low", "high", "without", "gaps", "start", "end", "number"]
theorem sc_one_form : FnScope N_one_form ["low", "high", "without"] (defScope s_one_form) := ⟨rfl, rfl, rfl, by decide +kernel, rfl, by decide +kernel, by decide +kernel⟩
abbrev s_size_of : Stmt := topS 7
abbrev N_size_of : List Str := ["low", "high", "without"]
theorem sc_size_of : FnScope N_size_of ["low", "high", "without"] (defScope s_size_of) := ⟨rfl, rfl, rfl, by decide +kernel, rfl, by decide +kernel, by decide +kernel⟩
abbrev s_Region___init : Stmt := inClass (topS 11) 0
abbrev N_Region___init : List Str := ["self", "low", "high", "without", "number"]
theorem sc_Region___init : FnScope N_Region___init ["self", "low", "high", "without"] (defScope s_Region___init) := ⟨rfl, rfl, rfl, by decide +kernel, rfl, by decide +kernel, by decide +kernel⟩
abbrev s_meet : Stmt := topS 8
abbrev N_meet : List Str := ["regions", "lows", "highs", "without", "region", "number"]
theorem sc_meet : FnScope N_meet ["regions"] (defScope s_meet) := ⟨rfl, rfl, rfl, by decide +kernel, rfl, by decide +kernel, by decide +kernel⟩
abbrev s_Region___eq : Stmt := inClass (topS 11) 3
abbrev N_Region___eq : List Str := ["self", "other"]
theorem sc_Region___eq : FnScope N_Region___eq ["self", "other"] (defScope s_Region___eq) := ⟨rfl, rfl, rfl, by decide +kernel, rfl, by decide +kernel, by decide +kernel⟩
abbrev s_Region___bool : Stmt := inClass (topS 11) 4
abbrev N_Region___bool : List Str := ["self"]
theorem sc_Region___bool : FnScope N_Region___bool ["self"] (defScope s_Region___bool) := ⟨rfl, rfl, rfl, by decide +kernel, rfl, by decide +kernel, by decide +kernel⟩
abbrev s_Region_within : Stmt := inClass (topS 11) 6
abbrev N_Region_within : List Str := ["self", "other"]
theorem sc_Region_within : FnScope N_Region_within ["self", "other"] (defScope s_Region_within) := ⟨rfl, rfl, rfl, by decide +kernel, rfl, by decide +kernel, by decide +kernel⟩
abbrev s_l_start : Stmt := topS 13
abbrev N_l_start : List Str := ["_law_script", "_law_first"]
theorem sc_l_start : FnScope N_l_start ["_law_script"] (defScope s_l_start) := ⟨rfl, rfl, rfl, by decide +kernel, rfl, by decide +kernel, by decide +kernel⟩
abbrev s_l_draw : Stmt := topS 14
abbrev N_l_draw : List Str := ["_law_state", "_law_many", "_law_drawn", "_law_seed", "_law_mixed"]
theorem sc_l_draw : FnScope N_l_draw ["_law_state", "_law_many"] (defScope s_l_draw) := ⟨rfl, rfl, rfl, by decide +kernel, rfl, by decide +kernel, by decide +kernel⟩
abbrev s_l_end : Stmt := topS 15
abbrev N_l_end : List Str := ["_law_state", "_law_base_here"]
theorem sc_l_end : FnScope N_l_end ["_law_state", "_law_base_here"] (defScope s_l_end) := ⟨rfl, rfl, rfl, by decide +kernel, rfl, by decide +kernel, by decide +kernel⟩
abbrev s_l_base : Stmt := topS 16
abbrev N_l_base : List Str := ["_law_state", "_law_kind"]
theorem sc_l_base : FnScope N_l_base ["_law_state"] (defScope s_l_base) := ⟨rfl, rfl, rfl, by decide +kernel, rfl, by decide +kernel, by decide +kernel⟩
abbrev s_l_parts : Stmt := topS 17
abbrev N_l_parts : List Str := ["_law_state", "_law_base_here", "_law_least", "_law_most", "_law_holes", "_law_k"]
theorem sc_l_parts : FnScope N_l_parts ["_law_state", "_law_base_here"] (defScope s_l_parts) := ⟨rfl, rfl, rfl, by decide +kernel, rfl, by decide +kernel, by decide +kernel⟩
abbrev s_l_in_part : Stmt := topS 18
abbrev N_l_in_part : List Str := ["_law_part", "_law_number"]
theorem sc_l_in_part : FnScope N_l_in_part ["_law_part", "_law_number"] (defScope s_l_in_part) := ⟨rfl, rfl, rfl, by decide +kernel, rfl, by decide +kernel, by decide +kernel⟩
abbrev s_l_window : Stmt := topS 19
abbrev N_l_window : List Str := ["_law_base_here", "_law_number"]
theorem sc_l_window : FnScope N_l_window ["_law_base_here"] (defScope s_l_window) := ⟨rfl, rfl, rfl, by decide +kernel, rfl, by decide +kernel, by decide +kernel⟩
abbrev s_l_moved : Stmt := topS 20
abbrev N_l_moved : List Str := ["_law_state", "_law_part", "_law_kind", "_law_step", "_law_spot", "_law_changed"]
theorem sc_l_moved : FnScope N_l_moved ["_law_state", "_law_part"] (defScope s_l_moved) := ⟨rfl, rfl, rfl, by decide +kernel, rfl, by decide +kernel, by decide +kernel⟩
abbrev s_l_spelled : Stmt := topS 21
abbrev N_l_spelled : List Str := ["_law_state", "_law_part", "_law_base_here", "_law_holes"]
theorem sc_l_spelled : FnScope N_l_spelled ["_law_state", "_law_part", "_law_base_here"] (defScope s_l_spelled) := ⟨rfl, rfl, rfl, by decide +kernel, rfl, by decide +kernel, by decide +kernel⟩
abbrev s_l_second : Stmt := topS 22
abbrev N_l_second : List Str := ["_law_state", "_law_part", "_law_base_here", "_law_kind"]
theorem sc_l_second : FnScope N_l_second ["_law_state", "_law_part", "_law_base_here"] (defScope s_l_second) := ⟨rfl, rfl, rfl, by decide +kernel, rfl, by decide +kernel, by decide +kernel⟩
abbrev s_l_within : Stmt := topS 23
abbrev N_l_within : List Str := ["_law_one", "_law_two", "_law_base_here", "_law_n"]
theorem sc_l_within : FnScope N_l_within ["_law_one", "_law_two", "_law_base_here"] (defScope s_l_within) := ⟨rfl, rfl, rfl, by decide +kernel, rfl, by decide +kernel, by decide +kernel⟩
abbrev s_l_told : Stmt := topS 24
abbrev N_l_told : List Str := ["_law_actual", "_law_expected"]
theorem sc_l_told : FnScope N_l_told ["_law_actual", "_law_expected"] (defScope s_l_told) := ⟨rfl, rfl, rfl, by decide +kernel, rfl, by decide +kernel, by decide +kernel⟩
abbrev s_law : Stmt := topS 25
abbrev N_law : List Str := ["_law_script", "_law_state", "_law_base_here", "_law_one", "_law_two", "_law_first", "_law_second_here", "_law_due", "_law_alike", "_law_nothing"]
theorem sc_law : FnScope N_law ["_law_script"] (defScope s_law) := ⟨rfl, rfl, rfl, by decide +kernel, rfl, by decide +kernel, by decide +kernel⟩

structure Ad where
  f_between : Addr
  d_between : FuncData
  f_one_form : Addr
  d_one_form : FuncData
  f_size_of : Addr
  d_size_of : FuncData
  f_Region___init : Addr
  d_Region___init : FuncData
  f_meet : Addr
  d_meet : FuncData
  f_Region___eq : Addr
  d_Region___eq : FuncData
  f_Region___bool : Addr
  d_Region___bool : FuncData
  f_Region_within : Addr
  d_Region_within : FuncData
  f_l_start : Addr
  d_l_start : FuncData
  f_l_draw : Addr
  d_l_draw : FuncData
  f_l_end : Addr
  d_l_end : FuncData
  f_l_base : Addr
  d_l_base : FuncData
  f_l_parts : Addr
  d_l_parts : FuncData
  f_l_in_part : Addr
  d_l_in_part : FuncData
  f_l_window : Addr
  d_l_window : FuncData
  f_l_moved : Addr
  d_l_moved : FuncData
  f_l_spelled : Addr
  d_l_spelled : FuncData
  f_l_second : Addr
  d_l_second : FuncData
  f_l_within : Addr
  d_l_within : FuncData
  f_l_told : Addr
  d_l_told : FuncData
  f_law : Addr
  d_law : FuncData
  e_Region___init_2 : Addr
  z_Region___init_0 : List Value
  z_Region___init_2 : List Value
  z_Region___init_3 : List Value
  C_Region : Addr
structure Txt (K : PySem.W.Frag) (mg : Str → Option Value) (a : Ad) : Prop where
  F_between : Fun K "between" "between" s_between a.f_between a.d_between
  g_between : mg "between" = some (.ref a.f_between)
  n_between : Binds K a.d_between ["low", "high", "number"] []
  F_one_form : Fun K "one_form" "one_form" s_one_form a.f_one_form a.d_one_form
  g_one_form : mg "one_form" = some (.ref a.f_one_form)
  n_one_form : Binds K a.d_one_form ["low", "high", "without"] []
  F_size_of : Fun K "size_of" "size_of" s_size_of a.f_size_of a.d_size_of
  g_size_of : mg "size_of" = some (.ref a.f_size_of)
  n_size_of : Binds K a.d_size_of ["low", "high", "without"] []
  F_Region___init : FunD K "__init__" "Region.__init__" (defArgs s_Region___init) (defBody s_Region___init) (defScope s_Region___init) [V.non, V.non, V.ref a.e_Region___init_2] [] a.f_Region___init a.d_Region___init
  t_Region___init_2 : EmpT K a.e_Region___init_2
  n_Region___init_0 : Binds K a.d_Region___init ["self", "low", "high", "without"] a.z_Region___init_0
  v_Region___init_0 : Vals [V.non, V.non, V.ref a.e_Region___init_2] a.z_Region___init_0
  n_Region___init_2 : Binds K a.d_Region___init ["self", "low", "high", "without"] a.z_Region___init_2
  v_Region___init_2 : Vals [V.ref a.e_Region___init_2] a.z_Region___init_2
  n_Region___init_3 : Binds K a.d_Region___init ["self", "low", "high", "without"] a.z_Region___init_3
  v_Region___init_3 : Vals [] a.z_Region___init_3
  F_meet : Fun K "meet" "meet" s_meet a.f_meet a.d_meet
  g_meet : mg "meet" = some (.ref a.f_meet)
  n_meet : Binds K a.d_meet ["regions"] []
  F_Region___eq : Fun K "__eq__" "Region.__eq__" s_Region___eq a.f_Region___eq a.d_Region___eq
  n_Region___eq : Binds K a.d_Region___eq ["self", "other"] []
  F_Region___bool : Fun K "__bool__" "Region.__bool__" s_Region___bool a.f_Region___bool a.d_Region___bool
  n_Region___bool : Binds K a.d_Region___bool ["self"] []
  F_Region_within : Fun K "within" "Region.within" s_Region_within a.f_Region_within a.d_Region_within
  n_Region_within : Binds K a.d_Region_within ["self", "other"] []
  F_l_start : Fun K "_law_start" "_law_start" s_l_start a.f_l_start a.d_l_start
  g_l_start : mg "_law_start" = some (.ref a.f_l_start)
  n_l_start : Binds K a.d_l_start ["_law_script"] []
  F_l_draw : Fun K "_law_draw" "_law_draw" s_l_draw a.f_l_draw a.d_l_draw
  g_l_draw : mg "_law_draw" = some (.ref a.f_l_draw)
  n_l_draw : Binds K a.d_l_draw ["_law_state", "_law_many"] []
  F_l_end : Fun K "_law_end" "_law_end" s_l_end a.f_l_end a.d_l_end
  g_l_end : mg "_law_end" = some (.ref a.f_l_end)
  n_l_end : Binds K a.d_l_end ["_law_state", "_law_base_here"] []
  F_l_base : Fun K "_law_base" "_law_base" s_l_base a.f_l_base a.d_l_base
  g_l_base : mg "_law_base" = some (.ref a.f_l_base)
  n_l_base : Binds K a.d_l_base ["_law_state"] []
  F_l_parts : Fun K "_law_parts" "_law_parts" s_l_parts a.f_l_parts a.d_l_parts
  g_l_parts : mg "_law_parts" = some (.ref a.f_l_parts)
  n_l_parts : Binds K a.d_l_parts ["_law_state", "_law_base_here"] []
  F_l_in_part : Fun K "_law_in_part" "_law_in_part" s_l_in_part a.f_l_in_part a.d_l_in_part
  g_l_in_part : mg "_law_in_part" = some (.ref a.f_l_in_part)
  n_l_in_part : Binds K a.d_l_in_part ["_law_part", "_law_number"] []
  F_l_window : Fun K "_law_window" "_law_window" s_l_window a.f_l_window a.d_l_window
  g_l_window : mg "_law_window" = some (.ref a.f_l_window)
  n_l_window : Binds K a.d_l_window ["_law_base_here"] []
  F_l_moved : Fun K "_law_moved" "_law_moved" s_l_moved a.f_l_moved a.d_l_moved
  g_l_moved : mg "_law_moved" = some (.ref a.f_l_moved)
  n_l_moved : Binds K a.d_l_moved ["_law_state", "_law_part"] []
  F_l_spelled : Fun K "_law_spelled" "_law_spelled" s_l_spelled a.f_l_spelled a.d_l_spelled
  g_l_spelled : mg "_law_spelled" = some (.ref a.f_l_spelled)
  n_l_spelled : Binds K a.d_l_spelled ["_law_state", "_law_part", "_law_base_here"] []
  F_l_second : Fun K "_law_second" "_law_second" s_l_second a.f_l_second a.d_l_second
  g_l_second : mg "_law_second" = some (.ref a.f_l_second)
  n_l_second : Binds K a.d_l_second ["_law_state", "_law_part", "_law_base_here"] []
  F_l_within : Fun K "_law_within" "_law_within" s_l_within a.f_l_within a.d_l_within
  g_l_within : mg "_law_within" = some (.ref a.f_l_within)
  n_l_within : Binds K a.d_l_within ["_law_one", "_law_two", "_law_base_here"] []
  F_l_told : Fun K "_law_told" "_law_told" s_l_told a.f_l_told a.d_l_told
  g_l_told : mg "_law_told" = some (.ref a.f_l_told)
  n_l_told : Binds K a.d_l_told ["_law_actual", "_law_expected"] []
  F_law : Fun K "law" "law" s_law a.f_law a.d_law
  g_law : mg "law" = some (.ref a.f_law)
  n_law : Binds K a.d_law ["_law_script"] []
  b_bool : mg "bool" = none
  b_int : mg "int" = none
  b_isinstance : mg "isinstance" = none
  b_len : mg "len" = none
  b_list : mg "list" = none
  b_max : mg "max" = none
  b_min : mg "min" = none
  b_range : mg "range" = none
  b_set : mg "set" = none
  b_sorted : mg "sorted" = none
  b_tuple : mg "tuple" = none
  g_Region : mg "Region" = some (.ref a.C_Region)
  cl_Region : Cls K a.C_Region
  na_Region_low : NoAttr K a.C_Region "low"
  na_Region_high : NoAttr K a.C_Region "high"
  na_Region_without : NoAttr K a.C_Region "without"
  na_Region_size : NoAttr K a.C_Region "size"
  na_Region_value : NoAttr K a.C_Region "value"
  na_Region__gaps : NoAttr K a.C_Region "_gaps"
  M_Region : Mk K a.C_Region a.f_Region___init
  ct_Region : ClsT K a.C_Region
  q_Region_Region : PySem.W.kitOne K (.ref a.C_Region) (.ref a.C_Region) = some true
  q_tuple_Region : PySem.W.kitOne K (.type "tuple") (.ref a.C_Region) = some false
  q_NoneType_Region : PySem.W.kitOne K (.type "NoneType") (.ref a.C_Region) = some false
  q_int_Region : PySem.W.kitOne K (.type "int") (.ref a.C_Region) = some false
  me_Region___eq : Meth K a.C_Region "__eq__" a.f_Region___eq
  nf_Region_Region : PySem.W.notFirst K a.C_Region (.ref a.C_Region) = true
  me_Region_within : Meth K a.C_Region "within" a.f_Region_within
  nn_Region : NoNe K a.C_Region
  nf_Region_tuple : PySem.W.notFirst K a.C_Region (.type "tuple") = true
  nf_Region_NoneType : PySem.W.notFirst K a.C_Region (.type "NoneType") = true
  nf_Region_int : PySem.W.notFirst K a.C_Region (.type "int") = true
  me_Region___bool : Meth K a.C_Region "__bool__" a.f_Region___bool
section
variable {P : Program} {w : World} {K : PySem.W.Frag} {mg : Str → Option Value} {base : Heap} {a : Ad}

theorem ok_between (T : Txt K mg a) : FnOk P w K mg base CX0 1 a.f_between a.d_between ["low", "high", "number"] (SpP (wC (rOpt rInt) (wC (rOpt rInt) (w1 rInt))) rBool (fun x => m_between x.1 x.2.1 x.2.2)) := by
  refine T.F_between.ok sc_between (fun vs H Q E h => ?_) (fun cdv A outer s H vs Q E hr h => ?_)
  · obtain ⟨B, x, b, z, sm, hw, h, kr⟩ := h
    rw [WLen.len hw]; rfl
  · obtain ⟨B, ⟨low0, high0, number0⟩, b, z, sm, hw, h, kr⟩ := h
    have h : m_between low0 high0 number0 = some b := h
    refine ⟨_, (pss_cons (ps_ret (pe_and (pe_or (pe_cmp (pc_isN (pv 0)) rfl) (pe_one (pe_cmpR op_le (pv 0) (pv 2) (nomark _)))) (pe_one (pe_or (pe_cmp (pc_isN (pv 1)) rfl) (pe_one (pe_cmpR op_le (pv 2) (pv 1) (nomark _))))))) pss_nil), ?_⟩
    refine nx_go (frm_start (N := N_between) (n := 0) z sm hw (by rw [WLen.len hw]; rfl)) ?_
    show Nx _ _ [.imm (rOpt rInt) low0, .imm (rOpt rInt) high0, .imm rInt number0]
    unfold m_between at h
    obtain ⟨c3, hc3, h⟩ := letO_some h
    obtain ⟨b2, hb2, h⟩ := bindO_some h
    obtain ⟨c8, hc8, h⟩ := letO_some h
    obtain ⟨b7, hb7, h⟩ := bindO_some h
    exact (sq_ret (ev_and (ev_to (ev_or (ev_to (ev_isN (ev_var rfl)) hc3.symm) (fun hc => by have hx := iteO_f hc hb2; obtain ⟨g1, hg1, hx⟩ := bindO_some hx; exact ev_to (ev_le (ev_get (ev_var rfl) hg1) (ev_var rfl)) (Option.some.inj hx)) (fun hc => ⟨(Option.some.inj (iteO_t hc hb2)).symm, rfl⟩)) hc8.symm) (fun hc => by have hx := iteO_t hc hb7; obtain ⟨c6, hc6, hx⟩ := letO_some hx; obtain ⟨b5, hb5, hx⟩ := bindO_some hx; exact ev_to (ev_or (ev_to (ev_isN (ev_var rfl)) hc6.symm) (fun hc => by have hx := iteO_f hc hb5; obtain ⟨g4, hg4, hx⟩ := bindO_some hx; exact ev_to (ev_le (ev_var rfl) (ev_get (ev_var rfl) hg4)) (Option.some.inj hx)) (fun hc => ⟨(Option.some.inj (iteO_t hc hb5)).symm, rfl⟩)) (Option.some.inj hx)) (fun hc => ⟨(Option.some.inj (iteO_f hc hb7)).symm, rfl⟩)) h kr)
theorem ok_one_form (T : Txt K mg a) : FnOk P w K mg base CX0 2 a.f_one_form a.d_one_form ["low", "high", "without"] (SpP (wC (rOpt rInt) (wC (rOpt rInt) (w1 (rOb (cLst rInt))))) (rOb (cTup (wC (rOpt rInt) (wC (rOpt rInt) (w1 (rOb (cTpl rInt))))))) (fun x => m_one_form x.1 x.2.1 x.2.2)) := by
  refine T.F_one_form.ok sc_one_form (fun vs H Q E h => ?_) (fun cdv A outer s H vs Q E hr h => ?_)
  · obtain ⟨B, x, b, z, sm, hw, h, kr⟩ := h
    rw [WLen.len hw]; rfl
  · obtain ⟨B, ⟨low0, high0, without0⟩, b, z, sm, hw, h, kr⟩ := h
    have h : m_one_form low0 high0 without0 = some b := h
    refine ⟨_, (pss_cons (ps_set (i := 3) sc_one_form.nd rfl (by first | exact Or.inl rfl | exact Or.inr rfl) (pe_callB (sortedSetK (wd := w) rfl rfl) (by rfl) T.b_sorted (by decide +kernel) (pa_cons (pe_callTy (cr_setI (K := K) rfl rfl) (by rfl) T.b_set (by decide +kernel) (pa_cons (pe_lc (own := [("number", 6)]) rfl sc_one_form.nd (pi_list (pv 2)) (blkOk_by (N := N_one_form) (sc := defScope s_one_form) (by decide +kernel)) (fun _ _ _ _ _ => (pg_name (i := 6) sc_one_form.nd rfl (by first | exact Or.inl rfl | exact Or.inr rfl))) (fun _ _ _ _ _ => (pts_one (pt_val (pe_call (ok_between T) (hr.mono (by decide)) rfl T.g_between T.F_between.kp T.n_between .nil pass0 (pa_cons (pv 0) (pa_cons (pv 1) (pa_cons (pv 6) pa_nil))))))) (fun _ _ _ _ _ => (pv 6))) pa_nil)) pa_nil))) (pss_cons (ps_set (i := 4) sc_one_form.nd rfl (by first | exact Or.inl rfl | exact Or.inr rfl) pe_int) (pss_cons (ps_while PassesOwn.never (PW.pt (pw_and (pt_cmpR op_lt (pv 4) (pe_callB (len_seqK (K := K) rfl) (by rfl) T.b_len (by decide +kernel) (pa_cons (pv 3) pa_nil)) (nomark _)) (pw_and1 (pt_cmpR op_eq (pe_ix (ix_listK (K := K) rfl) (pv 3) (pv 4) (fun _ _ => rfl)) (pv 0) (nomark _))))) (pss_cons (ps_set (i := 0) sc_one_form.nd rfl (by first | exact Or.inl rfl | exact Or.inr rfl) (pe_op op_add (pv 0) pe_int)) (pss_cons (ps_set (i := 4) sc_one_form.nd rfl (by first | exact Or.inl rfl | exact Or.inr rfl) (pe_op op_add (pv 4) pe_int)) pss_nil))) (pss_cons (ps_set (i := 5) sc_one_form.nd rfl (by first | exact Or.inl rfl | exact Or.inr rfl) (pe_callB (len_seqK (K := K) rfl) (by rfl) T.b_len (by decide +kernel) (pa_cons (pv 3) pa_nil))) (pss_cons (ps_while PassesOwn.never (PW.pt (pw_and (pt_cmpR op_gt (pv 5) (pv 4) (nomark _)) (pw_and1 (pt_cmpR op_eq (pe_ix (ix_listK (K := K) rfl) (pv 3) (pe_op op_sub (pv 5) pe_int) (fun _ _ => rfl)) (pv 1) (nomark _))))) (pss_cons (ps_set (i := 1) sc_one_form.nd rfl (by first | exact Or.inl rfl | exact Or.inr rfl) (pe_op op_sub (pv 1) pe_int)) (pss_cons (ps_set (i := 5) sc_one_form.nd rfl (by first | exact Or.inl rfl | exact Or.inr rfl) (pe_op op_sub (pv 5) pe_int)) pss_nil))) (pss_cons (ps_if (PW.pt (pw_and (pt_cmp (pc_notN (pv 0))) (pw_and (pt_cmp (pc_notN (pv 1))) (pw_and1 (pt_cmpR op_gt (pv 0) (pv 1) (nomark _)))))) (pss_cons (ps_ret (pe_tup (pa_cons pe_int (pa_cons pe_int (pa_cons (pe_tup pa_nil) pa_nil))))) pss_nil) pss_nil) (pss_cons (ps_ret (pe_tup (pa_cons (pv 0) (pa_cons (pv 1) (pa_cons (pe_callTy (tuple_ofK (K := K) rfl) (by rfl) T.b_tuple (by decide +kernel) (pa_cons (pe_slice (sl_listK (K := K) rfl) (pv 3) (po_some (pv 4)) (po_some (pv 5))) pa_nil)) pa_nil))))) pss_nil))))))), ?_⟩
    refine nx_go (frm_start (N := N_one_form) (n := 4) z sm hw (by rw [WLen.len hw]; rfl)) ?_
    show Nx _ _ [.imm (rOpt rInt) low0, .imm (rOpt rInt) high0, .imm (rOb (cLst rInt)) without0, .no, .no, .no, .no]
    unfold m_one_form at h
    obtain ⟨l4, hl4, h⟩ := bindO_some h
    obtain ⟨l5, hl5, h⟩ := bindO_some h
    obtain ⟨gaps6, hgaps6, h⟩ := letO_some h
    refine (sq_asg (ev_to (ev_new (ec_sortSet (ev_new (ec_lc (m_one_form_c1 low0 high0) (it_list (ev_var rfl)) hl4 tg_name (fun k hk => hk) (by rfl) (fun _ => by rfl) (fun number1 o ho => by unfold m_one_form_c1 at ho; obtain ⟨v2, hv2, ho⟩ := bindO_some ho; obtain ⟨c3, hc3, ho⟩ := letO_some ho; cases c3 with | true => (have ho : (some (some number1)) = some o := ho; cases ho; exact ⟨et_to (et_B (ev_call (ew_C (ev_var rfl) (ew_C (ev_var rfl) (ew_1 (ev_var rfl)))) hv2)) hc3.symm, fun y hy => by cases hy; exact ev_to (ev_var rfl) rfl⟩) | false => (have ho : some none = some o := ho; cases ho; exact ⟨et_to (et_B (ev_call (ew_C (ev_var rfl) (ew_C (ev_var rfl) (ew_1 (ev_var rfl)))) hv2)) hc3.symm, fun y hy => by cases hy⟩)))) hl5)) hgaps6.symm) ?_)
    show Nx _ _ [.imm (rOpt rInt) low0, .imm (rOpt rInt) high0, .imm (rOb (cLst rInt)) without0, .imm (rOb (cLst rInt)) gaps6, .no, .no, .no]
    obtain ⟨start7, hstart7, h⟩ := letO_some h
    refine (sq_asg (ev_to ev_int hstart7.symm) ?_)
    show Nx _ _ [.imm (rOpt rInt) low0, .imm (rOpt rInt) high0, .imm (rOb (cLst rInt)) without0, .imm (rOb (cLst rInt)) gaps6, .imm rInt start7, .no, .no]
    obtain ⟨R15, hR15, h⟩ := bindO_some h
    refine (sq_while (ψ := psi (rOb (cTup (wC (rOpt rInt) (wC (rOpt rInt) (w1 (rOb (cTpl rInt)))))))) (m_one_form_w1 gaps6) (m_one_form_b1) (fun z => [.imm (rOpt rInt) z.1, .imm (rOpt rInt) high0, .imm (rOb (cLst rInt)) without0, .imm (rOb (cLst rInt)) gaps6, .imm rInt z.2, .no, .no]) hR15 ?_ (fun s8 b hc => ?_) (fun D1 s8 st h k1 => ?_) ?_ ?_)
    · exact nx_fin
    · have h : m_one_form_w1 gaps6 s8 = some b := hc
      unfold m_one_form_w1 at h
      obtain ⟨c11, hc11, h⟩ := letO_some h
      obtain ⟨b10, hb10, h⟩ := bindO_some h
      exact et_to (et_and (et_to (et_T (ev_lt (ev_var rfl) (ev_lenL (ev_var rfl)))) hc11.symm) (fun hc => by have hx := iteO_t hc hb10; obtain ⟨y9, hy9, hx⟩ := bindO_some hx; exact et_to (et_T (ev_eqS scOI (ev_some nn_int (ev_ixL (ev_var rfl) (ev_var rfl) hy9)) (ev_var rfl) (sc_oi _ _))) (Option.some.inj hx)) (fun hc => ⟨(Option.some.inj (iteO_f hc hb10)).symm, rfl⟩)) (Option.some.inj h)
    · show Nx _ _ [.imm (rOpt rInt) s8.1, .imm (rOpt rInt) high0, .imm (rOb (cLst rInt)) without0, .imm (rOb (cLst rInt)) gaps6, .imm rInt s8.2, .no, .no]
      unfold m_one_form_b1 at h
      obtain ⟨g12, hg12, h⟩ := bindO_some h
      obtain ⟨low13, hlow13, h⟩ := letO_some h
      refine (sq_asg (ev_to (ev_some nn_int (ev_add (ev_get (ev_var rfl) hg12) ev_int)) hlow13.symm) ?_)
      show Nx _ _ [.imm (rOpt rInt) low13, .imm (rOpt rInt) high0, .imm (rOb (cLst rInt)) without0, .imm (rOb (cLst rInt)) gaps6, .imm rInt s8.2, .no, .no]
      obtain ⟨start14, hstart14, h⟩ := letO_some h
      refine (sq_asg (ev_to (ev_add (ev_var rfl) ev_int) hstart14.symm) ?_)
      show Nx _ _ [.imm (rOpt rInt) low13, .imm (rOpt rInt) high0, .imm (rOb (cLst rInt)) without0, .imm (rOb (cLst rInt)) gaps6, .imm rInt start14, .no, .no]
      refine nx_next ?_
      exact k1.nx _ (Option.some.inj h).symm
    · intro b e
      subst e
      obtain rfl := stepO_ret h; exact kr
    · intro e16 e
      subst e
      have h := stepO_nx h
      show Nx _ _ [.imm (rOpt rInt) e16.1, .imm (rOpt rInt) high0, .imm (rOb (cLst rInt)) without0, .imm (rOb (cLst rInt)) gaps6, .imm rInt e16.2, .no, .no]
      obtain ⟨end17, hend17, h⟩ := letO_some h
      refine (sq_asg (ev_to (ev_lenL (ev_var rfl)) hend17.symm) ?_)
      show Nx _ _ [.imm (rOpt rInt) e16.1, .imm (rOpt rInt) high0, .imm (rOb (cLst rInt)) without0, .imm (rOb (cLst rInt)) gaps6, .imm rInt e16.2, .imm rInt end17, .no]
      obtain ⟨R25, hR25, h⟩ := bindO_some h
      refine (sq_while (ψ := psi (rOb (cTup (wC (rOpt rInt) (wC (rOpt rInt) (w1 (rOb (cTpl rInt)))))))) (m_one_form_w2 gaps6 e16) (m_one_form_b2) (fun z => [.imm (rOpt rInt) e16.1, .imm (rOpt rInt) z.1, .imm (rOb (cLst rInt)) without0, .imm (rOb (cLst rInt)) gaps6, .imm rInt e16.2, .imm rInt z.2, .no]) hR25 ?_ (fun s18 b hc => ?_) (fun D1 s18 st h k1 => ?_) ?_ ?_)
      · exact nx_fin
      · have h : m_one_form_w2 gaps6 e16 s18 = some b := hc
        unfold m_one_form_w2 at h
        obtain ⟨c21, hc21, h⟩ := letO_some h
        obtain ⟨b20, hb20, h⟩ := bindO_some h
        exact et_to (et_and (et_to (et_T (ev_gt (ev_var rfl) (ev_var rfl))) hc21.symm) (fun hc => by have hx := iteO_t hc hb20; obtain ⟨y19, hy19, hx⟩ := bindO_some hx; exact et_to (et_T (ev_eqS scOI (ev_some nn_int (ev_ixL (ev_var rfl) (ev_sub (ev_var rfl) ev_int) hy19)) (ev_var rfl) (sc_oi _ _))) (Option.some.inj hx)) (fun hc => ⟨(Option.some.inj (iteO_f hc hb20)).symm, rfl⟩)) (Option.some.inj h)
      · show Nx _ _ [.imm (rOpt rInt) e16.1, .imm (rOpt rInt) s18.1, .imm (rOb (cLst rInt)) without0, .imm (rOb (cLst rInt)) gaps6, .imm rInt e16.2, .imm rInt s18.2, .no]
        unfold m_one_form_b2 at h
        obtain ⟨g22, hg22, h⟩ := bindO_some h
        obtain ⟨high23, hhigh23, h⟩ := letO_some h
        refine (sq_asg (ev_to (ev_some nn_int (ev_sub (ev_get (ev_var rfl) hg22) ev_int)) hhigh23.symm) ?_)
        show Nx _ _ [.imm (rOpt rInt) e16.1, .imm (rOpt rInt) high23, .imm (rOb (cLst rInt)) without0, .imm (rOb (cLst rInt)) gaps6, .imm rInt e16.2, .imm rInt s18.2, .no]
        obtain ⟨end24, hend24, h⟩ := letO_some h
        refine (sq_asg (ev_to (ev_sub (ev_var rfl) ev_int) hend24.symm) ?_)
        show Nx _ _ [.imm (rOpt rInt) e16.1, .imm (rOpt rInt) high23, .imm (rOb (cLst rInt)) without0, .imm (rOb (cLst rInt)) gaps6, .imm rInt e16.2, .imm rInt end24, .no]
        refine nx_next ?_
        exact k1.nx _ (Option.some.inj h).symm
      · intro b e
        subst e
        obtain rfl := stepO_ret h; exact kr
      · intro e26 e
        subst e
        have h := stepO_nx h
        show Nx _ _ [.imm (rOpt rInt) e16.1, .imm (rOpt rInt) e26.1, .imm (rOb (cLst rInt)) without0, .imm (rOb (cLst rInt)) gaps6, .imm rInt e16.2, .imm rInt e26.2, .no]
        obtain ⟨c32, hc32, h⟩ := letO_some h
        obtain ⟨b31, hb31, h⟩ := bindO_some h
        obtain ⟨c33, hc33, h⟩ := letO_some h
        refine (sq_if (et_to (et_and (et_to (et_B (ev_notN (ev_var rfl))) hc32.symm) (fun hc => by have hx := iteO_t hc hb31; obtain ⟨c30, hc30, hx⟩ := letO_some hx; obtain ⟨b29, hb29, hx⟩ := bindO_some hx; exact et_to (et_and (et_to (et_B (ev_notN (ev_var rfl))) hc30.symm) (fun hc => by have hx := iteO_t hc hb29; obtain ⟨g27, hg27, hx⟩ := bindO_some hx; obtain ⟨g28, hg28, hx⟩ := bindO_some hx; exact et_to (et_T (ev_gt (ev_get (ev_var rfl) hg27) (ev_get (ev_var rfl) hg28))) (Option.some.inj hx)) (fun hc => ⟨(Option.some.inj (iteO_f hc hb29)).symm, rfl⟩)) (Option.some.inj hx)) (fun hc => ⟨(Option.some.inj (iteO_f hc hb31)).symm, rfl⟩)) hc33.symm) (fun hc => ?_) (fun hc => ?_))
        · have h := iteO_t hc h
          exact (sq_ret (ev_new (ec_tup (ew_C (ev_some nn_int ev_int) (ew_C (ev_some nn_int ev_int) (ew_1 (ev_new (ec_tpl eh_0 (Nat.le_of_ble_eq_true rfl)))))))) h kr)
        · have h := iteO_f hc h
          refine nx_next ?_
          try dsimp only
          exact (sq_ret (ev_new (ec_tup (ew_C (ev_var rfl) (ew_C (ev_var rfl) (ew_1 (ev_new (ec_tupL (ev_new (ec_slL (ev_var rfl) (eo_some (ev_var rfl)) (eo_some (ev_var rfl))))))))))) h kr)
theorem ok_one_form_Vk (T : Txt K mg a) : FnOk P w K mg base CX0 2 a.f_one_form a.d_one_form ["low", "high", "without"] (SpP (wC (rOpt rInt) (wC (rOpt rInt) (w1 (rTK K rInt)))) (rOb (cTup (wC (rOpt rInt) (wC (rOpt rInt) (w1 (rOb (cTpl rInt))))))) (fun x => m_one_form_Vk x.1 x.2.1 x.2.2)) := by
  refine T.F_one_form.ok sc_one_form (fun vs H Q E h => ?_) (fun cdv A outer s H vs Q E hr h => ?_)
  · obtain ⟨B, x, b, z, sm, hw, h, kr⟩ := h
    rw [WLen.len hw]; rfl
  · obtain ⟨B, ⟨low0, high0, without0⟩, b, z, sm, hw, h, kr⟩ := h
    have h : m_one_form_Vk low0 high0 without0 = some b := h
    refine ⟨_, (pss_cons (ps_set (i := 3) sc_one_form.nd rfl (by first | exact Or.inl rfl | exact Or.inr rfl) (pe_callB (sortedSetK (wd := w) rfl rfl) (by rfl) T.b_sorted (by decide +kernel) (pa_cons (pe_callTy (cr_setI (K := K) rfl rfl) (by rfl) T.b_set (by decide +kernel) (pa_cons (pe_lc (own := [("number", 6)]) rfl sc_one_form.nd (pi_tup (pv 2)) (blkOk_by (N := N_one_form) (sc := defScope s_one_form) (by decide +kernel)) (fun _ _ _ _ _ => (pg_name (i := 6) sc_one_form.nd rfl (by first | exact Or.inl rfl | exact Or.inr rfl))) (fun _ _ _ _ _ => (pts_one (pt_val (pe_call (ok_between T) (hr.mono (by decide)) rfl T.g_between T.F_between.kp T.n_between .nil pass0 (pa_cons (pv 0) (pa_cons (pv 1) (pa_cons (pv 6) pa_nil))))))) (fun _ _ _ _ _ => (pv 6))) pa_nil)) pa_nil))) (pss_cons (ps_set (i := 4) sc_one_form.nd rfl (by first | exact Or.inl rfl | exact Or.inr rfl) pe_int) (pss_cons (ps_while PassesOwn.never (PW.pt (pw_and (pt_cmpR op_lt (pv 4) (pe_callB (len_seqK (K := K) rfl) (by rfl) T.b_len (by decide +kernel) (pa_cons (pv 3) pa_nil)) (nomark _)) (pw_and1 (pt_cmpR op_eq (pe_ix (ix_listK (K := K) rfl) (pv 3) (pv 4) (fun _ _ => rfl)) (pv 0) (nomark _))))) (pss_cons (ps_set (i := 0) sc_one_form.nd rfl (by first | exact Or.inl rfl | exact Or.inr rfl) (pe_op op_add (pv 0) pe_int)) (pss_cons (ps_set (i := 4) sc_one_form.nd rfl (by first | exact Or.inl rfl | exact Or.inr rfl) (pe_op op_add (pv 4) pe_int)) pss_nil))) (pss_cons (ps_set (i := 5) sc_one_form.nd rfl (by first | exact Or.inl rfl | exact Or.inr rfl) (pe_callB (len_seqK (K := K) rfl) (by rfl) T.b_len (by decide +kernel) (pa_cons (pv 3) pa_nil))) (pss_cons (ps_while PassesOwn.never (PW.pt (pw_and (pt_cmpR op_gt (pv 5) (pv 4) (nomark _)) (pw_and1 (pt_cmpR op_eq (pe_ix (ix_listK (K := K) rfl) (pv 3) (pe_op op_sub (pv 5) pe_int) (fun _ _ => rfl)) (pv 1) (nomark _))))) (pss_cons (ps_set (i := 1) sc_one_form.nd rfl (by first | exact Or.inl rfl | exact Or.inr rfl) (pe_op op_sub (pv 1) pe_int)) (pss_cons (ps_set (i := 5) sc_one_form.nd rfl (by first | exact Or.inl rfl | exact Or.inr rfl) (pe_op op_sub (pv 5) pe_int)) pss_nil))) (pss_cons (ps_if (PW.pt (pw_and (pt_cmp (pc_notN (pv 0))) (pw_and (pt_cmp (pc_notN (pv 1))) (pw_and1 (pt_cmpR op_gt (pv 0) (pv 1) (nomark _)))))) (pss_cons (ps_ret (pe_tup (pa_cons pe_int (pa_cons pe_int (pa_cons (pe_tup pa_nil) pa_nil))))) pss_nil) pss_nil) (pss_cons (ps_ret (pe_tup (pa_cons (pv 0) (pa_cons (pv 1) (pa_cons (pe_callTy (tuple_ofK (K := K) rfl) (by rfl) T.b_tuple (by decide +kernel) (pa_cons (pe_slice (sl_listK (K := K) rfl) (pv 3) (po_some (pv 4)) (po_some (pv 5))) pa_nil)) pa_nil))))) pss_nil))))))), ?_⟩
    refine nx_go (frm_start (N := N_one_form) (n := 4) z sm hw (by rw [WLen.len hw]; rfl)) ?_
    show Nx _ _ [.imm (rOpt rInt) low0, .imm (rOpt rInt) high0, .imm (rTK K rInt) without0, .no, .no, .no, .no]
    unfold m_one_form_Vk at h
    obtain ⟨l4, hl4, h⟩ := bindO_some h
    obtain ⟨l5, hl5, h⟩ := bindO_some h
    obtain ⟨gaps6, hgaps6, h⟩ := letO_some h
    refine (sq_asg (ev_to (ev_new (ec_sortSet (ev_new (ec_lc (m_one_form_Vk_c1 low0 high0) (it_tk (ev_var rfl)) hl4 tg_name (fun k hk => hk) (by rfl) (fun _ => by rfl) (fun number1 o ho => by unfold m_one_form_Vk_c1 at ho; obtain ⟨v2, hv2, ho⟩ := bindO_some ho; obtain ⟨c3, hc3, ho⟩ := letO_some ho; cases c3 with | true => (have ho : (some (some number1)) = some o := ho; cases ho; exact ⟨et_to (et_B (ev_call (ew_C (ev_var rfl) (ew_C (ev_var rfl) (ew_1 (ev_var rfl)))) hv2)) hc3.symm, fun y hy => by cases hy; exact ev_to (ev_var rfl) rfl⟩) | false => (have ho : some none = some o := ho; cases ho; exact ⟨et_to (et_B (ev_call (ew_C (ev_var rfl) (ew_C (ev_var rfl) (ew_1 (ev_var rfl)))) hv2)) hc3.symm, fun y hy => by cases hy⟩)))) hl5)) hgaps6.symm) ?_)
    show Nx _ _ [.imm (rOpt rInt) low0, .imm (rOpt rInt) high0, .imm (rTK K rInt) without0, .imm (rOb (cLst rInt)) gaps6, .no, .no, .no]
    obtain ⟨start7, hstart7, h⟩ := letO_some h
    refine (sq_asg (ev_to ev_int hstart7.symm) ?_)
    show Nx _ _ [.imm (rOpt rInt) low0, .imm (rOpt rInt) high0, .imm (rTK K rInt) without0, .imm (rOb (cLst rInt)) gaps6, .imm rInt start7, .no, .no]
    obtain ⟨R15, hR15, h⟩ := bindO_some h
    refine (sq_while (ψ := psi (rOb (cTup (wC (rOpt rInt) (wC (rOpt rInt) (w1 (rOb (cTpl rInt)))))))) (m_one_form_Vk_w1 gaps6) (m_one_form_Vk_b1) (fun z => [.imm (rOpt rInt) z.1, .imm (rOpt rInt) high0, .imm (rTK K rInt) without0, .imm (rOb (cLst rInt)) gaps6, .imm rInt z.2, .no, .no]) hR15 ?_ (fun s8 b hc => ?_) (fun D1 s8 st h k1 => ?_) ?_ ?_)
    · exact nx_fin
    · have h : m_one_form_Vk_w1 gaps6 s8 = some b := hc
      unfold m_one_form_Vk_w1 at h
      obtain ⟨c11, hc11, h⟩ := letO_some h
      obtain ⟨b10, hb10, h⟩ := bindO_some h
      exact et_to (et_and (et_to (et_T (ev_lt (ev_var rfl) (ev_lenL (ev_var rfl)))) hc11.symm) (fun hc => by have hx := iteO_t hc hb10; obtain ⟨y9, hy9, hx⟩ := bindO_some hx; exact et_to (et_T (ev_eqS scOI (ev_some nn_int (ev_ixL (ev_var rfl) (ev_var rfl) hy9)) (ev_var rfl) (sc_oi _ _))) (Option.some.inj hx)) (fun hc => ⟨(Option.some.inj (iteO_f hc hb10)).symm, rfl⟩)) (Option.some.inj h)
    · show Nx _ _ [.imm (rOpt rInt) s8.1, .imm (rOpt rInt) high0, .imm (rTK K rInt) without0, .imm (rOb (cLst rInt)) gaps6, .imm rInt s8.2, .no, .no]
      unfold m_one_form_Vk_b1 at h
      obtain ⟨g12, hg12, h⟩ := bindO_some h
      obtain ⟨low13, hlow13, h⟩ := letO_some h
      refine (sq_asg (ev_to (ev_some nn_int (ev_add (ev_get (ev_var rfl) hg12) ev_int)) hlow13.symm) ?_)
      show Nx _ _ [.imm (rOpt rInt) low13, .imm (rOpt rInt) high0, .imm (rTK K rInt) without0, .imm (rOb (cLst rInt)) gaps6, .imm rInt s8.2, .no, .no]
      obtain ⟨start14, hstart14, h⟩ := letO_some h
      refine (sq_asg (ev_to (ev_add (ev_var rfl) ev_int) hstart14.symm) ?_)
      show Nx _ _ [.imm (rOpt rInt) low13, .imm (rOpt rInt) high0, .imm (rTK K rInt) without0, .imm (rOb (cLst rInt)) gaps6, .imm rInt start14, .no, .no]
      refine nx_next ?_
      exact k1.nx _ (Option.some.inj h).symm
    · intro b e
      subst e
      obtain rfl := stepO_ret h; exact kr
    · intro e16 e
      subst e
      have h := stepO_nx h
      show Nx _ _ [.imm (rOpt rInt) e16.1, .imm (rOpt rInt) high0, .imm (rTK K rInt) without0, .imm (rOb (cLst rInt)) gaps6, .imm rInt e16.2, .no, .no]
      obtain ⟨end17, hend17, h⟩ := letO_some h
      refine (sq_asg (ev_to (ev_lenL (ev_var rfl)) hend17.symm) ?_)
      show Nx _ _ [.imm (rOpt rInt) e16.1, .imm (rOpt rInt) high0, .imm (rTK K rInt) without0, .imm (rOb (cLst rInt)) gaps6, .imm rInt e16.2, .imm rInt end17, .no]
      obtain ⟨R25, hR25, h⟩ := bindO_some h
      refine (sq_while (ψ := psi (rOb (cTup (wC (rOpt rInt) (wC (rOpt rInt) (w1 (rOb (cTpl rInt)))))))) (m_one_form_Vk_w2 gaps6 e16) (m_one_form_Vk_b2) (fun z => [.imm (rOpt rInt) e16.1, .imm (rOpt rInt) z.1, .imm (rTK K rInt) without0, .imm (rOb (cLst rInt)) gaps6, .imm rInt e16.2, .imm rInt z.2, .no]) hR25 ?_ (fun s18 b hc => ?_) (fun D1 s18 st h k1 => ?_) ?_ ?_)
      · exact nx_fin
      · have h : m_one_form_Vk_w2 gaps6 e16 s18 = some b := hc
        unfold m_one_form_Vk_w2 at h
        obtain ⟨c21, hc21, h⟩ := letO_some h
        obtain ⟨b20, hb20, h⟩ := bindO_some h
        exact et_to (et_and (et_to (et_T (ev_gt (ev_var rfl) (ev_var rfl))) hc21.symm) (fun hc => by have hx := iteO_t hc hb20; obtain ⟨y19, hy19, hx⟩ := bindO_some hx; exact et_to (et_T (ev_eqS scOI (ev_some nn_int (ev_ixL (ev_var rfl) (ev_sub (ev_var rfl) ev_int) hy19)) (ev_var rfl) (sc_oi _ _))) (Option.some.inj hx)) (fun hc => ⟨(Option.some.inj (iteO_f hc hb20)).symm, rfl⟩)) (Option.some.inj h)
      · show Nx _ _ [.imm (rOpt rInt) e16.1, .imm (rOpt rInt) s18.1, .imm (rTK K rInt) without0, .imm (rOb (cLst rInt)) gaps6, .imm rInt e16.2, .imm rInt s18.2, .no]
        unfold m_one_form_Vk_b2 at h
        obtain ⟨g22, hg22, h⟩ := bindO_some h
        obtain ⟨high23, hhigh23, h⟩ := letO_some h
        refine (sq_asg (ev_to (ev_some nn_int (ev_sub (ev_get (ev_var rfl) hg22) ev_int)) hhigh23.symm) ?_)
        show Nx _ _ [.imm (rOpt rInt) e16.1, .imm (rOpt rInt) high23, .imm (rTK K rInt) without0, .imm (rOb (cLst rInt)) gaps6, .imm rInt e16.2, .imm rInt s18.2, .no]
        obtain ⟨end24, hend24, h⟩ := letO_some h
        refine (sq_asg (ev_to (ev_sub (ev_var rfl) ev_int) hend24.symm) ?_)
        show Nx _ _ [.imm (rOpt rInt) e16.1, .imm (rOpt rInt) high23, .imm (rTK K rInt) without0, .imm (rOb (cLst rInt)) gaps6, .imm rInt e16.2, .imm rInt end24, .no]
        refine nx_next ?_
        exact k1.nx _ (Option.some.inj h).symm
      · intro b e
        subst e
        obtain rfl := stepO_ret h; exact kr
      · intro e26 e
        subst e
        have h := stepO_nx h
        show Nx _ _ [.imm (rOpt rInt) e16.1, .imm (rOpt rInt) e26.1, .imm (rTK K rInt) without0, .imm (rOb (cLst rInt)) gaps6, .imm rInt e16.2, .imm rInt e26.2, .no]
        obtain ⟨c32, hc32, h⟩ := letO_some h
        obtain ⟨b31, hb31, h⟩ := bindO_some h
        obtain ⟨c33, hc33, h⟩ := letO_some h
        refine (sq_if (et_to (et_and (et_to (et_B (ev_notN (ev_var rfl))) hc32.symm) (fun hc => by have hx := iteO_t hc hb31; obtain ⟨c30, hc30, hx⟩ := letO_some hx; obtain ⟨b29, hb29, hx⟩ := bindO_some hx; exact et_to (et_and (et_to (et_B (ev_notN (ev_var rfl))) hc30.symm) (fun hc => by have hx := iteO_t hc hb29; obtain ⟨g27, hg27, hx⟩ := bindO_some hx; obtain ⟨g28, hg28, hx⟩ := bindO_some hx; exact et_to (et_T (ev_gt (ev_get (ev_var rfl) hg27) (ev_get (ev_var rfl) hg28))) (Option.some.inj hx)) (fun hc => ⟨(Option.some.inj (iteO_f hc hb29)).symm, rfl⟩)) (Option.some.inj hx)) (fun hc => ⟨(Option.some.inj (iteO_f hc hb31)).symm, rfl⟩)) hc33.symm) (fun hc => ?_) (fun hc => ?_))
        · have h := iteO_t hc h
          exact (sq_ret (ev_new (ec_tup (ew_C (ev_some nn_int ev_int) (ew_C (ev_some nn_int ev_int) (ew_1 (ev_new (ec_tpl eh_0 (Nat.le_of_ble_eq_true rfl)))))))) h kr)
        · have h := iteO_f hc h
          refine nx_next ?_
          try dsimp only
          exact (sq_ret (ev_new (ec_tup (ew_C (ev_var rfl) (ew_C (ev_var rfl) (ew_1 (ev_new (ec_tupL (ev_new (ec_slL (ev_var rfl) (eo_some (ev_var rfl)) (eo_some (ev_var rfl))))))))))) h kr)
theorem ok_size_of (T : Txt K mg a) : FnOk P w K mg base CX0 1 a.f_size_of a.d_size_of ["low", "high", "without"] (SpP (wC (rOpt rInt) (wC (rOpt rInt) (w1 (rOb (cTpl rInt))))) (rOpt rInt) (fun x => m_size_of x.1 x.2.1 x.2.2)) := by
  refine T.F_size_of.ok sc_size_of (fun vs H Q E h => ?_) (fun cdv A outer s H vs Q E hr h => ?_)
  · obtain ⟨B, x, b, z, sm, hw, h, kr⟩ := h
    rw [WLen.len hw]; rfl
  · obtain ⟨B, ⟨low0, high0, without0⟩, b, z, sm, hw, h, kr⟩ := h
    have h : m_size_of low0 high0 without0 = some b := h
    refine ⟨_, (pss_cons (ps_if (PW.pt (pw_or (pt_cmp (pc_isN (pv 0))) (pw_or1 (pt_cmp (pc_isN (pv 1)))))) (pss_cons (ps_ret pe_non) pss_nil) pss_nil) (pss_cons (ps_ret (pe_op op_sub (pe_op op_add (pe_op op_sub (pv 1) (pv 0)) pe_int) (pe_callB (len_seqK (K := K) rfl) (by rfl) T.b_len (by decide +kernel) (pa_cons (pv 2) pa_nil)))) pss_nil)), ?_⟩
    refine nx_go (frm_start (N := N_size_of) (n := 0) z sm hw (by rw [WLen.len hw]; rfl)) ?_
    show Nx _ _ [.imm (rOpt rInt) low0, .imm (rOpt rInt) high0, .imm (rOb (cTpl rInt)) without0]
    unfold m_size_of at h
    obtain ⟨c1, hc1, h⟩ := letO_some h
    refine (sq_if (et_to (et_or0 (et_B (ev_isN (ev_var rfl))) (et_B (ev_isN (ev_var rfl)))) hc1.symm) (fun hc => ?_) (fun hc => ?_))
    · have h := iteO_t hc h
      exact (sq_ret (ev_none (r := rInt)) h kr)
    · have h := iteO_f hc h
      refine nx_next ?_
      try dsimp only
      obtain ⟨g2, hg2, h⟩ := bindO_some h
      obtain ⟨g3, hg3, h⟩ := bindO_some h
      exact (sq_ret (ev_some nn_int (ev_sub (ev_add (ev_sub (ev_get (ev_var rfl) hg2) (ev_get (ev_var rfl) hg3)) ev_int) (ev_lenT (ev_var rfl)))) h kr)
theorem ok_Region___init (T : Txt K mg a) : FnOk P w K mg base CX0 3 a.f_Region___init a.d_Region___init ["self", "low", "high", "without"] (SpJ a.C_Region (wC (rOpt rInt) (wC (rOpt rInt) (w1 (rOb (cLst rInt))))) (cIns a.C_Region [("low" : Str), ("high" : Str), ("without" : Str), ("size" : Str), ("value" : Str), ("_gaps" : Str)] (wC (rOpt rInt) (wC (rOpt rInt) (wC (rOb (cTpl rInt)) (wC (rOpt rInt) (wC (rOpt rInt) (w1 (rOb (cDic kyInt rBool))))))))) (fun x => m_Region___init x.1 x.2.1 x.2.2)) := by
  refine funD_okN T.F_Region___init sc_Region___init (fun vs H Q E h => ?_) (fun cdv A outer s H vs Q E hr h => ?_)
  · obtain ⟨p, dx, vs', B, x, b, rfl, hp, hB, z, sm, hw, h, kr⟩ := h
    show vs'.length + 1 = _; rw [WLen.len hw]; rfl
  · obtain ⟨p, dx, vs', B, ⟨low0, high0, without0⟩, b, rfl, hp, hB, z, sm, hw, h, kr⟩ := h
    have h : m_Region___init low0 high0 without0 = some b := h
    refine ⟨_, (pss_cons (ps_asg (pe_call (ok_one_form T) (hr.mono (by decide)) rfl T.g_one_form T.F_one_form.kp T.n_one_form .nil pass0 (pa_cons (pv 1) (pa_cons (pv 2) (pa_cons (pv 3) pa_nil)))) (pg_tupK (K := K) rfl 3 rfl (pgs_cons (pg_fld (K := K) rfl (pv 0)) (pgs_cons (pg_fld (K := K) rfl (pv 0)) (pgs_cons (pg_fld (K := K) rfl (pv 0)) pgs_nil))))) (pss_cons (ps_fld (pv 0) (pe_call (ok_size_of T) (hr.mono (by decide)) rfl T.g_size_of T.F_size_of.kp T.n_size_of .nil pass0 (pa_cons (fldK (K := K) rfl (pv 0) rfl) (pa_cons (fldK (K := K) rfl (pv 0) rfl) (pa_cons (fldK (K := K) rfl (pv 0) rfl) pa_nil)))) rfl) (pss_cons (ps_fld (pv 0) (pe_ifExp (pt_cmpR op_eq (fldK (K := K) rfl (pv 0) rfl) pe_int (nomark _)) (fldK (K := K) rfl (pv 0) rfl) pe_non) rfl) (pss_cons (ps_fld (pv 0) (pe_dc (own := [("number", 4)]) rfl sc_Region___init.nd (pi_tup (fldK (K := K) rfl (pv 0) rfl)) (blkOk_by (N := N_Region___init) (sc := defScope s_Region___init) (by decide +kernel)) (fun _ _ _ _ _ => (pg_name (i := 4) sc_Region___init.nd rfl (by first | exact Or.inl rfl | exact Or.inr rfl))) (fun _ _ _ _ _ => pts_nil) (fun _ _ _ _ _ => (pv 4)) (fun _ _ _ _ _ => pe_bl)) rfl) pss_nil)))), ?_⟩
    refine nx_go (frm_startS (cc := cIns a.C_Region [] w0) (st := ()) (o := .ins a.C_Region dx []) (N := N_Region___init) (n := 1) z sm hB hp ⟨dx, [], rfl, rfl, rfl⟩ hw (by rw [WLen.len hw]; rfl)) ?_
    show Nx _ _ [.cel p (cIns a.C_Region [] w0) (), .imm (rOpt rInt) low0, .imm (rOpt rInt) high0, .imm (rOb (cLst rInt)) without0, .no]
    unfold m_Region___init at h
    obtain ⟨v1, hv1, h⟩ := bindO_some h
    obtain ⟨u2, hu2, h⟩ := letO_some h
    refine (sq_asgH (ev_to (ev_call (ew_C (ev_var rfl) (ew_C (ev_var rfl) (ew_1 (ev_var rfl)))) hv1) hu2.symm) (th_tup (th_C (th_fld (i := 0) rfl snoc0 (by decide +kernel) (by decide) T.cl_Region T.na_Region_low) (fun _ => (th_C (th_fld (i := 0) rfl snoc1 (by decide +kernel) (by decide) T.cl_Region T.na_Region_high) (fun _ => (th_1 (th_fld (i := 0) rfl (snocC snoc1) (by decide +kernel) (by decide) T.cl_Region T.na_Region_without))))))) ?_)
    show Nx _ _ [.cel p (cIns a.C_Region [("low" : Str), ("high" : Str), ("without" : Str)] (wC (rOpt rInt) (wC (rOpt rInt) (w1 (rOb (cTpl rInt)))))) (u2.1, u2.2.1, u2.2.2), .imm (rOpt rInt) low0, .imm (rOpt rInt) high0, .imm (rOb (cLst rInt)) without0, .no]
    obtain ⟨v3, hv3, h⟩ := bindO_some h
    obtain ⟨size4, hsize4, h⟩ := letO_some h
    refine (sq_fld (i := 0) (ev_to (ev_call (ew_C (ev_celFld rfl (acc0) rfl (by decide +kernel) T.cl_Region T.na_Region_low) (ew_C (ev_celFld rfl (accS (acc0)) rfl (by decide +kernel) T.cl_Region T.na_Region_high) (ew_1 (ev_celFld rfl (accS (accS (acc1))) rfl (by decide +kernel) T.cl_Region T.na_Region_without)))) hv3) hsize4.symm) rfl (snocC (snocC snoc1)) (by decide +kernel) (by decide) T.cl_Region T.na_Region_size ?_)
    show Nx _ _ [.cel p (cIns a.C_Region [("low" : Str), ("high" : Str), ("without" : Str), ("size" : Str)] (wC (rOpt rInt) (wC (rOpt rInt) (wC (rOb (cTpl rInt)) (w1 (rOpt rInt)))))) (u2.1, u2.2.1, u2.2.2, size4), .imm (rOpt rInt) low0, .imm (rOpt rInt) high0, .imm (rOb (cLst rInt)) without0, .no]
    obtain ⟨c6, hc6, h⟩ := letO_some h
    obtain ⟨i5, hi5, h⟩ := bindO_some h
    obtain ⟨value7, hvalue7, h⟩ := letO_some h
    refine (sq_fld (i := 0) (ev_to (ev_if (et_to (et_T (ev_eqS scOI (ev_celFld rfl (accS (accS (accS (acc1)))) rfl (by decide +kernel) T.cl_Region T.na_Region_size) (ev_some nn_int ev_int) (sc_oi _ _))) hc6.symm) (fun hc => by have hx := iteO_t hc hi5; exact ev_to (ev_celFld rfl (acc0) rfl (by decide +kernel) T.cl_Region T.na_Region_low) (Option.some.inj hx)) (fun hc => by have hx := iteO_f hc hi5; exact ev_to (ev_none (r := rInt)) (Option.some.inj hx))) hvalue7.symm) rfl (snocC (snocC (snocC snoc1))) (by decide +kernel) (by decide) T.cl_Region T.na_Region_value ?_)
    show Nx _ _ [.cel p (cIns a.C_Region [("low" : Str), ("high" : Str), ("without" : Str), ("size" : Str), ("value" : Str)] (wC (rOpt rInt) (wC (rOpt rInt) (wC (rOb (cTpl rInt)) (wC (rOpt rInt) (w1 (rOpt rInt))))))) (u2.1, u2.2.1, u2.2.2, size4, value7), .imm (rOpt rInt) low0, .imm (rOpt rInt) high0, .imm (rOb (cLst rInt)) without0, .no]
    obtain ⟨d9, hd9, h⟩ := bindO_some h
    obtain ⟨gaps10, hgaps10, h⟩ := letO_some h
    refine (sq_fld (i := 0) (ev_to (ev_new (ec_dc kyInt (m_Region___init_c1) (it_tpl (ev_celFld rfl (accS (accS (acc0))) rfl (by decide +kernel) T.cl_Region T.na_Region_without)) hd9 tg_name (fun k hk => hk) (by rfl) (fun _ => by rfl) (fun number8 o ho => by unfold m_Region___init_c1 at ho; cases ho; exact ⟨et_yes, fun y hy => by cases hy; exact ⟨(ev_var rfl), ev_bl⟩⟩))) hgaps10.symm) rfl (snocC (snocC (snocC (snocC snoc1)))) (by decide +kernel) (by decide) T.cl_Region T.na_Region__gaps ?_)
    show Nx _ _ [.cel p (cIns a.C_Region [("low" : Str), ("high" : Str), ("without" : Str), ("size" : Str), ("value" : Str), ("_gaps" : Str)] (wC (rOpt rInt) (wC (rOpt rInt) (wC (rOb (cTpl rInt)) (wC (rOpt rInt) (wC (rOpt rInt) (w1 (rOb (cDic kyInt rBool))))))))) (u2.1, u2.2.1, u2.2.2, size4, value7, gaps10), .imm (rOpt rInt) low0, .imm (rOpt rInt) high0, .imm (rOb (cLst rInt)) without0, .no]
    obtain rfl := Option.some.inj h
    exact nx_next (fun σ H B F => kr _ _ F.post (cel_at (i := 0) F rfl).2)
theorem ok_Region___init___Vk (T : Txt K mg a) : FnOk P w K mg base CX0 3 a.f_Region___init a.d_Region___init ["self", "low", "high", "without"] (SpJ a.C_Region (wC (rOpt rInt) (wC (rOpt rInt) (w1 (rTK K rInt)))) (cIns a.C_Region [("low" : Str), ("high" : Str), ("without" : Str), ("size" : Str), ("value" : Str), ("_gaps" : Str)] (wC (rOpt rInt) (wC (rOpt rInt) (wC (rOb (cTpl rInt)) (wC (rOpt rInt) (wC (rOpt rInt) (w1 (rOb (cDic kyInt rBool))))))))) (fun x => m_Region___init___Vk x.1 x.2.1 x.2.2)) := by
  refine funD_okN T.F_Region___init sc_Region___init (fun vs H Q E h => ?_) (fun cdv A outer s H vs Q E hr h => ?_)
  · obtain ⟨p, dx, vs', B, x, b, rfl, hp, hB, z, sm, hw, h, kr⟩ := h
    show vs'.length + 1 = _; rw [WLen.len hw]; rfl
  · obtain ⟨p, dx, vs', B, ⟨low0, high0, without0⟩, b, rfl, hp, hB, z, sm, hw, h, kr⟩ := h
    have h : m_Region___init___Vk low0 high0 without0 = some b := h
    refine ⟨_, (pss_cons (ps_asg (pe_call (ok_one_form_Vk T) (hr.mono (by decide)) rfl T.g_one_form T.F_one_form.kp T.n_one_form .nil pass0 (pa_cons (pv 1) (pa_cons (pv 2) (pa_cons (pv 3) pa_nil)))) (pg_tupK (K := K) rfl 3 rfl (pgs_cons (pg_fld (K := K) rfl (pv 0)) (pgs_cons (pg_fld (K := K) rfl (pv 0)) (pgs_cons (pg_fld (K := K) rfl (pv 0)) pgs_nil))))) (pss_cons (ps_fld (pv 0) (pe_call (ok_size_of T) (hr.mono (by decide)) rfl T.g_size_of T.F_size_of.kp T.n_size_of .nil pass0 (pa_cons (fldK (K := K) rfl (pv 0) rfl) (pa_cons (fldK (K := K) rfl (pv 0) rfl) (pa_cons (fldK (K := K) rfl (pv 0) rfl) pa_nil)))) rfl) (pss_cons (ps_fld (pv 0) (pe_ifExp (pt_cmpR op_eq (fldK (K := K) rfl (pv 0) rfl) pe_int (nomark _)) (fldK (K := K) rfl (pv 0) rfl) pe_non) rfl) (pss_cons (ps_fld (pv 0) (pe_dc (own := [("number", 4)]) rfl sc_Region___init.nd (pi_tup (fldK (K := K) rfl (pv 0) rfl)) (blkOk_by (N := N_Region___init) (sc := defScope s_Region___init) (by decide +kernel)) (fun _ _ _ _ _ => (pg_name (i := 4) sc_Region___init.nd rfl (by first | exact Or.inl rfl | exact Or.inr rfl))) (fun _ _ _ _ _ => pts_nil) (fun _ _ _ _ _ => (pv 4)) (fun _ _ _ _ _ => pe_bl)) rfl) pss_nil)))), ?_⟩
    refine nx_go (frm_startS (cc := cIns a.C_Region [] w0) (st := ()) (o := .ins a.C_Region dx []) (N := N_Region___init) (n := 1) z sm hB hp ⟨dx, [], rfl, rfl, rfl⟩ hw (by rw [WLen.len hw]; rfl)) ?_
    show Nx _ _ [.cel p (cIns a.C_Region [] w0) (), .imm (rOpt rInt) low0, .imm (rOpt rInt) high0, .imm (rTK K rInt) without0, .no]
    unfold m_Region___init___Vk at h
    obtain ⟨v1, hv1, h⟩ := bindO_some h
    obtain ⟨u2, hu2, h⟩ := letO_some h
    refine (sq_asgH (ev_to (ev_call (ew_C (ev_var rfl) (ew_C (ev_var rfl) (ew_1 (ev_var rfl)))) hv1) hu2.symm) (th_tup (th_C (th_fld (i := 0) rfl snoc0 (by decide +kernel) (by decide) T.cl_Region T.na_Region_low) (fun _ => (th_C (th_fld (i := 0) rfl snoc1 (by decide +kernel) (by decide) T.cl_Region T.na_Region_high) (fun _ => (th_1 (th_fld (i := 0) rfl (snocC snoc1) (by decide +kernel) (by decide) T.cl_Region T.na_Region_without))))))) ?_)
    show Nx _ _ [.cel p (cIns a.C_Region [("low" : Str), ("high" : Str), ("without" : Str)] (wC (rOpt rInt) (wC (rOpt rInt) (w1 (rOb (cTpl rInt)))))) (u2.1, u2.2.1, u2.2.2), .imm (rOpt rInt) low0, .imm (rOpt rInt) high0, .imm (rTK K rInt) without0, .no]
    obtain ⟨v3, hv3, h⟩ := bindO_some h
    obtain ⟨size4, hsize4, h⟩ := letO_some h
    refine (sq_fld (i := 0) (ev_to (ev_call (ew_C (ev_celFld rfl (acc0) rfl (by decide +kernel) T.cl_Region T.na_Region_low) (ew_C (ev_celFld rfl (accS (acc0)) rfl (by decide +kernel) T.cl_Region T.na_Region_high) (ew_1 (ev_celFld rfl (accS (accS (acc1))) rfl (by decide +kernel) T.cl_Region T.na_Region_without)))) hv3) hsize4.symm) rfl (snocC (snocC snoc1)) (by decide +kernel) (by decide) T.cl_Region T.na_Region_size ?_)
    show Nx _ _ [.cel p (cIns a.C_Region [("low" : Str), ("high" : Str), ("without" : Str), ("size" : Str)] (wC (rOpt rInt) (wC (rOpt rInt) (wC (rOb (cTpl rInt)) (w1 (rOpt rInt)))))) (u2.1, u2.2.1, u2.2.2, size4), .imm (rOpt rInt) low0, .imm (rOpt rInt) high0, .imm (rTK K rInt) without0, .no]
    obtain ⟨c6, hc6, h⟩ := letO_some h
    obtain ⟨i5, hi5, h⟩ := bindO_some h
    obtain ⟨value7, hvalue7, h⟩ := letO_some h
    refine (sq_fld (i := 0) (ev_to (ev_if (et_to (et_T (ev_eqS scOI (ev_celFld rfl (accS (accS (accS (acc1)))) rfl (by decide +kernel) T.cl_Region T.na_Region_size) (ev_some nn_int ev_int) (sc_oi _ _))) hc6.symm) (fun hc => by have hx := iteO_t hc hi5; exact ev_to (ev_celFld rfl (acc0) rfl (by decide +kernel) T.cl_Region T.na_Region_low) (Option.some.inj hx)) (fun hc => by have hx := iteO_f hc hi5; exact ev_to (ev_none (r := rInt)) (Option.some.inj hx))) hvalue7.symm) rfl (snocC (snocC (snocC snoc1))) (by decide +kernel) (by decide) T.cl_Region T.na_Region_value ?_)
    show Nx _ _ [.cel p (cIns a.C_Region [("low" : Str), ("high" : Str), ("without" : Str), ("size" : Str), ("value" : Str)] (wC (rOpt rInt) (wC (rOpt rInt) (wC (rOb (cTpl rInt)) (wC (rOpt rInt) (w1 (rOpt rInt))))))) (u2.1, u2.2.1, u2.2.2, size4, value7), .imm (rOpt rInt) low0, .imm (rOpt rInt) high0, .imm (rTK K rInt) without0, .no]
    obtain ⟨d9, hd9, h⟩ := bindO_some h
    obtain ⟨gaps10, hgaps10, h⟩ := letO_some h
    refine (sq_fld (i := 0) (ev_to (ev_new (ec_dc kyInt (m_Region___init___Vk_c1) (it_tpl (ev_celFld rfl (accS (accS (acc0))) rfl (by decide +kernel) T.cl_Region T.na_Region_without)) hd9 tg_name (fun k hk => hk) (by rfl) (fun _ => by rfl) (fun number8 o ho => by unfold m_Region___init___Vk_c1 at ho; cases ho; exact ⟨et_yes, fun y hy => by cases hy; exact ⟨(ev_var rfl), ev_bl⟩⟩))) hgaps10.symm) rfl (snocC (snocC (snocC (snocC snoc1)))) (by decide +kernel) (by decide) T.cl_Region T.na_Region__gaps ?_)
    show Nx _ _ [.cel p (cIns a.C_Region [("low" : Str), ("high" : Str), ("without" : Str), ("size" : Str), ("value" : Str), ("_gaps" : Str)] (wC (rOpt rInt) (wC (rOpt rInt) (wC (rOb (cTpl rInt)) (wC (rOpt rInt) (wC (rOpt rInt) (w1 (rOb (cDic kyInt rBool))))))))) (u2.1, u2.2.1, u2.2.2, size4, value7, gaps10), .imm (rOpt rInt) low0, .imm (rOpt rInt) high0, .imm (rTK K rInt) without0, .no]
    obtain rfl := Option.some.inj h
    exact nx_next (fun σ H B F => kr _ _ F.post (cel_at (i := 0) F rfl).2)
theorem ok_Region___init___Vt (T : Txt K mg a) : FnOk P w K mg base CX0 3 a.f_Region___init a.d_Region___init ["self", "low", "high", "without"] (SpJ a.C_Region (wC (rOpt rInt) (wC (rOpt rInt) (w1 (rOb (cTpl rInt))))) (cIns a.C_Region [("low" : Str), ("high" : Str), ("without" : Str), ("size" : Str), ("value" : Str), ("_gaps" : Str)] (wC (rOpt rInt) (wC (rOpt rInt) (wC (rOb (cTpl rInt)) (wC (rOpt rInt) (wC (rOpt rInt) (w1 (rOb (cDic kyInt rBool))))))))) (fun x => m_Region___init___Vt x.1 x.2.1 x.2.2)) := by
  refine funD_okN T.F_Region___init sc_Region___init (fun vs H Q E h => ?_) (fun cdv A outer s H vs Q E hr h => ?_)
  · obtain ⟨p, dx, vs', B, x, b, rfl, hp, hB, z, sm, hw, h, kr⟩ := h
    show vs'.length + 1 = _; rw [WLen.len hw]; rfl
  · obtain ⟨p, dx, vs', B, ⟨low0, high0, without0⟩, b, rfl, hp, hB, z, sm, hw, h, kr⟩ := h
    have h : m_Region___init___Vt low0 high0 without0 = some b := h
    refine ⟨_, (pss_cons (ps_asg (pe_call (ok_one_form_Vk T) (hr.mono (by decide)) rfl T.g_one_form T.F_one_form.kp T.n_one_form .nil pass0 (pa_cons (pv 1) (pa_cons (pv 2) (pa_cons (pv 3) pa_nil)))) (pg_tupK (K := K) rfl 3 rfl (pgs_cons (pg_fld (K := K) rfl (pv 0)) (pgs_cons (pg_fld (K := K) rfl (pv 0)) (pgs_cons (pg_fld (K := K) rfl (pv 0)) pgs_nil))))) (pss_cons (ps_fld (pv 0) (pe_call (ok_size_of T) (hr.mono (by decide)) rfl T.g_size_of T.F_size_of.kp T.n_size_of .nil pass0 (pa_cons (fldK (K := K) rfl (pv 0) rfl) (pa_cons (fldK (K := K) rfl (pv 0) rfl) (pa_cons (fldK (K := K) rfl (pv 0) rfl) pa_nil)))) rfl) (pss_cons (ps_fld (pv 0) (pe_ifExp (pt_cmpR op_eq (fldK (K := K) rfl (pv 0) rfl) pe_int (nomark _)) (fldK (K := K) rfl (pv 0) rfl) pe_non) rfl) (pss_cons (ps_fld (pv 0) (pe_dc (own := [("number", 4)]) rfl sc_Region___init.nd (pi_tup (fldK (K := K) rfl (pv 0) rfl)) (blkOk_by (N := N_Region___init) (sc := defScope s_Region___init) (by decide +kernel)) (fun _ _ _ _ _ => (pg_name (i := 4) sc_Region___init.nd rfl (by first | exact Or.inl rfl | exact Or.inr rfl))) (fun _ _ _ _ _ => pts_nil) (fun _ _ _ _ _ => (pv 4)) (fun _ _ _ _ _ => pe_bl)) rfl) pss_nil)))), ?_⟩
    refine nx_go (frm_startS (cc := cIns a.C_Region [] w0) (st := ()) (o := .ins a.C_Region dx []) (N := N_Region___init) (n := 1) z sm hB hp ⟨dx, [], rfl, rfl, rfl⟩ hw (by rw [WLen.len hw]; rfl)) ?_
    show Nx _ _ [.cel p (cIns a.C_Region [] w0) (), .imm (rOpt rInt) low0, .imm (rOpt rInt) high0, .imm (rOb (cTpl rInt)) without0, .no]
    unfold m_Region___init___Vt at h
    obtain ⟨v1, hv1, h⟩ := bindO_some h
    obtain ⟨u2, hu2, h⟩ := letO_some h
    refine (sq_asgH (ev_to (ev_call (ew_C (ev_var rfl) (ew_C (ev_var rfl) (ew_1 (ev_tk (ev_var rfl))))) hv1) hu2.symm) (th_tup (th_C (th_fld (i := 0) rfl snoc0 (by decide +kernel) (by decide) T.cl_Region T.na_Region_low) (fun _ => (th_C (th_fld (i := 0) rfl snoc1 (by decide +kernel) (by decide) T.cl_Region T.na_Region_high) (fun _ => (th_1 (th_fld (i := 0) rfl (snocC snoc1) (by decide +kernel) (by decide) T.cl_Region T.na_Region_without))))))) ?_)
    show Nx _ _ [.cel p (cIns a.C_Region [("low" : Str), ("high" : Str), ("without" : Str)] (wC (rOpt rInt) (wC (rOpt rInt) (w1 (rOb (cTpl rInt)))))) (u2.1, u2.2.1, u2.2.2), .imm (rOpt rInt) low0, .imm (rOpt rInt) high0, .imm (rOb (cTpl rInt)) without0, .no]
    obtain ⟨v3, hv3, h⟩ := bindO_some h
    obtain ⟨size4, hsize4, h⟩ := letO_some h
    refine (sq_fld (i := 0) (ev_to (ev_call (ew_C (ev_celFld rfl (acc0) rfl (by decide +kernel) T.cl_Region T.na_Region_low) (ew_C (ev_celFld rfl (accS (acc0)) rfl (by decide +kernel) T.cl_Region T.na_Region_high) (ew_1 (ev_celFld rfl (accS (accS (acc1))) rfl (by decide +kernel) T.cl_Region T.na_Region_without)))) hv3) hsize4.symm) rfl (snocC (snocC snoc1)) (by decide +kernel) (by decide) T.cl_Region T.na_Region_size ?_)
    show Nx _ _ [.cel p (cIns a.C_Region [("low" : Str), ("high" : Str), ("without" : Str), ("size" : Str)] (wC (rOpt rInt) (wC (rOpt rInt) (wC (rOb (cTpl rInt)) (w1 (rOpt rInt)))))) (u2.1, u2.2.1, u2.2.2, size4), .imm (rOpt rInt) low0, .imm (rOpt rInt) high0, .imm (rOb (cTpl rInt)) without0, .no]
    obtain ⟨c6, hc6, h⟩ := letO_some h
    obtain ⟨i5, hi5, h⟩ := bindO_some h
    obtain ⟨value7, hvalue7, h⟩ := letO_some h
    refine (sq_fld (i := 0) (ev_to (ev_if (et_to (et_T (ev_eqS scOI (ev_celFld rfl (accS (accS (accS (acc1)))) rfl (by decide +kernel) T.cl_Region T.na_Region_size) (ev_some nn_int ev_int) (sc_oi _ _))) hc6.symm) (fun hc => by have hx := iteO_t hc hi5; exact ev_to (ev_celFld rfl (acc0) rfl (by decide +kernel) T.cl_Region T.na_Region_low) (Option.some.inj hx)) (fun hc => by have hx := iteO_f hc hi5; exact ev_to (ev_none (r := rInt)) (Option.some.inj hx))) hvalue7.symm) rfl (snocC (snocC (snocC snoc1))) (by decide +kernel) (by decide) T.cl_Region T.na_Region_value ?_)
    show Nx _ _ [.cel p (cIns a.C_Region [("low" : Str), ("high" : Str), ("without" : Str), ("size" : Str), ("value" : Str)] (wC (rOpt rInt) (wC (rOpt rInt) (wC (rOb (cTpl rInt)) (wC (rOpt rInt) (w1 (rOpt rInt))))))) (u2.1, u2.2.1, u2.2.2, size4, value7), .imm (rOpt rInt) low0, .imm (rOpt rInt) high0, .imm (rOb (cTpl rInt)) without0, .no]
    obtain ⟨d9, hd9, h⟩ := bindO_some h
    obtain ⟨gaps10, hgaps10, h⟩ := letO_some h
    refine (sq_fld (i := 0) (ev_to (ev_new (ec_dc kyInt (m_Region___init___Vt_c1) (it_tpl (ev_celFld rfl (accS (accS (acc0))) rfl (by decide +kernel) T.cl_Region T.na_Region_without)) hd9 tg_name (fun k hk => hk) (by rfl) (fun _ => by rfl) (fun number8 o ho => by unfold m_Region___init___Vt_c1 at ho; cases ho; exact ⟨et_yes, fun y hy => by cases hy; exact ⟨(ev_var rfl), ev_bl⟩⟩))) hgaps10.symm) rfl (snocC (snocC (snocC (snocC snoc1)))) (by decide +kernel) (by decide) T.cl_Region T.na_Region__gaps ?_)
    show Nx _ _ [.cel p (cIns a.C_Region [("low" : Str), ("high" : Str), ("without" : Str), ("size" : Str), ("value" : Str), ("_gaps" : Str)] (wC (rOpt rInt) (wC (rOpt rInt) (wC (rOb (cTpl rInt)) (wC (rOpt rInt) (wC (rOpt rInt) (w1 (rOb (cDic kyInt rBool))))))))) (u2.1, u2.2.1, u2.2.2, size4, value7, gaps10), .imm (rOpt rInt) low0, .imm (rOpt rInt) high0, .imm (rOb (cTpl rInt)) without0, .no]
    obtain rfl := Option.some.inj h
    exact nx_next (fun σ H B F => kr _ _ F.post (cel_at (i := 0) F rfl).2)
theorem ok_one_form_Vt (T : Txt K mg a) : FnOk P w K mg base CX0 2 a.f_one_form a.d_one_form ["low", "high", "without"] (SpP (wC (rOpt rInt) (wC (rOpt rInt) (w1 (rOb (cTpl rInt))))) (rOb (cTup (wC (rOpt rInt) (wC (rOpt rInt) (w1 (rOb (cTpl rInt))))))) (fun x => m_one_form_Vt x.1 x.2.1 x.2.2)) := by
  refine T.F_one_form.ok sc_one_form (fun vs H Q E h => ?_) (fun cdv A outer s H vs Q E hr h => ?_)
  · obtain ⟨B, x, b, z, sm, hw, h, kr⟩ := h
    rw [WLen.len hw]; rfl
  · obtain ⟨B, ⟨low0, high0, without0⟩, b, z, sm, hw, h, kr⟩ := h
    have h : m_one_form_Vt low0 high0 without0 = some b := h
    refine ⟨_, (pss_cons (ps_set (i := 3) sc_one_form.nd rfl (by first | exact Or.inl rfl | exact Or.inr rfl) (pe_callB (sortedSetK (wd := w) rfl rfl) (by rfl) T.b_sorted (by decide +kernel) (pa_cons (pe_callTy (cr_setI (K := K) rfl rfl) (by rfl) T.b_set (by decide +kernel) (pa_cons (pe_lc (own := [("number", 6)]) rfl sc_one_form.nd (pi_tup (pv 2)) (blkOk_by (N := N_one_form) (sc := defScope s_one_form) (by decide +kernel)) (fun _ _ _ _ _ => (pg_name (i := 6) sc_one_form.nd rfl (by first | exact Or.inl rfl | exact Or.inr rfl))) (fun _ _ _ _ _ => (pts_one (pt_val (pe_call (ok_between T) (hr.mono (by decide)) rfl T.g_between T.F_between.kp T.n_between .nil pass0 (pa_cons (pv 0) (pa_cons (pv 1) (pa_cons (pv 6) pa_nil))))))) (fun _ _ _ _ _ => (pv 6))) pa_nil)) pa_nil))) (pss_cons (ps_set (i := 4) sc_one_form.nd rfl (by first | exact Or.inl rfl | exact Or.inr rfl) pe_int) (pss_cons (ps_while PassesOwn.never (PW.pt (pw_and (pt_cmpR op_lt (pv 4) (pe_callB (len_seqK (K := K) rfl) (by rfl) T.b_len (by decide +kernel) (pa_cons (pv 3) pa_nil)) (nomark _)) (pw_and1 (pt_cmpR op_eq (pe_ix (ix_listK (K := K) rfl) (pv 3) (pv 4) (fun _ _ => rfl)) (pv 0) (nomark _))))) (pss_cons (ps_set (i := 0) sc_one_form.nd rfl (by first | exact Or.inl rfl | exact Or.inr rfl) (pe_op op_add (pv 0) pe_int)) (pss_cons (ps_set (i := 4) sc_one_form.nd rfl (by first | exact Or.inl rfl | exact Or.inr rfl) (pe_op op_add (pv 4) pe_int)) pss_nil))) (pss_cons (ps_set (i := 5) sc_one_form.nd rfl (by first | exact Or.inl rfl | exact Or.inr rfl) (pe_callB (len_seqK (K := K) rfl) (by rfl) T.b_len (by decide +kernel) (pa_cons (pv 3) pa_nil))) (pss_cons (ps_while PassesOwn.never (PW.pt (pw_and (pt_cmpR op_gt (pv 5) (pv 4) (nomark _)) (pw_and1 (pt_cmpR op_eq (pe_ix (ix_listK (K := K) rfl) (pv 3) (pe_op op_sub (pv 5) pe_int) (fun _ _ => rfl)) (pv 1) (nomark _))))) (pss_cons (ps_set (i := 1) sc_one_form.nd rfl (by first | exact Or.inl rfl | exact Or.inr rfl) (pe_op op_sub (pv 1) pe_int)) (pss_cons (ps_set (i := 5) sc_one_form.nd rfl (by first | exact Or.inl rfl | exact Or.inr rfl) (pe_op op_sub (pv 5) pe_int)) pss_nil))) (pss_cons (ps_if (PW.pt (pw_and (pt_cmp (pc_notN (pv 0))) (pw_and (pt_cmp (pc_notN (pv 1))) (pw_and1 (pt_cmpR op_gt (pv 0) (pv 1) (nomark _)))))) (pss_cons (ps_ret (pe_tup (pa_cons pe_int (pa_cons pe_int (pa_cons (pe_tup pa_nil) pa_nil))))) pss_nil) pss_nil) (pss_cons (ps_ret (pe_tup (pa_cons (pv 0) (pa_cons (pv 1) (pa_cons (pe_callTy (tuple_ofK (K := K) rfl) (by rfl) T.b_tuple (by decide +kernel) (pa_cons (pe_slice (sl_listK (K := K) rfl) (pv 3) (po_some (pv 4)) (po_some (pv 5))) pa_nil)) pa_nil))))) pss_nil))))))), ?_⟩
    refine nx_go (frm_start (N := N_one_form) (n := 4) z sm hw (by rw [WLen.len hw]; rfl)) ?_
    show Nx _ _ [.imm (rOpt rInt) low0, .imm (rOpt rInt) high0, .imm (rOb (cTpl rInt)) without0, .no, .no, .no, .no]
    unfold m_one_form_Vt at h
    obtain ⟨l4, hl4, h⟩ := bindO_some h
    obtain ⟨l5, hl5, h⟩ := bindO_some h
    obtain ⟨gaps6, hgaps6, h⟩ := letO_some h
    refine (sq_asg (ev_to (ev_new (ec_sortSet (ev_new (ec_lc (m_one_form_Vt_c1 low0 high0) (it_tpl (ev_var rfl)) hl4 tg_name (fun k hk => hk) (by rfl) (fun _ => by rfl) (fun number1 o ho => by unfold m_one_form_Vt_c1 at ho; obtain ⟨v2, hv2, ho⟩ := bindO_some ho; obtain ⟨c3, hc3, ho⟩ := letO_some ho; cases c3 with | true => (have ho : (some (some number1)) = some o := ho; cases ho; exact ⟨et_to (et_B (ev_call (ew_C (ev_var rfl) (ew_C (ev_var rfl) (ew_1 (ev_var rfl)))) hv2)) hc3.symm, fun y hy => by cases hy; exact ev_to (ev_var rfl) rfl⟩) | false => (have ho : some none = some o := ho; cases ho; exact ⟨et_to (et_B (ev_call (ew_C (ev_var rfl) (ew_C (ev_var rfl) (ew_1 (ev_var rfl)))) hv2)) hc3.symm, fun y hy => by cases hy⟩)))) hl5)) hgaps6.symm) ?_)
    show Nx _ _ [.imm (rOpt rInt) low0, .imm (rOpt rInt) high0, .imm (rOb (cTpl rInt)) without0, .imm (rOb (cLst rInt)) gaps6, .no, .no, .no]
    obtain ⟨start7, hstart7, h⟩ := letO_some h
    refine (sq_asg (ev_to ev_int hstart7.symm) ?_)
    show Nx _ _ [.imm (rOpt rInt) low0, .imm (rOpt rInt) high0, .imm (rOb (cTpl rInt)) without0, .imm (rOb (cLst rInt)) gaps6, .imm rInt start7, .no, .no]
    obtain ⟨R15, hR15, h⟩ := bindO_some h
    refine (sq_while (ψ := psi (rOb (cTup (wC (rOpt rInt) (wC (rOpt rInt) (w1 (rOb (cTpl rInt)))))))) (m_one_form_Vt_w1 gaps6) (m_one_form_Vt_b1) (fun z => [.imm (rOpt rInt) z.1, .imm (rOpt rInt) high0, .imm (rOb (cTpl rInt)) without0, .imm (rOb (cLst rInt)) gaps6, .imm rInt z.2, .no, .no]) hR15 ?_ (fun s8 b hc => ?_) (fun D1 s8 st h k1 => ?_) ?_ ?_)
    · exact nx_fin
    · have h : m_one_form_Vt_w1 gaps6 s8 = some b := hc
      unfold m_one_form_Vt_w1 at h
      obtain ⟨c11, hc11, h⟩ := letO_some h
      obtain ⟨b10, hb10, h⟩ := bindO_some h
      exact et_to (et_and (et_to (et_T (ev_lt (ev_var rfl) (ev_lenL (ev_var rfl)))) hc11.symm) (fun hc => by have hx := iteO_t hc hb10; obtain ⟨y9, hy9, hx⟩ := bindO_some hx; exact et_to (et_T (ev_eqS scOI (ev_some nn_int (ev_ixL (ev_var rfl) (ev_var rfl) hy9)) (ev_var rfl) (sc_oi _ _))) (Option.some.inj hx)) (fun hc => ⟨(Option.some.inj (iteO_f hc hb10)).symm, rfl⟩)) (Option.some.inj h)
    · show Nx _ _ [.imm (rOpt rInt) s8.1, .imm (rOpt rInt) high0, .imm (rOb (cTpl rInt)) without0, .imm (rOb (cLst rInt)) gaps6, .imm rInt s8.2, .no, .no]
      unfold m_one_form_Vt_b1 at h
      obtain ⟨g12, hg12, h⟩ := bindO_some h
      obtain ⟨low13, hlow13, h⟩ := letO_some h
      refine (sq_asg (ev_to (ev_some nn_int (ev_add (ev_get (ev_var rfl) hg12) ev_int)) hlow13.symm) ?_)
      show Nx _ _ [.imm (rOpt rInt) low13, .imm (rOpt rInt) high0, .imm (rOb (cTpl rInt)) without0, .imm (rOb (cLst rInt)) gaps6, .imm rInt s8.2, .no, .no]
      obtain ⟨start14, hstart14, h⟩ := letO_some h
      refine (sq_asg (ev_to (ev_add (ev_var rfl) ev_int) hstart14.symm) ?_)
      show Nx _ _ [.imm (rOpt rInt) low13, .imm (rOpt rInt) high0, .imm (rOb (cTpl rInt)) without0, .imm (rOb (cLst rInt)) gaps6, .imm rInt start14, .no, .no]
      refine nx_next ?_
      exact k1.nx _ (Option.some.inj h).symm
    · intro b e
      subst e
      obtain rfl := stepO_ret h; exact kr
    · intro e16 e
      subst e
      have h := stepO_nx h
      show Nx _ _ [.imm (rOpt rInt) e16.1, .imm (rOpt rInt) high0, .imm (rOb (cTpl rInt)) without0, .imm (rOb (cLst rInt)) gaps6, .imm rInt e16.2, .no, .no]
      obtain ⟨end17, hend17, h⟩ := letO_some h
      refine (sq_asg (ev_to (ev_lenL (ev_var rfl)) hend17.symm) ?_)
      show Nx _ _ [.imm (rOpt rInt) e16.1, .imm (rOpt rInt) high0, .imm (rOb (cTpl rInt)) without0, .imm (rOb (cLst rInt)) gaps6, .imm rInt e16.2, .imm rInt end17, .no]
      obtain ⟨R25, hR25, h⟩ := bindO_some h
      refine (sq_while (ψ := psi (rOb (cTup (wC (rOpt rInt) (wC (rOpt rInt) (w1 (rOb (cTpl rInt)))))))) (m_one_form_Vt_w2 gaps6 e16) (m_one_form_Vt_b2) (fun z => [.imm (rOpt rInt) e16.1, .imm (rOpt rInt) z.1, .imm (rOb (cTpl rInt)) without0, .imm (rOb (cLst rInt)) gaps6, .imm rInt e16.2, .imm rInt z.2, .no]) hR25 ?_ (fun s18 b hc => ?_) (fun D1 s18 st h k1 => ?_) ?_ ?_)
      · exact nx_fin
      · have h : m_one_form_Vt_w2 gaps6 e16 s18 = some b := hc
        unfold m_one_form_Vt_w2 at h
        obtain ⟨c21, hc21, h⟩ := letO_some h
        obtain ⟨b20, hb20, h⟩ := bindO_some h
        exact et_to (et_and (et_to (et_T (ev_gt (ev_var rfl) (ev_var rfl))) hc21.symm) (fun hc => by have hx := iteO_t hc hb20; obtain ⟨y19, hy19, hx⟩ := bindO_some hx; exact et_to (et_T (ev_eqS scOI (ev_some nn_int (ev_ixL (ev_var rfl) (ev_sub (ev_var rfl) ev_int) hy19)) (ev_var rfl) (sc_oi _ _))) (Option.some.inj hx)) (fun hc => ⟨(Option.some.inj (iteO_f hc hb20)).symm, rfl⟩)) (Option.some.inj h)
      · show Nx _ _ [.imm (rOpt rInt) e16.1, .imm (rOpt rInt) s18.1, .imm (rOb (cTpl rInt)) without0, .imm (rOb (cLst rInt)) gaps6, .imm rInt e16.2, .imm rInt s18.2, .no]
        unfold m_one_form_Vt_b2 at h
        obtain ⟨g22, hg22, h⟩ := bindO_some h
        obtain ⟨high23, hhigh23, h⟩ := letO_some h
        refine (sq_asg (ev_to (ev_some nn_int (ev_sub (ev_get (ev_var rfl) hg22) ev_int)) hhigh23.symm) ?_)
        show Nx _ _ [.imm (rOpt rInt) e16.1, .imm (rOpt rInt) high23, .imm (rOb (cTpl rInt)) without0, .imm (rOb (cLst rInt)) gaps6, .imm rInt e16.2, .imm rInt s18.2, .no]
        obtain ⟨end24, hend24, h⟩ := letO_some h
        refine (sq_asg (ev_to (ev_sub (ev_var rfl) ev_int) hend24.symm) ?_)
        show Nx _ _ [.imm (rOpt rInt) e16.1, .imm (rOpt rInt) high23, .imm (rOb (cTpl rInt)) without0, .imm (rOb (cLst rInt)) gaps6, .imm rInt e16.2, .imm rInt end24, .no]
        refine nx_next ?_
        exact k1.nx _ (Option.some.inj h).symm
      · intro b e
        subst e
        obtain rfl := stepO_ret h; exact kr
      · intro e26 e
        subst e
        have h := stepO_nx h
        show Nx _ _ [.imm (rOpt rInt) e16.1, .imm (rOpt rInt) e26.1, .imm (rOb (cTpl rInt)) without0, .imm (rOb (cLst rInt)) gaps6, .imm rInt e16.2, .imm rInt e26.2, .no]
        obtain ⟨c32, hc32, h⟩ := letO_some h
        obtain ⟨b31, hb31, h⟩ := bindO_some h
        obtain ⟨c33, hc33, h⟩ := letO_some h
        refine (sq_if (et_to (et_and (et_to (et_B (ev_notN (ev_var rfl))) hc32.symm) (fun hc => by have hx := iteO_t hc hb31; obtain ⟨c30, hc30, hx⟩ := letO_some hx; obtain ⟨b29, hb29, hx⟩ := bindO_some hx; exact et_to (et_and (et_to (et_B (ev_notN (ev_var rfl))) hc30.symm) (fun hc => by have hx := iteO_t hc hb29; obtain ⟨g27, hg27, hx⟩ := bindO_some hx; obtain ⟨g28, hg28, hx⟩ := bindO_some hx; exact et_to (et_T (ev_gt (ev_get (ev_var rfl) hg27) (ev_get (ev_var rfl) hg28))) (Option.some.inj hx)) (fun hc => ⟨(Option.some.inj (iteO_f hc hb29)).symm, rfl⟩)) (Option.some.inj hx)) (fun hc => ⟨(Option.some.inj (iteO_f hc hb31)).symm, rfl⟩)) hc33.symm) (fun hc => ?_) (fun hc => ?_))
        · have h := iteO_t hc h
          exact (sq_ret (ev_new (ec_tup (ew_C (ev_some nn_int ev_int) (ew_C (ev_some nn_int ev_int) (ew_1 (ev_new (ec_tpl eh_0 (Nat.le_of_ble_eq_true rfl)))))))) h kr)
        · have h := iteO_f hc h
          refine nx_next ?_
          try dsimp only
          exact (sq_ret (ev_new (ec_tup (ew_C (ev_var rfl) (ew_C (ev_var rfl) (ew_1 (ev_new (ec_tupL (ev_new (ec_slL (ev_var rfl) (eo_some (ev_var rfl)) (eo_some (ev_var rfl))))))))))) h kr)
theorem ok_meet (T : Txt K mg a) : FnOk P w K mg base CX0 5 a.f_meet a.d_meet ["regions"] (SpP (w1 (rOb (cLst (rIns a.C_Region [("low" : Str), ("high" : Str), ("without" : Str), ("size" : Str), ("value" : Str), ("_gaps" : Str)] (wC (rOpt rInt) (wC (rOpt rInt) (wC (rOb (cTpl rInt)) (wC (rOpt rInt) (wC (rOpt rInt) (w1 (rOb (cDic kyInt rBool)))))))))))) (rIns a.C_Region [("low" : Str), ("high" : Str), ("without" : Str), ("size" : Str), ("value" : Str), ("_gaps" : Str)] (wC (rOpt rInt) (wC (rOpt rInt) (wC (rOb (cTpl rInt)) (wC (rOpt rInt) (wC (rOpt rInt) (w1 (rOb (cDic kyInt rBool))))))))) (fun x => m_meet x)) := by
  refine T.F_meet.ok sc_meet (fun vs H Q E h => ?_) (fun cdv A outer s H vs Q E hr h => ?_)
  · obtain ⟨B, x, b, z, sm, hw, h, kr⟩ := h
    rw [WLen.len hw]; rfl
  · obtain ⟨B, regions0, b, z, sm, hw, h, kr⟩ := h
    have h : m_meet regions0 = some b := h
    refine ⟨_, (pss_cons (ps_setLc (i := 1) (own := [("region", 4)]) rfl sc_meet.nd rfl rfl (sw_true rfl rfl rfl (by decide +kernel)) (pi_list (pv 0)) (blkOk_by (N := N_meet) (sc := defScope s_meet) (by decide +kernel)) (fun _ _ _ _ _ => (pg_name (i := 4) sc_meet.nd rfl (by first | exact Or.inl rfl | exact Or.inr rfl))) (fun _ _ _ _ _ => (pts_one (pt_cmp (pc_notN (fldK (K := K) rfl (pv 4) rfl))))) (fun _ _ _ _ _ => (fldK (K := K) rfl (pv 4) rfl))) (pss_cons (ps_setLc (i := 2) (own := [("region", 4)]) rfl sc_meet.nd rfl rfl (sw_true rfl rfl rfl (by decide +kernel)) (pi_list (pv 0)) (blkOk_by (N := N_meet) (sc := defScope s_meet) (by decide +kernel)) (fun _ _ _ _ _ => (pg_name (i := 4) sc_meet.nd rfl (by first | exact Or.inl rfl | exact Or.inr rfl))) (fun _ _ _ _ _ => (pts_one (pt_cmp (pc_notN (fldK (K := K) rfl (pv 4) rfl))))) (fun _ _ _ _ _ => (fldK (K := K) rfl (pv 4) rfl))) (pss_cons (ps_setLc2 (i := 3) (own := [("region", 4), ("number", 5)]) (vs1 := [5]) rfl sc_meet.nd rfl rfl (sw_true rfl rfl rfl (by decide +kernel)) (pi_list (pv 0)) (blkOk_by (N := N_meet) (sc := defScope s_meet) (by decide +kernel)) (by decide) (fun _ _ _ _ _ => (pg_name (i := 4) sc_meet.nd rfl (by first | exact Or.inl rfl | exact Or.inr rfl))) (fun _ _ _ _ _ => pts_nil) (fun _ _ _ _ _ => (pi_tupK (K := K) rfl (fldK (K := K) rfl (pv 4) rfl))) (fun _ _ _ _ _ => (pg_name (i := 5) sc_meet.nd rfl (by first | exact Or.inl rfl | exact Or.inr rfl))) (fun _ _ _ _ _ => pts_nil) (fun _ _ _ _ _ => (pv 5))) (pss_cons (ps_ret (pe_make T.M_Region (ok_Region___init T) (hr.mono (by decide)) rfl T.g_Region T.n_Region___init_3 T.v_Region___init_3 pass0 (pa_cons (pe_callBK (crk_max (K := K) rfl rfl hr.units) (by rfl) T.b_max (by decide +kernel) (pa_cons (pv 1) pa_nil) (pk_cons pe_non pk_nil)) (pa_cons (pe_callBK (crk_min (K := K) rfl rfl hr.units) (by rfl) T.b_min (by decide +kernel) (pa_cons (pv 2) pa_nil) (pk_cons pe_non pk_nil)) (pa_cons (pv 3) pa_nil))))) pss_nil)))), ?_⟩
    refine nx_go (frm_start (N := N_meet) (n := 5) z sm hw (by rw [WLen.len hw]; rfl)) ?_
    show Nx _ _ [.imm (rOb (cLst (rIns a.C_Region [("low" : Str), ("high" : Str), ("without" : Str), ("size" : Str), ("value" : Str), ("_gaps" : Str)] (wC (rOpt rInt) (wC (rOpt rInt) (wC (rOb (cTpl rInt)) (wC (rOpt rInt) (wC (rOpt rInt) (w1 (rOb (cDic kyInt rBool))))))))))) regions0, .no, .no, .no, .no, .no]
    unfold m_meet at h
    obtain ⟨l4, hl4, h⟩ := bindO_some h
    obtain ⟨lows5, hlows5, h⟩ := letO_some h
    refine (sq_asg (ev_to (ev_new (ec_lc (m_meet_c1) (it_list (ev_var rfl)) hl4 tg_name (fun k hk => hk) (by rfl) (fun _ => by rfl) (fun region1 o ho => by unfold m_meet_c1 at ho; obtain ⟨c3, hc3, ho⟩ := letO_some ho; cases c3 with | true => (have ho : (bindO (region1.1) fun g2 => some (some g2)) = some o := ho; obtain ⟨g2, hg2, ho⟩ := bindO_some ho; cases ho; exact ⟨et_to (et_B (ev_notN (ev_fld (ev_var rfl) (acc0) rfl (by decide +kernel) T.cl_Region T.na_Region_low))) hc3.symm, fun y hy => by cases hy; exact ev_to (ev_get (ev_fld (ev_var rfl) (acc0) rfl (by decide +kernel) T.cl_Region T.na_Region_low) hg2) rfl⟩) | false => (have ho : some none = some o := ho; cases ho; exact ⟨et_to (et_B (ev_notN (ev_fld (ev_var rfl) (acc0) rfl (by decide +kernel) T.cl_Region T.na_Region_low))) hc3.symm, fun y hy => by cases hy⟩)))) hlows5.symm) ?_)
    show Nx _ _ [.imm (rOb (cLst (rIns a.C_Region [("low" : Str), ("high" : Str), ("without" : Str), ("size" : Str), ("value" : Str), ("_gaps" : Str)] (wC (rOpt rInt) (wC (rOpt rInt) (wC (rOb (cTpl rInt)) (wC (rOpt rInt) (wC (rOpt rInt) (w1 (rOb (cDic kyInt rBool))))))))))) regions0, .imm (rOb (cLst rInt)) lows5, .no, .no, .no, .no]
    obtain ⟨l9, hl9, h⟩ := bindO_some h
    obtain ⟨highs10, hhighs10, h⟩ := letO_some h
    refine (sq_asg (ev_to (ev_new (ec_lc (m_meet_c2) (it_list (ev_var rfl)) hl9 tg_name (fun k hk => hk) (by rfl) (fun _ => by rfl) (fun region6 o ho => by unfold m_meet_c2 at ho; obtain ⟨c8, hc8, ho⟩ := letO_some ho; cases c8 with | true => (have ho : (bindO (region6.2.1) fun g7 => some (some g7)) = some o := ho; obtain ⟨g7, hg7, ho⟩ := bindO_some ho; cases ho; exact ⟨et_to (et_B (ev_notN (ev_fld (ev_var rfl) (accS (acc0)) rfl (by decide +kernel) T.cl_Region T.na_Region_high))) hc8.symm, fun y hy => by cases hy; exact ev_to (ev_get (ev_fld (ev_var rfl) (accS (acc0)) rfl (by decide +kernel) T.cl_Region T.na_Region_high) hg7) rfl⟩) | false => (have ho : some none = some o := ho; cases ho; exact ⟨et_to (et_B (ev_notN (ev_fld (ev_var rfl) (accS (acc0)) rfl (by decide +kernel) T.cl_Region T.na_Region_high))) hc8.symm, fun y hy => by cases hy⟩)))) hhighs10.symm) ?_)
    show Nx _ _ [.imm (rOb (cLst (rIns a.C_Region [("low" : Str), ("high" : Str), ("without" : Str), ("size" : Str), ("value" : Str), ("_gaps" : Str)] (wC (rOpt rInt) (wC (rOpt rInt) (wC (rOb (cTpl rInt)) (wC (rOpt rInt) (wC (rOpt rInt) (w1 (rOb (cDic kyInt rBool))))))))))) regions0, .imm (rOb (cLst rInt)) lows5, .imm (rOb (cLst rInt)) highs10, .no, .no, .no]
    obtain ⟨l13, hl13, h⟩ := bindO_some h
    obtain ⟨without14, hwithout14, h⟩ := letO_some h
    refine (sq_asg (ev_to (ev_new (ec_lc2 (r1 := rInt) (m_meet_ci3) (m_meet_c4) (it_list (ev_var rfl)) hl13 tg_name (fun k hk => by revert k hk; decide) (by rfl) (fun _ => by rfl) (fun _ => et_yes) (fun region11 l hl => by unfold m_meet_ci3 at hl; exact it_to (it_tpl (ev_fld (ev_var rfl) (accS (accS (acc0))) rfl (by decide +kernel) T.cl_Region T.na_Region_without)) (Option.some.inj hl)) (fun _ => by rfl) (fun region11 => tg_name) (fun k hk => by revert k hk; decide) (fun _ _ => by rfl) (fun region11 number12 o ho => by unfold m_meet_c4 at ho; cases ho; exact ⟨et_yes, fun y hy => by cases hy; exact ev_to (ev_var rfl) rfl⟩))) hwithout14.symm) ?_)
    show Nx _ _ [.imm (rOb (cLst (rIns a.C_Region [("low" : Str), ("high" : Str), ("without" : Str), ("size" : Str), ("value" : Str), ("_gaps" : Str)] (wC (rOpt rInt) (wC (rOpt rInt) (wC (rOb (cTpl rInt)) (wC (rOpt rInt) (wC (rOpt rInt) (w1 (rOb (cDic kyInt rBool))))))))))) regions0, .imm (rOb (cLst rInt)) lows5, .imm (rOb (cLst rInt)) highs10, .imm (rOb (cLst rInt)) without14, .no, .no]
    obtain ⟨o15, ho15, h⟩ := bindO_some h
    exact (sq_ret (ev_make (ew_C (ev_mxN (ev_var rfl)) (ew_C (ev_mxN (ev_var rfl)) (ew_1 (ev_var rfl)))) ho15) h kr)
theorem ok_Region___eq (T : Txt K mg a) : FnOk P w K mg base CX0 1 a.f_Region___eq a.d_Region___eq ["self", "other"] (SpP (wC (rIns a.C_Region [("low" : Str), ("high" : Str), ("without" : Str), ("size" : Str), ("value" : Str), ("_gaps" : Str)] (wC (rOpt rInt) (wC (rOpt rInt) (wC (rOb (cTpl rInt)) (wC (rOpt rInt) (wC (rOpt rInt) (w1 (rOb (cDic kyInt rBool))))))))) (w1 (rIns a.C_Region [("low" : Str), ("high" : Str), ("without" : Str), ("size" : Str), ("value" : Str), ("_gaps" : Str)] (wC (rOpt rInt) (wC (rOpt rInt) (wC (rOb (cTpl rInt)) (wC (rOpt rInt) (wC (rOpt rInt) (w1 (rOb (cDic kyInt rBool))))))))))) rBool (fun x => m_Region___eq x.1 x.2)) := by
  refine T.F_Region___eq.ok sc_Region___eq (fun vs H Q E h => ?_) (fun cdv A outer s H vs Q E hr h => ?_)
  · obtain ⟨B, x, b, z, sm, hw, h, kr⟩ := h
    rw [WLen.len hw]; rfl
  · obtain ⟨B, ⟨self0, other0⟩, b, z, sm, hw, h, kr⟩ := h
    have h : m_Region___eq self0 other0 = some b := h
    refine ⟨_, (pss_cons (ps_ret (pe_and (pe_callB (isiK (K := K) rfl) (by rfl) T.b_isinstance (by decide +kernel) (pa_cons (pv 1) (pa_cons (pe_glob (v := .ref a.C_Region) (by rfl) T.g_Region rfl) pa_nil))) (pe_and (pe_cmpR op_eq (fldK (K := K) rfl (pv 0) rfl) (fldK (K := K) rfl (pv 1) rfl) (nomark _)) (pe_and (pe_cmpR op_eq (fldK (K := K) rfl (pv 0) rfl) (fldK (K := K) rfl (pv 1) rfl) (nomark _)) (pe_one (pe_cmpR (eqDK (K := K) rfl hr.units) (fldK (K := K) rfl (pv 0) rfl) (fldK (K := K) rfl (pv 1) rfl) (nomark _))))))) pss_nil), ?_⟩
    refine nx_go (frm_start (N := N_Region___eq) (n := 0) z sm hw (by rw [WLen.len hw]; rfl)) ?_
    show Nx _ _ [.imm (rIns a.C_Region [("low" : Str), ("high" : Str), ("without" : Str), ("size" : Str), ("value" : Str), ("_gaps" : Str)] (wC (rOpt rInt) (wC (rOpt rInt) (wC (rOb (cTpl rInt)) (wC (rOpt rInt) (wC (rOpt rInt) (w1 (rOb (cDic kyInt rBool))))))))) self0, .imm (rIns a.C_Region [("low" : Str), ("high" : Str), ("without" : Str), ("size" : Str), ("value" : Str), ("_gaps" : Str)] (wC (rOpt rInt) (wC (rOpt rInt) (wC (rOb (cTpl rInt)) (wC (rOpt rInt) (wC (rOpt rInt) (w1 (rOb (cDic kyInt rBool))))))))) other0]
    unfold m_Region___eq at h
    obtain ⟨c7, hc7, h⟩ := letO_some h
    obtain ⟨b6, hb6, h⟩ := bindO_some h
    exact (sq_ret (ev_and (ev_to (ev_isi (ev_var rfl) (ty_ins T.ct_Region) (.own _) T.q_Region_Region) hc7.symm) (fun hc => by have hx := iteO_t hc hb6; obtain ⟨c5, hc5, hx⟩ := letO_some hx; obtain ⟨b4, hb4, hx⟩ := bindO_some hx; exact ev_to (ev_and (ev_to (ev_eqS scOI (ev_fld (ev_var rfl) (acc0) rfl (by decide +kernel) T.cl_Region T.na_Region_low) (ev_fld (ev_var rfl) (acc0) rfl (by decide +kernel) T.cl_Region T.na_Region_low) (sc_oi _ _)) hc5.symm) (fun hc => by have hx := iteO_t hc hb4; obtain ⟨c3, hc3, hx⟩ := letO_some hx; obtain ⟨b2, hb2, hx⟩ := bindO_some hx; exact ev_to (ev_and (ev_to (ev_eqS scOI (ev_fld (ev_var rfl) (accS (acc0)) rfl (by decide +kernel) T.cl_Region T.na_Region_high) (ev_fld (ev_var rfl) (accS (acc0)) rfl (by decide +kernel) T.cl_Region T.na_Region_high) (sc_oi _ _)) hc3.symm) (fun hc => by have hx := iteO_t hc hb2; obtain ⟨q1, hq1, hx⟩ := bindO_some hx; exact ev_to (ev_eqD (da_tpl da_int) (da_tpl da_int) (ev_fld (ev_var rfl) (accS (accS (acc0))) rfl (by decide +kernel) T.cl_Region T.na_Region_without) (ev_fld (ev_var rfl) (accS (accS (acc0))) rfl (by decide +kernel) T.cl_Region T.na_Region_without) hq1) (Option.some.inj hx)) (fun hc => ⟨(Option.some.inj (iteO_f hc hb2)).symm, rfl⟩)) (Option.some.inj hx)) (fun hc => ⟨(Option.some.inj (iteO_f hc hb4)).symm, rfl⟩)) (Option.some.inj hx)) (fun hc => ⟨(Option.some.inj (iteO_f hc hb6)).symm, rfl⟩)) h kr)
theorem ok_Region___eq___Vt (T : Txt K mg a) : FnOk P w K mg base CX0 1 a.f_Region___eq a.d_Region___eq ["self", "other"] (SpP (wC (rIns a.C_Region [("low" : Str), ("high" : Str), ("without" : Str), ("size" : Str), ("value" : Str), ("_gaps" : Str)] (wC (rOpt rInt) (wC (rOpt rInt) (wC (rOb (cTpl rInt)) (wC (rOpt rInt) (wC (rOpt rInt) (w1 (rOb (cDic kyInt rBool))))))))) (w1 (rOb (cTup (wC (rOpt rInt) (w1 (rOpt rInt))))))) rBool (fun x => m_Region___eq___Vt x.1 x.2)) := by
  refine T.F_Region___eq.ok sc_Region___eq (fun vs H Q E h => ?_) (fun cdv A outer s H vs Q E hr h => ?_)
  · obtain ⟨B, x, b, z, sm, hw, h, kr⟩ := h
    rw [WLen.len hw]; rfl
  · obtain ⟨B, ⟨self0, other0⟩, b, z, sm, hw, h, kr⟩ := h
    have h : m_Region___eq___Vt self0 other0 = some b := h
    refine ⟨_, (pss_cons (ps_ret (pe_and (pe_callB (isiK (K := K) rfl) (by rfl) T.b_isinstance (by decide +kernel) (pa_cons (pv 1) (pa_cons (pe_glob (v := .ref a.C_Region) (by rfl) T.g_Region rfl) pa_nil))) (pe_and (pe_cmpR op_eq (fldK (K := K) rfl (pv 0) rfl) (fldK (K := K) rfl (pv 1) rfl) (nomark _)) (pe_and (pe_cmpR op_eq (fldK (K := K) rfl (pv 0) rfl) (fldK (K := K) rfl (pv 1) rfl) (nomark _)) (pe_one (pe_cmpR op_eq (fldK (K := K) rfl (pv 0) rfl) (fldK (K := K) rfl (pv 1) rfl) (nomark _))))))) pss_nil), ?_⟩
    refine nx_go (frm_start (N := N_Region___eq) (n := 0) z sm hw (by rw [WLen.len hw]; rfl)) ?_
    show Nx _ _ [.imm (rIns a.C_Region [("low" : Str), ("high" : Str), ("without" : Str), ("size" : Str), ("value" : Str), ("_gaps" : Str)] (wC (rOpt rInt) (wC (rOpt rInt) (wC (rOb (cTpl rInt)) (wC (rOpt rInt) (wC (rOpt rInt) (w1 (rOb (cDic kyInt rBool))))))))) self0, .imm (rOb (cTup (wC (rOpt rInt) (w1 (rOpt rInt))))) other0]
    unfold m_Region___eq___Vt at h
    exact (sq_ret (ev_and (ev_isi (ev_var rfl) ty_tup (.own _) T.q_tuple_Region) (fun hc => nomatch hc) (fun _ => ⟨rfl, rfl⟩)) h kr)
theorem ok_Region___eq___Vn (T : Txt K mg a) : FnOk P w K mg base CX0 1 a.f_Region___eq a.d_Region___eq ["self", "other"] (SpP (wC (rIns a.C_Region [("low" : Str), ("high" : Str), ("without" : Str), ("size" : Str), ("value" : Str), ("_gaps" : Str)] (wC (rOpt rInt) (wC (rOpt rInt) (wC (rOb (cTpl rInt)) (wC (rOpt rInt) (wC (rOpt rInt) (w1 (rOb (cDic kyInt rBool))))))))) (w1 rNon)) rBool (fun x => m_Region___eq___Vn x.1 x.2)) := by
  refine T.F_Region___eq.ok sc_Region___eq (fun vs H Q E h => ?_) (fun cdv A outer s H vs Q E hr h => ?_)
  · obtain ⟨B, x, b, z, sm, hw, h, kr⟩ := h
    rw [WLen.len hw]; rfl
  · obtain ⟨B, ⟨self0, other0⟩, b, z, sm, hw, h, kr⟩ := h
    have h : m_Region___eq___Vn self0 other0 = some b := h
    refine ⟨_, (pss_cons (ps_ret (pe_and (pe_callB (isiK (K := K) rfl) (by rfl) T.b_isinstance (by decide +kernel) (pa_cons (pv 1) (pa_cons (pe_glob (v := .ref a.C_Region) (by rfl) T.g_Region rfl) pa_nil))) (pe_and (pe_cmpR op_eq (fldK (K := K) rfl (pv 0) rfl) (fldK (K := K) rfl (pv 1) rfl) (nomark _)) (pe_and (pe_cmpR op_eq (fldK (K := K) rfl (pv 0) rfl) (fldK (K := K) rfl (pv 1) rfl) (nomark _)) (pe_one (pe_cmpR op_eq (fldK (K := K) rfl (pv 0) rfl) (fldK (K := K) rfl (pv 1) rfl) (nomark _))))))) pss_nil), ?_⟩
    refine nx_go (frm_start (N := N_Region___eq) (n := 0) z sm hw (by rw [WLen.len hw]; rfl)) ?_
    show Nx _ _ [.imm (rIns a.C_Region [("low" : Str), ("high" : Str), ("without" : Str), ("size" : Str), ("value" : Str), ("_gaps" : Str)] (wC (rOpt rInt) (wC (rOpt rInt) (wC (rOb (cTpl rInt)) (wC (rOpt rInt) (wC (rOpt rInt) (w1 (rOb (cDic kyInt rBool))))))))) self0, .imm rNon other0]
    unfold m_Region___eq___Vn at h
    exact (sq_ret (ev_and (ev_isi (ev_var rfl) ty_non (.own _) T.q_NoneType_Region) (fun hc => nomatch hc) (fun _ => ⟨rfl, rfl⟩)) h kr)
theorem ok_Region___eq___Vi (T : Txt K mg a) : FnOk P w K mg base CX0 1 a.f_Region___eq a.d_Region___eq ["self", "other"] (SpP (wC (rIns a.C_Region [("low" : Str), ("high" : Str), ("without" : Str), ("size" : Str), ("value" : Str), ("_gaps" : Str)] (wC (rOpt rInt) (wC (rOpt rInt) (wC (rOb (cTpl rInt)) (wC (rOpt rInt) (wC (rOpt rInt) (w1 (rOb (cDic kyInt rBool))))))))) (w1 rInt)) rBool (fun x => m_Region___eq___Vi x.1 x.2)) := by
  refine T.F_Region___eq.ok sc_Region___eq (fun vs H Q E h => ?_) (fun cdv A outer s H vs Q E hr h => ?_)
  · obtain ⟨B, x, b, z, sm, hw, h, kr⟩ := h
    rw [WLen.len hw]; rfl
  · obtain ⟨B, ⟨self0, other0⟩, b, z, sm, hw, h, kr⟩ := h
    have h : m_Region___eq___Vi self0 other0 = some b := h
    refine ⟨_, (pss_cons (ps_ret (pe_and (pe_callB (isiK (K := K) rfl) (by rfl) T.b_isinstance (by decide +kernel) (pa_cons (pv 1) (pa_cons (pe_glob (v := .ref a.C_Region) (by rfl) T.g_Region rfl) pa_nil))) (pe_and (pe_cmpR op_eq (fldK (K := K) rfl (pv 0) rfl) (fldK (K := K) rfl (pv 1) rfl) (nomark _)) (pe_and (pe_cmpR op_eq (fldK (K := K) rfl (pv 0) rfl) (fldK (K := K) rfl (pv 1) rfl) (nomark _)) (pe_one (pe_cmpR op_eq (fldK (K := K) rfl (pv 0) rfl) (fldK (K := K) rfl (pv 1) rfl) (nomark _))))))) pss_nil), ?_⟩
    refine nx_go (frm_start (N := N_Region___eq) (n := 0) z sm hw (by rw [WLen.len hw]; rfl)) ?_
    show Nx _ _ [.imm (rIns a.C_Region [("low" : Str), ("high" : Str), ("without" : Str), ("size" : Str), ("value" : Str), ("_gaps" : Str)] (wC (rOpt rInt) (wC (rOpt rInt) (wC (rOb (cTpl rInt)) (wC (rOpt rInt) (wC (rOpt rInt) (w1 (rOb (cDic kyInt rBool))))))))) self0, .imm rInt other0]
    unfold m_Region___eq___Vi at h
    exact (sq_ret (ev_and (ev_isi (ev_var rfl) ty_int (.own _) T.q_int_Region) (fun hc => nomatch hc) (fun _ => ⟨rfl, rfl⟩)) h kr)
theorem ok_Region___bool (T : Txt K mg a) : FnOk P w K mg base CX0 1 a.f_Region___bool a.d_Region___bool ["self"] (SpP (w1 (rIns a.C_Region [("low" : Str), ("high" : Str), ("without" : Str), ("size" : Str), ("value" : Str), ("_gaps" : Str)] (wC (rOpt rInt) (wC (rOpt rInt) (wC (rOb (cTpl rInt)) (wC (rOpt rInt) (wC (rOpt rInt) (w1 (rOb (cDic kyInt rBool)))))))))) rBool (fun x => m_Region___bool x)) := by
  refine T.F_Region___bool.ok sc_Region___bool (fun vs H Q E h => ?_) (fun cdv A outer s H vs Q E hr h => ?_)
  · obtain ⟨B, x, b, z, sm, hw, h, kr⟩ := h
    rw [WLen.len hw]; rfl
  · obtain ⟨B, self0, b, z, sm, hw, h, kr⟩ := h
    have h : m_Region___bool self0 = some b := h
    refine ⟨_, (pss_cons (ps_ret (pe_callTy call_bool1 (by rfl) T.b_bool (by decide +kernel) (pa_cons (pe_cmpR op_ne (fldK (K := K) rfl (pv 0) rfl) pe_int (nomark _)) pa_nil))) pss_nil), ?_⟩
    refine nx_go (frm_start (N := N_Region___bool) (n := 0) z sm hw (by rw [WLen.len hw]; rfl)) ?_
    show Nx _ _ [.imm (rIns a.C_Region [("low" : Str), ("high" : Str), ("without" : Str), ("size" : Str), ("value" : Str), ("_gaps" : Str)] (wC (rOpt rInt) (wC (rOpt rInt) (wC (rOb (cTpl rInt)) (wC (rOpt rInt) (wC (rOpt rInt) (w1 (rOb (cDic kyInt rBool))))))))) self0]
    unfold m_Region___bool at h
    exact (sq_ret (ev_bool1 (ev_neS scOI (ev_fld (ev_var rfl) (accS (accS (accS (acc0)))) rfl (by decide +kernel) T.cl_Region T.na_Region_size) (ev_some nn_int ev_int) (sc_oi _ _))) h kr)
theorem ok_Region_within (T : Txt K mg a) : FnOk P w K mg base CX0 6 a.f_Region_within a.d_Region_within ["self", "other"] (SpP (wC (rIns a.C_Region [("low" : Str), ("high" : Str), ("without" : Str), ("size" : Str), ("value" : Str), ("_gaps" : Str)] (wC (rOpt rInt) (wC (rOpt rInt) (wC (rOb (cTpl rInt)) (wC (rOpt rInt) (wC (rOpt rInt) (w1 (rOb (cDic kyInt rBool))))))))) (w1 (rIns a.C_Region [("low" : Str), ("high" : Str), ("without" : Str), ("size" : Str), ("value" : Str), ("_gaps" : Str)] (wC (rOpt rInt) (wC (rOpt rInt) (wC (rOb (cTpl rInt)) (wC (rOpt rInt) (wC (rOpt rInt) (w1 (rOb (cDic kyInt rBool))))))))))) rBool (fun x => m_Region_within x.1 x.2)) := by
  refine T.F_Region_within.ok sc_Region_within (fun vs H Q E h => ?_) (fun cdv A outer s H vs Q E hr h => ?_)
  · obtain ⟨B, x, b, z, sm, hw, h, kr⟩ := h
    rw [WLen.len hw]; rfl
  · obtain ⟨B, ⟨self0, other0⟩, b, z, sm, hw, h, kr⟩ := h
    have h : m_Region_within self0 other0 = some b := h
    refine ⟨_, (pss_cons (ps_ret (pe_cmpR (op_eqO (K := K) (t := (.ref a.C_Region)) rfl T.me_Region___eq (ok_Region___eq T) (hr.mono (by decide)) T.n_Region___eq pass0) (pe_call (ok_meet T) (hr.mono (by decide)) rfl T.g_meet T.F_meet.kp T.n_meet .nil pass0 (pa_cons (pe_lst (pa_cons (pv 0) (pa_cons (pv 1) pa_nil))) pa_nil)) (pv 0) (nomark _))) pss_nil), ?_⟩
    refine nx_go (frm_start (N := N_Region_within) (n := 0) z sm hw (by rw [WLen.len hw]; rfl)) ?_
    show Nx _ _ [.imm (rIns a.C_Region [("low" : Str), ("high" : Str), ("without" : Str), ("size" : Str), ("value" : Str), ("_gaps" : Str)] (wC (rOpt rInt) (wC (rOpt rInt) (wC (rOb (cTpl rInt)) (wC (rOpt rInt) (wC (rOpt rInt) (w1 (rOb (cDic kyInt rBool))))))))) self0, .imm (rIns a.C_Region [("low" : Str), ("high" : Str), ("without" : Str), ("size" : Str), ("value" : Str), ("_gaps" : Str)] (wC (rOpt rInt) (wC (rOpt rInt) (wC (rOb (cTpl rInt)) (wC (rOpt rInt) (wC (rOpt rInt) (w1 (rOb (cDic kyInt rBool))))))))) other0]
    unfold m_Region_within at h
    obtain ⟨v1, hv1, h⟩ := bindO_some h
    obtain ⟨n2, hn2, h⟩ := bindO_some h
    exact (sq_ret (ev_eqO (ev_call (ew_1 (ev_new (ec_lst (eh_C (ev_var rfl) (eh_C (ev_var rfl) eh_0)) (Nat.le_of_ble_eq_true rfl)))) hv1) (ev_var rfl) (ty_ins T.ct_Region) T.nf_Region_Region hn2) h kr)
theorem ok_l_start (T : Txt K mg a) : FnOk P w K mg base CX0 1 a.f_l_start a.d_l_start ["_law_script"] (SpC (w1 (rScr K)) (cHls (wC (rOb (cLst rInt)) (wC rInt (wC rInt (w1 rInt))))) (fun x => m_l_start x)) := by
  refine T.F_l_start.ok sc_l_start (fun vs H Q E h => ?_) (fun cdv A outer s H vs Q E hr h => ?_)
  · obtain ⟨B, x, b, z, sm, hw, h, kr⟩ := h
    rw [WLen.len hw]; rfl
  · obtain ⟨B, script0, b, z, sm, hw, h, kr⟩ := h
    have h : m_l_start script0 = some b := h
    have kr : RtC (amb0 B H) (cHls (wC (rOb (cLst rInt)) (wC rInt (wC rInt (w1 rInt))))) b Q := kr
    refine ⟨_, (pss_cons (ps_set (i := 1) sc_l_start.nd rfl (by first | exact Or.inl rfl | exact Or.inr rfl) pe_int) (Evl.pss_cut (ps_if (pt_cmpR op_gt (pe_callB (len_seqK (K := K) rfl) (by rfl) T.b_len (by decide +kernel) (pa_cons (pv 0) pa_nil)) pe_int (nomark _)) (pss_cons (ps_set (i := 1) sc_l_start.nd rfl (by first | exact Or.inl rfl | exact Or.inr rfl) (pe_ix (ix_listK (K := K) rfl) (pv 0) pe_int (fun _ _ => rfl))) pss_nil) pss_nil) (pss_cons (ps_ret (pe_lst (pa_cons (pe_callTy (list_ofK (K := K) rfl) (by rfl) T.b_list (by decide +kernel) (pa_cons (pv 0) pa_nil)) (pa_cons pe_int (pa_cons (pv 1) (pa_cons pe_int pa_nil)))))) pss_nil))), ?_⟩
    refine nx_go (frm_start (N := N_l_start) (n := 1) z sm hw (by rw [WLen.len hw]; rfl)) ?_
    show Nx _ _ [.imm (rScr K) script0, .no]
    unfold m_l_start at h
    obtain ⟨first1, hfirst1, h⟩ := letO_some h
    refine (sq_asg (ev_to ev_int hfirst1.symm) ?_)
    show Nx _ _ [.imm (rScr K) script0, .imm rInt first1]
    obtain ⟨c2, hc2, h⟩ := letO_some h
    obtain ⟨j3, hj3, h2⟩ := bindO_some h
    have h := hj3
    refine nx_cut [.imm (rScr K) script0, .imm rInt j3] (nx_if (et_to (et_T (ev_gt (ev_lenC (ev_var rfl)) ev_int)) hc2.symm) (fun hc => ?_) (fun hc => ?_)) ?_
    · clear h2 hj3
      have h := iteO_t hc h
      obtain ⟨y4, hy4, h⟩ := bindO_some h
      obtain ⟨first5, hfirst5, h⟩ := letO_some h
      refine (sq_asg (ev_to (ev_ixC (ev_var rfl) ev_int hy4) hfirst5.symm) ?_)
      show Nx _ _ [.imm (rScr K) script0, .imm rInt first5]
      obtain rfl := Option.some.inj h
      exact nx_fin
    · clear h2 hj3
      have h := iteO_f hc h
      obtain rfl := Option.some.inj h
      exact nx_fin
    · clear h
      have h := h2
      obtain ⟨l6, hl6, h⟩ := bindO_some h
      exact (sq_retC (ec_hls (ew_C (ev_new (ec_listC (ev_var rfl) hl6)) (ew_C ev_int (ew_C (ev_var rfl) (ew_1 ev_int))))) h kr)
theorem ok_l_draw (T : Txt K mg a) : FnOk P w K mg base CX0 1 a.f_l_draw a.d_l_draw ["_law_state", "_law_many"] (SpS (cHls (wC (rOb (cLst rInt)) (wC rInt (wC rInt (w1 rInt))))) (w1 rInt) rInt (fun st x => m_l_draw st x)) := by
  refine T.F_l_draw.ok sc_l_draw (fun vs H Q E h => ?_) (fun cdv A outer s H vs Q E hr h => ?_)
  · obtain ⟨p, vs', B, o, st, x, b, rfl, z, sm, hB, hp, ko, hw, h, kr⟩ := h
    show vs'.length + 1 = _; rw [WLen.len hw]; rfl
  · obtain ⟨p, vs', B, o, st0, many0, b, rfl, z, sm, hB, hp, ko, hw, h, kr⟩ := h
    have h : m_l_draw st0 many0 = some b := h
    refine ⟨_, (pss_cons (ps_if (pt_cmpR op_ge (pe_ix (ix_listK (K := K) rfl) (pv 0) pe_int (fun _ _ => rfl)) (pe_op op_pow pe_int pe_int) (nomark _)) (pss_cons (ps_set (i := 2) sc_l_draw.nd rfl (by first | exact Or.inl rfl | exact Or.inr rfl) (pe_op op_mod (pe_callTy call_int1 (by rfl) T.b_int (by decide +kernel) (pa_cons (pe_ix (ix_listK (K := K) rfl) (pv 0) pe_int (fun _ _ => rfl)) pa_nil)) (pv 1))) (pss_cons (ps_asg (pe_op op_fdivW (pe_ix (ix_listK (K := K) rfl) (pv 0) pe_int (fun _ _ => rfl)) (pv 1)) (pg_sub (pv 0) pe_int set_list)) (pss_cons (ps_ret (pv 2)) pss_nil))) pss_nil) (pss_cons (ps_asg (pe_op op_add (pe_ix (ix_listK (K := K) rfl) (pv 0) pe_int (fun _ _ => rfl)) pe_int) (pg_sub (pv 0) pe_int set_list)) (pss_cons (ps_set (i := 3) sc_l_draw.nd rfl (by first | exact Or.inl rfl | exact Or.inr rfl) (pe_op op_add (pe_op op_add (pe_op op_mod (pe_callTy call_int1 (by rfl) T.b_int (by decide +kernel) (pa_cons (pe_ix (ix_listK (K := K) rfl) (pv 0) pe_int (fun _ _ => rfl)) pa_nil)) pe_int) (pe_op op_mul pe_int (pe_ix (ix_listK (K := K) rfl) (pv 0) pe_int (fun _ _ => rfl)))) pe_int)) (pss_cons (ps_set (i := 4) sc_l_draw.nd rfl (by first | exact Or.inl rfl | exact Or.inr rfl) (pe_op op_mod (pe_op op_pow (pv 3) pe_int) pe_int)) (Evl.pss_cut (ps_if (pt_cmpR op_lt (pe_ix (ix_listK (K := K) rfl) (pv 0) pe_int (fun _ _ => rfl)) (pe_callB (len_seqK (K := K) rfl) (by rfl) T.b_len (by decide +kernel) (pa_cons (pe_ix (ix_listK (K := K) rfl) (pv 0) pe_int (fun _ _ => rfl)) pa_nil)) (nomark _)) (pss_cons (ps_asg (pe_ix (ix_listK (K := K) rfl) (pe_ix (ix_listK (K := K) rfl) (pv 0) pe_int (fun _ _ => rfl)) (pe_ix (ix_listK (K := K) rfl) (pv 0) pe_int (fun _ _ => rfl)) (fun _ _ => rfl)) (pg_sub (pv 0) pe_int set_list)) (pss_cons (ps_asg (pe_op op_add (pe_ix (ix_listK (K := K) rfl) (pv 0) pe_int (fun _ _ => rfl)) pe_int) (pg_sub (pv 0) pe_int set_list)) pss_nil)) pss_nil) (pss_cons (ps_ret (pe_op op_mod (pe_op op_fdivW (pe_callTy call_int1 (by rfl) T.b_int (by decide +kernel) (pa_cons (pv 4) pa_nil)) pe_int) (pv 1))) pss_nil)))))), ?_⟩
    refine nx_go (frm_startS (N := N_l_draw) (n := 3) z sm hB hp ko hw (by rw [WLen.len hw]; rfl)) ?_
    show Nx _ _ [.cel p (cHls (wC (rOb (cLst rInt)) (wC rInt (wC rInt (w1 rInt))))) st0, .imm rInt many0, .no, .no, .no]
    unfold m_l_draw at h
    obtain ⟨c1, hc1, h⟩ := letO_some h
    refine (sq_if (et_to (et_T (ev_ge (ev_celR (k := 2) rfl (accS (accS (acc0)))) (ev_pow ev_int ev_int (by unfold CPow; decide)))) hc1.symm) (fun hc => ?_) (fun hc => ?_))
    · have h := iteO_t hc h
      obtain ⟨r2, hr2, h⟩ := bindO_some h
      obtain ⟨drawn3, hdrawn3, h⟩ := letO_some h
      refine (sq_asg (ev_to (ev_modP (ev_int1 (ev_celR (k := 2) rfl (accS (accS (acc0))))) (ev_var rfl) hr2) hdrawn3.symm) ?_)
      show Nx _ _ [.cel p (cHls (wC (rOb (cLst rInt)) (wC rInt (wC rInt (w1 rInt))))) st0, .imm rInt many0, .imm rInt drawn3, .no, .no]
      obtain ⟨q4, hq4, h⟩ := bindO_some h
      obtain ⟨z5, hz5, h⟩ := letO_some h
      refine (sq_setR (k := 2) (ev_divP (ev_celR (k := 2) rfl (accS (accS (acc0)))) (ev_var rfl) hq4) rfl (updS (updS (upd0))) (nx_cel (i := 0) rfl hz5.symm ?_))
      show Nx _ _ [.cel p (cHls (wC (rOb (cLst rInt)) (wC rInt (wC rInt (w1 rInt))))) z5, .imm rInt many0, .imm rInt drawn3, .no, .no]
      exact (sq_retS (i := 0) (ev_var rfl) rfl h kr)
    · have h := iteO_f hc h
      refine nx_next ?_
      try dsimp only
      obtain ⟨z6, hz6, h⟩ := letO_some h
      refine (sq_setR (k := 3) (ev_add (ev_celR (k := 3) rfl (accS (accS (accS (acc1))))) ev_int) rfl (updS (updS (updS (upd1)))) (nx_cel (i := 0) rfl hz6.symm ?_))
      show Nx _ _ [.cel p (cHls (wC (rOb (cLst rInt)) (wC rInt (wC rInt (w1 rInt))))) z6, .imm rInt many0, .no, .no, .no]
      obtain ⟨seed7, hseed7, h⟩ := letO_some h
      refine (sq_asg (ev_to (ev_add (ev_add (ev_mod (ev_int1 (ev_celR (k := 2) rfl (accS (accS (acc0))))) ev_int (by decide)) (ev_mul ev_int (ev_celR (k := 3) rfl (accS (accS (accS (acc1))))) (.inl (by decide)))) ev_int) hseed7.symm) ?_)
      show Nx _ _ [.cel p (cHls (wC (rOb (cLst rInt)) (wC rInt (wC rInt (w1 rInt))))) z6, .imm rInt many0, .no, .imm rInt seed7, .no]
      obtain ⟨w8, hw8, h⟩ := bindO_some h
      obtain ⟨mixed9, hmixed9, h⟩ := letO_some h
      refine (sq_asg (ev_to (ev_mod (ev_powP (ev_var rfl) ev_int hw8) ev_int (by decide)) hmixed9.symm) ?_)
      show Nx _ _ [.cel p (cHls (wC (rOb (cLst rInt)) (wC rInt (wC rInt (w1 rInt))))) z6, .imm rInt many0, .no, .imm rInt seed7, .imm rInt mixed9]
      obtain ⟨c10, hc10, h⟩ := letO_some h
      obtain ⟨j11, hj11, h2⟩ := bindO_some h
      have h := hj11
      refine nx_cut [.cel p (cHls (wC (rOb (cLst rInt)) (wC rInt (wC rInt (w1 rInt))))) j11, .imm rInt many0, .no, .imm rInt seed7, .imm rInt mixed9] (nx_if (et_to (et_T (ev_lt (ev_celR (k := 1) rfl (accS (acc0))) (ev_lenL (ev_celR (k := 0) rfl (acc0))))) hc10.symm) (fun hc => ?_) (fun hc => ?_)) ?_
      · clear h2 hj11
        have h := iteO_t hc h
        obtain ⟨y12, hy12, h⟩ := bindO_some h
        obtain ⟨z13, hz13, h⟩ := letO_some h
        refine (sq_setR (k := 2) (ev_ixL (ev_celR (k := 0) rfl (acc0)) (ev_celR (k := 1) rfl (accS (acc0))) hy12) rfl (updS (updS (upd0))) (nx_cel (i := 0) rfl hz13.symm ?_))
        show Nx _ _ [.cel p (cHls (wC (rOb (cLst rInt)) (wC rInt (wC rInt (w1 rInt))))) z13, .imm rInt many0, .no, .imm rInt seed7, .imm rInt mixed9]
        obtain ⟨z14, hz14, h⟩ := letO_some h
        refine (sq_setR (k := 1) (ev_add (ev_celR (k := 1) rfl (accS (acc0))) ev_int) rfl (updS (upd0)) (nx_cel (i := 0) rfl hz14.symm ?_))
        show Nx _ _ [.cel p (cHls (wC (rOb (cLst rInt)) (wC rInt (wC rInt (w1 rInt))))) z14, .imm rInt many0, .no, .imm rInt seed7, .imm rInt mixed9]
        obtain rfl := Option.some.inj h
        exact nx_fin
      · clear h2 hj11
        have h := iteO_f hc h
        obtain rfl := Option.some.inj h
        exact nx_fin
      · clear h
        have h := h2
        obtain ⟨r15, hr15, h⟩ := bindO_some h
        exact (sq_retS (i := 0) (ev_modP (ev_divW (ev_int1 (ev_var rfl)) ev_int (by unfold CDivW; decide)) (ev_var rfl) hr15) rfl h kr)
theorem ok_l_end (T : Txt K mg a) : FnOk P w K mg base CX0 2 a.f_l_end a.d_l_end ["_law_state", "_law_base_here"] (SpS (cHls (wC (rOb (cLst rInt)) (wC rInt (wC rInt (w1 rInt))))) (w1 rInt) (rOpt rInt) (fun st x => m_l_end st x)) := by
  refine T.F_l_end.ok sc_l_end (fun vs H Q E h => ?_) (fun cdv A outer s H vs Q E hr h => ?_)
  · obtain ⟨p, vs', B, o, st, x, b, rfl, z, sm, hB, hp, ko, hw, h, kr⟩ := h
    show vs'.length + 1 = _; rw [WLen.len hw]; rfl
  · obtain ⟨p, vs', B, o, st0, base_here0, b, rfl, z, sm, hB, hp, ko, hw, h, kr⟩ := h
    have h : m_l_end st0 base_here0 = some b := h
    refine ⟨_, (pss_cons (ps_if (pt_cmpR op_eq (pe_call (ok_l_draw T) (hr.mono (by decide)) rfl T.g_l_draw T.F_l_draw.kp T.n_l_draw .nil pass0 (pa_cons (pv 0) (pa_cons pe_int pa_nil))) pe_int (nomark _)) (pss_cons (ps_ret pe_non) pss_nil) pss_nil) (pss_cons (ps_ret (pe_op op_sub (pe_op op_add (pv 1) (pe_call (ok_l_draw T) (hr.mono (by decide)) rfl T.g_l_draw T.F_l_draw.kp T.n_l_draw .nil pass0 (pa_cons (pv 0) (pa_cons pe_int pa_nil)))) pe_int)) pss_nil)), ?_⟩
    refine nx_go (frm_startS (N := N_l_end) (n := 0) z sm hB hp ko hw (by rw [WLen.len hw]; rfl)) ?_
    show Nx _ _ [.cel p (cHls (wC (rOb (cLst rInt)) (wC rInt (wC rInt (w1 rInt))))) st0, .imm rInt base_here0]
    unfold m_l_end at h
    obtain ⟨p1, hp1, h⟩ := bindO_some h
    obtain ⟨c2, hc2, h⟩ := letO_some h
    refine (sq_if (et_to (et_T (ev_eqS scInt (ev_callS (ew_1 ev_int) rfl rfl hp1) ev_int rfl)) hc2.symm) (fun hc => ?_) (fun hc => ?_))
    · have h := iteO_t hc h
      exact (sq_retS (i := 0) (ev_none (r := rInt)) rfl h kr)
    · have h := iteO_f hc h
      refine nx_next ?_
      try dsimp only
      obtain ⟨p3, hp3, h⟩ := bindO_some h
      exact (sq_retS (i := 0) (ev_some nn_int (ev_sub (ev_add (ev_var rfl) (ev_callS (ew_1 ev_int) rfl rfl hp3)) ev_int)) rfl h kr)
theorem ok_l_base (T : Txt K mg a) : FnOk P w K mg base CX0 2 a.f_l_base a.d_l_base ["_law_state"] (SpS (cHls (wC (rOb (cLst rInt)) (wC rInt (wC rInt (w1 rInt))))) w0 rInt (fun st x => m_l_base st)) := by
  refine T.F_l_base.ok sc_l_base (fun vs H Q E h => ?_) (fun cdv A outer s H vs Q E hr h => ?_)
  · obtain ⟨p, vs', B, o, st, x, b, rfl, z, sm, hB, hp, ko, hw, h, kr⟩ := h
    show vs'.length + 1 = _; rw [WLen.len hw]; rfl
  · obtain ⟨p, vs', B, o, st0, _x, b, rfl, z, sm, hB, hp, ko, hw, h, kr⟩ := h
    have h : m_l_base st0  = some b := h
    refine ⟨_, (pss_cons (ps_set (i := 1) sc_l_base.nd rfl (by first | exact Or.inl rfl | exact Or.inr rfl) (pe_call (ok_l_draw T) (hr.mono (by decide)) rfl T.g_l_draw T.F_l_draw.kp T.n_l_draw .nil pass0 (pa_cons (pv 0) (pa_cons pe_int pa_nil)))) (pss_cons (ps_if (pt_cmpR op_lt (pv 1) pe_int (nomark _)) (pss_cons (ps_ret pe_int) pss_nil) pss_nil) (pss_cons (ps_ret (pe_ix (ix_listK (K := K) rfl) (pe_lst (pa_cons (pe_op op_pow pe_int pe_int) (pa_cons (pe_un un_neg (pe_op op_pow pe_int pe_int)) pa_nil))) (pe_op op_sub (pv 1) pe_int) (fun _ _ => rfl))) pss_nil))), ?_⟩
    refine nx_go (frm_startS (N := N_l_base) (n := 1) z sm hB hp ko hw (by rw [WLen.len hw]; rfl)) ?_
    show Nx _ _ [.cel p (cHls (wC (rOb (cLst rInt)) (wC rInt (wC rInt (w1 rInt))))) st0, .no]
    unfold m_l_base at h
    obtain ⟨p1, hp1, h⟩ := bindO_some h
    obtain ⟨kind2, hkind2, h⟩ := letO_some h
    refine (sq_asg (ev_to (ev_callS (ew_1 ev_int) rfl rfl hp1) hkind2.symm) ?_)
    show Nx _ _ [.cel p (cHls (wC (rOb (cLst rInt)) (wC rInt (wC rInt (w1 rInt))))) p1.2, .imm rInt kind2]
    obtain ⟨c3, hc3, h⟩ := letO_some h
    refine (sq_if (et_to (et_T (ev_lt (ev_var rfl) ev_int)) hc3.symm) (fun hc => ?_) (fun hc => ?_))
    · have h := iteO_t hc h
      exact (sq_retS (i := 0) ev_int rfl h kr)
    · have h := iteO_f hc h
      refine nx_next ?_
      try dsimp only
      obtain ⟨y4, hy4, h⟩ := bindO_some h
      exact (sq_retS (i := 0) (ev_ixL (ev_new (ec_lst (eh_C (ev_pow ev_int ev_int (by unfold CPow; decide)) (eh_C (ev_neg (ev_pow ev_int ev_int (by unfold CPow; decide))) eh_0)) (Nat.le_of_ble_eq_true rfl))) (ev_sub (ev_var rfl) ev_int) hy4) rfl h kr)
theorem ok_l_parts (T : Txt K mg a) : FnOk P w K mg base CX0 3 a.f_l_parts a.d_l_parts ["_law_state", "_law_base_here"] (SpS (cHls (wC (rOb (cLst rInt)) (wC rInt (wC rInt (w1 rInt))))) (w1 rInt) (rOb (cHls (wC (rOpt rInt) (wC (rOpt rInt) (w1 (rOb (cLst rInt))))))) (fun st x => m_l_parts st x)) := by
  refine T.F_l_parts.ok sc_l_parts (fun vs H Q E h => ?_) (fun cdv A outer s H vs Q E hr h => ?_)
  · obtain ⟨p, vs', B, o, st, x, b, rfl, z, sm, hB, hp, ko, hw, h, kr⟩ := h
    show vs'.length + 1 = _; rw [WLen.len hw]; rfl
  · obtain ⟨p, vs', B, o, st0, base_here0, b, rfl, z, sm, hB, hp, ko, hw, h, kr⟩ := h
    have h : m_l_parts st0 base_here0 = some b := h
    refine ⟨_, (pss_cons (ps_set (i := 2) sc_l_parts.nd rfl (by first | exact Or.inl rfl | exact Or.inr rfl) (pe_call (ok_l_end T) (hr.mono (by decide)) rfl T.g_l_end T.F_l_end.kp T.n_l_end .nil pass0 (pa_cons (pv 0) (pa_cons (pv 1) pa_nil)))) (pss_cons (ps_set (i := 3) sc_l_parts.nd rfl (by first | exact Or.inl rfl | exact Or.inr rfl) (pe_call (ok_l_end T) (hr.mono (by decide)) rfl T.g_l_end T.F_l_end.kp T.n_l_end .nil pass0 (pa_cons (pv 0) (pa_cons (pv 1) pa_nil)))) (pss_cons (ps_setLc (i := 4) (own := [("_law_k", 5)]) rfl sc_l_parts.nd rfl rfl (sw_true rfl rfl rfl (by decide +kernel)) (pi_range1 rfl T.b_range (pa_cons (pe_call (ok_l_draw T) (hr.mono (by decide)) rfl T.g_l_draw T.F_l_draw.kp T.n_l_draw .nil pass0 (pa_cons (pv 0) (pa_cons pe_int pa_nil))) pa_nil)) (blkOk_by (N := N_l_parts) (sc := defScope s_l_parts) (by decide +kernel)) (fun _ _ _ _ _ => (pg_name (i := 5) sc_l_parts.nd rfl (by first | exact Or.inl rfl | exact Or.inr rfl))) (fun _ _ _ _ _ => pts_nil) (fun _ _ _ _ _ => (pe_op op_sub (pe_op op_add (pv 1) (pe_call (ok_l_draw T) (hr.mono (by decide)) rfl T.g_l_draw T.F_l_draw.kp T.n_l_draw .nil pass0 (pa_cons (pv 0) (pa_cons pe_int pa_nil)))) pe_int))) (pss_cons (ps_ret (pe_lst (pa_cons (pv 2) (pa_cons (pv 3) (pa_cons (pv 4) pa_nil))))) pss_nil)))), ?_⟩
    refine nx_go (frm_startS (N := N_l_parts) (n := 4) z sm hB hp ko hw (by rw [WLen.len hw]; rfl)) ?_
    show Nx _ _ [.cel p (cHls (wC (rOb (cLst rInt)) (wC rInt (wC rInt (w1 rInt))))) st0, .imm rInt base_here0, .no, .no, .no, .no]
    unfold m_l_parts at h
    obtain ⟨p1, hp1, h⟩ := bindO_some h
    obtain ⟨least2, hleast2, h⟩ := letO_some h
    refine (sq_asg (ev_to (ev_callS (ew_1 (ev_var rfl)) rfl rfl hp1) hleast2.symm) ?_)
    show Nx _ _ [.cel p (cHls (wC (rOb (cLst rInt)) (wC rInt (wC rInt (w1 rInt))))) p1.2, .imm rInt base_here0, .imm (rOpt rInt) least2, .no, .no, .no]
    obtain ⟨p3, hp3, h⟩ := bindO_some h
    obtain ⟨most4, hmost4, h⟩ := letO_some h
    refine (sq_asg (ev_to (ev_callS (ew_1 (ev_var rfl)) rfl rfl hp3) hmost4.symm) ?_)
    show Nx _ _ [.cel p (cHls (wC (rOb (cLst rInt)) (wC rInt (wC rInt (w1 rInt))))) p3.2, .imm rInt base_here0, .imm (rOpt rInt) least2, .imm (rOpt rInt) most4, .no, .no]
    obtain ⟨p5, hp5, h⟩ := bindO_some h
    obtain ⟨l6, hl6, h⟩ := bindO_some h
    obtain ⟨l10, hl10, h⟩ := bindO_some h
    obtain ⟨holes11, hholes11, h⟩ := letO_some h
    refine (sq_asg (ev_to (ev_new (ec_lcS (m_l_parts_c1 base_here0) (fun z => [.cel p (cHls (wC (rOb (cLst rInt)) (wC rInt (wC rInt (w1 rInt))))) z, .imm rInt base_here0, .imm (rOpt rInt) least2, .imm (rOpt rInt) most4, .no, .no]) (it_rng1 (ew_1 (ev_callS (ew_1 ev_int) rfl rfl hp5)) hl6) hl10 (fun A2 => nx_fin) (fun _ => rfl) (fun _ => tg_name) (fun k hk => hk) (fun _ _ => rfl) (fun k7 st8 o s2 ho => by unfold m_l_parts_c1 at ho; obtain ⟨p9, hp9, ho⟩ := bindO_some ho; obtain ⟨ho1, ho2⟩ := Prod.mk.inj (Option.some.inj ho); subst ho1; subst ho2; exact ⟨st8, et_yes, fun y hy => by cases hy; exact ev_to (ev_sub (ev_add (ev_var rfl) (ev_callS (ew_1 ev_int) rfl rfl hp9)) ev_int) rfl, fun hn => by cases hn⟩))) hholes11.symm) ?_)
    show Nx _ _ [.cel p (cHls (wC (rOb (cLst rInt)) (wC rInt (wC rInt (w1 rInt))))) l10.2, .imm rInt base_here0, .imm (rOpt rInt) least2, .imm (rOpt rInt) most4, .imm (rOb (cLst rInt)) holes11, .no]
    exact (sq_retS (i := 0) (ev_new (ec_hls (ew_C (ev_var rfl) (ew_C (ev_var rfl) (ew_1 (ev_var rfl)))))) rfl h kr)
theorem ok_l_in_part (T : Txt K mg a) : FnOk P w K mg base CX0 1 a.f_l_in_part a.d_l_in_part ["_law_part", "_law_number"] (SpP (wC (rOb (cHls (wC (rOpt rInt) (wC (rOpt rInt) (w1 (rOb (cLst rInt))))))) (w1 rInt)) rBool (fun x => m_l_in_part x.1 x.2)) := by
  refine T.F_l_in_part.ok sc_l_in_part (fun vs H Q E h => ?_) (fun cdv A outer s H vs Q E hr h => ?_)
  · obtain ⟨B, x, b, z, sm, hw, h, kr⟩ := h
    rw [WLen.len hw]; rfl
  · obtain ⟨B, ⟨part0, number0⟩, b, z, sm, hw, h, kr⟩ := h
    have h : m_l_in_part part0 number0 = some b := h
    refine ⟨_, (pss_cons (ps_if (PW.pt (pw_and (pt_cmp (pc_notN (pe_ix (ix_listK (K := K) rfl) (pv 0) pe_int (fun _ _ => rfl)))) (pw_and1 (pt_cmpR op_lt (pv 1) (pe_ix (ix_listK (K := K) rfl) (pv 0) pe_int (fun _ _ => rfl)) (nomark _))))) (pss_cons (ps_ret pe_bl) pss_nil) pss_nil) (pss_cons (ps_if (PW.pt (pw_and (pt_cmp (pc_notN (pe_ix (ix_listK (K := K) rfl) (pv 0) pe_int (fun _ _ => rfl)))) (pw_and1 (pt_cmpR op_gt (pv 1) (pe_ix (ix_listK (K := K) rfl) (pv 0) pe_int (fun _ _ => rfl)) (nomark _))))) (pss_cons (ps_ret pe_bl) pss_nil) pss_nil) (pss_cons (ps_ret (pe_cmpR (notIn_seqK (K := K) rfl) (pv 1) (pe_ix (ix_listK (K := K) rfl) (pv 0) pe_int (fun _ _ => rfl)) rfl)) pss_nil))), ?_⟩
    refine nx_go (frm_start (N := N_l_in_part) (n := 0) z sm hw (by rw [WLen.len hw]; rfl)) ?_
    show Nx _ _ [.imm (rOb (cHls (wC (rOpt rInt) (wC (rOpt rInt) (w1 (rOb (cLst rInt))))))) part0, .imm rInt number0]
    unfold m_l_in_part at h
    obtain ⟨c3, hc3, h⟩ := letO_some h
    obtain ⟨b2, hb2, h⟩ := bindO_some h
    obtain ⟨c4, hc4, h⟩ := letO_some h
    refine (sq_if (et_to (et_and (et_to (et_B (ev_notN (ev_ixR (k := 0) (ev_var rfl) (acc0)))) hc3.symm) (fun hc => by have hx := iteO_t hc hb2; obtain ⟨g1, hg1, hx⟩ := bindO_some hx; exact et_to (et_T (ev_lt (ev_var rfl) (ev_get (ev_ixR (k := 0) (ev_var rfl) (acc0)) hg1))) (Option.some.inj hx)) (fun hc => ⟨(Option.some.inj (iteO_f hc hb2)).symm, rfl⟩)) hc4.symm) (fun hc => ?_) (fun hc => ?_))
    · have h := iteO_t hc h
      exact (sq_ret ev_bl h kr)
    · have h := iteO_f hc h
      refine nx_next ?_
      try dsimp only
      obtain ⟨c7, hc7, h⟩ := letO_some h
      obtain ⟨b6, hb6, h⟩ := bindO_some h
      obtain ⟨c8, hc8, h⟩ := letO_some h
      refine (sq_if (et_to (et_and (et_to (et_B (ev_notN (ev_ixR (k := 1) (ev_var rfl) (accS (acc0))))) hc7.symm) (fun hc => by have hx := iteO_t hc hb6; obtain ⟨g5, hg5, hx⟩ := bindO_some hx; exact et_to (et_T (ev_gt (ev_var rfl) (ev_get (ev_ixR (k := 1) (ev_var rfl) (accS (acc0))) hg5))) (Option.some.inj hx)) (fun hc => ⟨(Option.some.inj (iteO_f hc hb6)).symm, rfl⟩)) hc8.symm) (fun hc => ?_) (fun hc => ?_))
      · have h := iteO_t hc h
        exact (sq_ret ev_bl h kr)
      · have h := iteO_f hc h
        refine nx_next ?_
        try dsimp only
        exact (sq_ret (ev_ninL fl_int (ev_var rfl) (ev_ixR (k := 2) (ev_var rfl) (accS (accS (acc1))))) h kr)
theorem ok_l_window (T : Txt K mg a) : FnOk P w K mg base CX0 1 a.f_l_window a.d_l_window ["_law_base_here"] (SpC (w1 rInt) (cLst rInt) (fun x => m_l_window x)) := by
  refine T.F_l_window.ok sc_l_window (fun vs H Q E h => ?_) (fun cdv A outer s H vs Q E hr h => ?_)
  · obtain ⟨B, x, b, z, sm, hw, h, kr⟩ := h
    rw [WLen.len hw]; rfl
  · obtain ⟨B, base_here0, b, z, sm, hw, h, kr⟩ := h
    have h : m_l_window base_here0 = some b := h
    have kr : RtC (amb0 B H) (cLst rInt) b Q := kr
    refine ⟨_, (pss_cons (ps_ret (pe_lc (own := [("_law_number", 1)]) rfl sc_l_window.nd (pi_range3 rfl T.b_range (pa_cons (pe_op op_sub (pv 0) pe_int) (pa_cons (pe_op op_add (pv 0) pe_int) pa_nil))) (blkOk_by (N := N_l_window) (sc := defScope s_l_window) (by decide +kernel)) (fun _ _ _ _ _ => (pg_name (i := 1) sc_l_window.nd rfl (by first | exact Or.inl rfl | exact Or.inr rfl))) (fun _ _ _ _ _ => pts_nil) (fun _ _ _ _ _ => (pv 1)))) pss_nil), ?_⟩
    refine nx_go (frm_start (N := N_l_window) (n := 1) z sm hw (by rw [WLen.len hw]; rfl)) ?_
    show Nx _ _ [.imm rInt base_here0, .no]
    unfold m_l_window at h
    obtain ⟨l1, hl1, h⟩ := bindO_some h
    obtain ⟨l3, hl3, h⟩ := bindO_some h
    exact (sq_retC (ec_lc (m_l_window_c1) (it_rng3 (ew_C (ev_sub (ev_var rfl) ev_int) (ew_1 (ev_add (ev_var rfl) ev_int))) hl1) hl3 tg_name (fun k hk => hk) (by rfl) (fun _ => by rfl) (fun number2 o ho => by unfold m_l_window_c1 at ho; cases ho; exact ⟨et_yes, fun y hy => by cases hy; exact ev_to (ev_var rfl) rfl⟩)) h kr)
theorem ok_l_moved (T : Txt K mg a) : FnOk P w K mg base CX0 2 a.f_l_moved a.d_l_moved ["_law_state", "_law_part"] (SpS (cHls (wC (rOb (cLst rInt)) (wC rInt (wC rInt (w1 rInt))))) (w1 (rOb (cHls (wC (rOpt rInt) (wC (rOpt rInt) (w1 (rOb (cLst rInt)))))))) (rOb (cHls (wC (rOpt rInt) (wC (rOpt rInt) (w1 (rOb (cLst rInt))))))) (fun st x => m_l_moved st x)) := by
  refine T.F_l_moved.ok sc_l_moved (fun vs H Q E h => ?_) (fun cdv A outer s H vs Q E hr h => ?_)
  · obtain ⟨p, vs', B, o, st, x, b, rfl, z, sm, hB, hp, ko, hw, h, kr⟩ := h
    show vs'.length + 1 = _; rw [WLen.len hw]; rfl
  · obtain ⟨p, vs', B, o, st0, part0, b, rfl, z, sm, hB, hp, ko, hw, h, kr⟩ := h
    have h : m_l_moved st0 part0 = some b := h
    refine ⟨_, (pss_cons (ps_set (i := 2) sc_l_moved.nd rfl (by first | exact Or.inl rfl | exact Or.inr rfl) (pe_call (ok_l_draw T) (hr.mono (by decide)) rfl T.g_l_draw T.F_l_draw.kp T.n_l_draw .nil pass0 (pa_cons (pv 0) (pa_cons pe_int pa_nil)))) (pss_cons (ps_set (i := 3) sc_l_moved.nd rfl (by first | exact Or.inl rfl | exact Or.inr rfl) (pe_ix (ix_listK (K := K) rfl) (pe_lst (pa_cons (pe_un un_neg pe_int) (pa_cons pe_int pa_nil))) (pe_call (ok_l_draw T) (hr.mono (by decide)) rfl T.g_l_draw T.F_l_draw.kp T.n_l_draw .nil pass0 (pa_cons (pv 0) (pa_cons pe_int pa_nil))) (fun _ _ => rfl))) (pss_cons (ps_set (i := 4) sc_l_moved.nd rfl (by first | exact Or.inl rfl | exact Or.inr rfl) (pe_call (ok_l_draw T) (hr.mono (by decide)) rfl T.g_l_draw T.F_l_draw.kp T.n_l_draw .nil pass0 (pa_cons (pv 0) (pa_cons pe_int pa_nil)))) (pss_cons (ps_set (i := 5) sc_l_moved.nd rfl (by first | exact Or.inl rfl | exact Or.inr rfl) (pe_lst (pa_cons (pe_ix (ix_listK (K := K) rfl) (pv 1) pe_int (fun _ _ => rfl)) (pa_cons (pe_ix (ix_listK (K := K) rfl) (pv 1) pe_int (fun _ _ => rfl)) (pa_cons (pe_callTy (list_ofK (K := K) rfl) (by rfl) T.b_list (by decide +kernel) (pa_cons (pe_ix (ix_listK (K := K) rfl) (pv 1) pe_int (fun _ _ => rfl)) pa_nil)) pa_nil))))) (Evl.pss_cut (ps_if (PW.pt (pw_and (pt_cmpR op_lt (pv 2) pe_int (nomark _)) (pw_and1 (pt_cmp (pc_notN (pe_ix (ix_listK (K := K) rfl) (pv 5) (pv 2) (fun _ _ => rfl))))))) (pss_cons (ps_asg (pe_op op_add (pe_ix (ix_listK (K := K) rfl) (pv 5) (pv 2) (fun _ _ => rfl)) (pv 3)) (pg_sub (pv 5) (pv 2) set_list)) pss_nil) pss_nil) (Evl.pss_cut (ps_if (PW.pt (pw_or (pt_cmpR op_eq (pv 2) pe_int (nomark _)) (pw_or1 (pt_cmpR op_eq (pv 2) pe_int (nomark _))))) (pss_cons (ps_asg pe_non (pg_sub (pv 5) (pe_op op_sub (pv 2) pe_int) set_list)) pss_nil) pss_nil) (Evl.pss_cut (ps_if (PW.pt (pw_and (pt_cmpR op_eq (pv 2) pe_int (nomark _)) (pw_and1 (pt_cmpR op_gt (pe_callB (len_seqK (K := K) rfl) (by rfl) T.b_len (by decide +kernel) (pa_cons (pe_ix (ix_listK (K := K) rfl) (pv 5) pe_int (fun _ _ => rfl)) pa_nil)) pe_int (nomark _))))) (pss_cons (ps_expr (pe_bm PySem.F.plainAttrs_list PySem.F.slot_list_pop PySem.F.type_list_pop mt_popAt (pe_ix (ix_listK (K := K) rfl) (pv 5) pe_int (fun _ _ => rfl)) (pa_cons (pe_op op_mod (pv 4) (pe_callB (len_seqK (K := K) rfl) (by rfl) T.b_len (by decide +kernel) (pa_cons (pe_ix (ix_listK (K := K) rfl) (pv 5) pe_int (fun _ _ => rfl)) pa_nil))) pa_nil))) pss_nil) pss_nil) (pss_cons (ps_ret (pv 5)) pss_nil)))))))), ?_⟩
    refine nx_go (frm_startS (N := N_l_moved) (n := 4) z sm hB hp ko hw (by rw [WLen.len hw]; rfl)) ?_
    show Nx _ _ [.cel p (cHls (wC (rOb (cLst rInt)) (wC rInt (wC rInt (w1 rInt))))) st0, .imm (rOb (cHls (wC (rOpt rInt) (wC (rOpt rInt) (w1 (rOb (cLst rInt))))))) part0, .no, .no, .no, .no]
    unfold m_l_moved at h
    obtain ⟨p1, hp1, h⟩ := bindO_some h
    obtain ⟨kind2, hkind2, h⟩ := letO_some h
    refine (sq_asg (ev_to (ev_callS (ew_1 ev_int) rfl rfl hp1) hkind2.symm) ?_)
    show Nx _ _ [.cel p (cHls (wC (rOb (cLst rInt)) (wC rInt (wC rInt (w1 rInt))))) p1.2, .imm (rOb (cHls (wC (rOpt rInt) (wC (rOpt rInt) (w1 (rOb (cLst rInt))))))) part0, .imm rInt kind2, .no, .no, .no]
    obtain ⟨p3, hp3, h⟩ := bindO_some h
    obtain ⟨y4, hy4, h⟩ := bindO_some h
    obtain ⟨step5, hstep5, h⟩ := letO_some h
    refine (sq_asg (ev_to (ev_ixL (ev_new (ec_lst (eh_C (ev_neg ev_int) (eh_C ev_int eh_0)) (Nat.le_of_ble_eq_true rfl))) (ev_callS (ew_1 ev_int) rfl rfl hp3) hy4) hstep5.symm) ?_)
    show Nx _ _ [.cel p (cHls (wC (rOb (cLst rInt)) (wC rInt (wC rInt (w1 rInt))))) p3.2, .imm (rOb (cHls (wC (rOpt rInt) (wC (rOpt rInt) (w1 (rOb (cLst rInt))))))) part0, .imm rInt kind2, .imm rInt step5, .no, .no]
    obtain ⟨p6, hp6, h⟩ := bindO_some h
    obtain ⟨spot7, hspot7, h⟩ := letO_some h
    refine (sq_asg (ev_to (ev_callS (ew_1 ev_int) rfl rfl hp6) hspot7.symm) ?_)
    show Nx _ _ [.cel p (cHls (wC (rOb (cLst rInt)) (wC rInt (wC rInt (w1 rInt))))) p6.2, .imm (rOb (cHls (wC (rOpt rInt) (wC (rOpt rInt) (w1 (rOb (cLst rInt))))))) part0, .imm rInt kind2, .imm rInt step5, .imm rInt spot7, .no]
    obtain ⟨changed8, hchanged8, h⟩ := letO_some h
    refine (sq_asgN (w := (twC (tI (rOpt rInt)) (twC (tI (rOpt rInt)) (tw1 (tK (cLst rInt)))))) (en_to (en_I (ev_ixR (k := 0) (ev_var rfl) (acc0)) (en_I (ev_ixR (k := 1) (ev_var rfl) (accS (acc0))) (en_1K (ec_listL (ev_ixR (k := 2) (ev_var rfl) (accS (accS (acc1)))))))) hchanged8.symm) (fun a_changed8 => ?_))
    show Nx _ _ [.cel p (cHls (wC (rOb (cLst rInt)) (wC rInt (wC rInt (w1 rInt))))) p6.2, .imm (rOb (cHls (wC (rOpt rInt) (wC (rOpt rInt) (w1 (rOb (cLst rInt))))))) part0, .imm rInt kind2, .imm rInt step5, .imm rInt spot7, .tre (.ref a_changed8) (tH (twC (tI (rOpt rInt)) (twC (tI (rOpt rInt)) (tw1 (tK (cLst rInt)))))) changed8]
    obtain ⟨c11, hc11, h⟩ := letO_some h
    obtain ⟨b10, hb10, h⟩ := bindO_some h
    obtain ⟨c12, hc12, h⟩ := letO_some h
    obtain ⟨j13, hj13, h2⟩ := bindO_some h
    have h := hj13
    refine nx_cut [.cel p (cHls (wC (rOb (cLst rInt)) (wC rInt (wC rInt (w1 rInt))))) p6.2, .imm (rOb (cHls (wC (rOpt rInt) (wC (rOpt rInt) (w1 (rOb (cLst rInt))))))) part0, .imm rInt kind2, .imm rInt step5, .imm rInt spot7, .tre (.ref a_changed8) (tH (twC (tI (rOpt rInt)) (twC (tI (rOpt rInt)) (tw1 (tK (cLst rInt)))))) j13] (nx_if (et_to (et_and (et_to (et_T (ev_lt (ev_var rfl) ev_int)) hc11.symm) (fun hc => by have hx := iteO_t hc hb10; obtain ⟨y9, hy9, hx⟩ := bindO_some hx; exact et_to (et_B (ev_notN (ev_K (ek_pick rfl (accT0) (accTS (accT0)) (ek_var rfl) hy9)))) (Option.some.inj hx)) (fun hc => ⟨(Option.some.inj (iteO_f hc hb10)).symm, rfl⟩)) hc12.symm) (fun hc => ?_) (fun hc => ?_)) ?_
    · clear h2 hj13
      have h := iteO_t hc h
      obtain ⟨y14, hy14, h⟩ := bindO_some h
      obtain ⟨g15, hg15, h⟩ := bindO_some h
      obtain ⟨z16, hz16, h⟩ := bindO_some h
      refine (sq_put2 (ev_some nn_int (ev_add (ev_get (ev_K (ek_pick rfl (accT0) (accTS (accT0)) (ek_var rfl) hy14)) hg15) (ev_var rfl))) rfl (accT0) (accTS (accT0)) (ek_var rfl) hz16 ?_)
      show Nx _ _ [.cel p (cHls (wC (rOb (cLst rInt)) (wC rInt (wC rInt (w1 rInt))))) p6.2, .imm (rOb (cHls (wC (rOpt rInt) (wC (rOpt rInt) (w1 (rOb (cLst rInt))))))) part0, .imm rInt kind2, .imm rInt step5, .imm rInt spot7, .tre (.ref a_changed8) (tH (twC (tI (rOpt rInt)) (twC (tI (rOpt rInt)) (tw1 (tK (cLst rInt)))))) z16]
      obtain rfl := Option.some.inj h
      exact nx_fin
    · clear h2 hj13
      have h := iteO_f hc h
      obtain rfl := Option.some.inj h
      exact nx_fin
    · clear h
      have h := h2
      obtain ⟨c17, hc17, h⟩ := letO_some h
      obtain ⟨j18, hj18, h2⟩ := bindO_some h
      have h := hj18
      refine nx_cut [.cel p (cHls (wC (rOb (cLst rInt)) (wC rInt (wC rInt (w1 rInt))))) p6.2, .imm (rOb (cHls (wC (rOpt rInt) (wC (rOpt rInt) (w1 (rOb (cLst rInt))))))) part0, .imm rInt kind2, .imm rInt step5, .imm rInt spot7, .tre (.ref a_changed8) (tH (twC (tI (rOpt rInt)) (twC (tI (rOpt rInt)) (tw1 (tK (cLst rInt)))))) j18] (nx_if (et_to (et_or0 (et_T (ev_eqS scInt (ev_var rfl) ev_int rfl)) (et_T (ev_eqS scInt (ev_var rfl) ev_int rfl))) hc17.symm) (fun hc => ?_) (fun hc => ?_)) ?_
      · clear h2 hj18
        have h := iteO_t hc h
        obtain ⟨z19, hz19, h⟩ := bindO_some h
        refine (sq_put2 (ev_none (r := rInt)) rfl (accT0) (accTS (accT0)) (ek_I0 (g := fun i j => i - j) (ek_var rfl) ek_int) hz19 ?_)
        show Nx _ _ [.cel p (cHls (wC (rOb (cLst rInt)) (wC rInt (wC rInt (w1 rInt))))) p6.2, .imm (rOb (cHls (wC (rOpt rInt) (wC (rOpt rInt) (w1 (rOb (cLst rInt))))))) part0, .imm rInt kind2, .imm rInt step5, .imm rInt spot7, .tre (.ref a_changed8) (tH (twC (tI (rOpt rInt)) (twC (tI (rOpt rInt)) (tw1 (tK (cLst rInt)))))) z19]
        obtain rfl := Option.some.inj h
        exact nx_fin
      · clear h2 hj18
        have h := iteO_f hc h
        obtain rfl := Option.some.inj h
        exact nx_fin
      · clear h
        have h := h2
        obtain ⟨c20, hc20, h⟩ := letO_some h
        obtain ⟨j21, hj21, h2⟩ := bindO_some h
        have h := hj21
        refine nx_cut [.cel p (cHls (wC (rOb (cLst rInt)) (wC rInt (wC rInt (w1 rInt))))) p6.2, .imm (rOb (cHls (wC (rOpt rInt) (wC (rOpt rInt) (w1 (rOb (cLst rInt))))))) part0, .imm rInt kind2, .imm rInt step5, .imm rInt spot7, .tre (.ref a_changed8) (tH (twC (tI (rOpt rInt)) (twC (tI (rOpt rInt)) (tw1 (tK (cLst rInt)))))) j21] (nx_if (et_to (et_and0 (et_T (ev_eqS scInt (ev_var rfl) ev_int rfl)) (et_T (ev_gt (ev_K (ek_treL (k := 2) rfl (accTS (accTS (accT1))))) ev_int))) hc20.symm) (fun hc => ?_) (fun hc => ?_)) ?_
        · clear h2 hj21
          have h := iteO_t hc h
          obtain ⟨y22, hy22, h⟩ := bindO_some h
          obtain ⟨l23, hl23, h⟩ := bindO_some h
          obtain ⟨z24, hz24, h⟩ := letO_some h
          refine (sq_popTS' (k := 2) rfl (accTS (accTS (accT1))) (ek_mod (ek_var rfl) (ek_treL (k := 2) rfl (accTS (accTS (accT1)))) hy22) hl23 (nx_tre (i := 5) rfl hz24.symm ?_))
          show Nx _ _ [.cel p (cHls (wC (rOb (cLst rInt)) (wC rInt (wC rInt (w1 rInt))))) p6.2, .imm (rOb (cHls (wC (rOpt rInt) (wC (rOpt rInt) (w1 (rOb (cLst rInt))))))) part0, .imm rInt kind2, .imm rInt step5, .imm rInt spot7, .tre (.ref a_changed8) (tH (twC (tI (rOpt rInt)) (twC (tI (rOpt rInt)) (tw1 (tK (cLst rInt)))))) z24]
          obtain rfl := Option.some.inj h
          exact nx_fin
        · clear h2 hj21
          have h := iteO_f hc h
          obtain rfl := Option.some.inj h
          exact nx_fin
        · clear h
          have h := h2
          refine (nx_freezeTS (j := 0) 5 rfl rfl (by decide) (fun _ h => h) ?_)
          show Nx _ _ [.cel p (cHls (wC (rOb (cLst rInt)) (wC rInt (wC rInt (w1 rInt))))) p6.2, .imm (rOb (cHls (wC (rOpt rInt) (wC (rOpt rInt) (w1 (rOb (cLst rInt))))))) part0, .imm rInt kind2, .imm rInt step5, .imm rInt spot7, .imm (rOb (cHls (wC (rOpt rInt) (wC (rOpt rInt) (w1 (rOb (cLst rInt))))))) j21]
          exact (sq_retS (i := 0) (ev_var rfl) rfl h kr)
theorem ok_l_spelled (T : Txt K mg a) : FnOk P w K mg base CX0 2 a.f_l_spelled a.d_l_spelled ["_law_state", "_law_part", "_law_base_here"] (SpS (cHls (wC (rOb (cLst rInt)) (wC rInt (wC rInt (w1 rInt))))) (wC (rOb (cHls (wC (rOpt rInt) (wC (rOpt rInt) (w1 (rOb (cLst rInt))))))) (w1 rInt)) (rOb (cHls (wC (rOpt rInt) (wC (rOpt rInt) (w1 (rOb (cLst rInt))))))) (fun st x => m_l_spelled st x.1 x.2)) := by
  refine T.F_l_spelled.ok sc_l_spelled (fun vs H Q E h => ?_) (fun cdv A outer s H vs Q E hr h => ?_)
  · obtain ⟨p, vs', B, o, st, x, b, rfl, z, sm, hB, hp, ko, hw, h, kr⟩ := h
    show vs'.length + 1 = _; rw [WLen.len hw]; rfl
  · obtain ⟨p, vs', B, o, st0, ⟨part0, base_here0⟩, b, rfl, z, sm, hB, hp, ko, hw, h, kr⟩ := h
    have h : m_l_spelled st0 part0 base_here0 = some b := h
    refine ⟨_, (pss_cons (ps_set (i := 3) sc_l_spelled.nd rfl (by first | exact Or.inl rfl | exact Or.inr rfl) (pe_callTy (list_ofK (K := K) rfl) (by rfl) T.b_list (by decide +kernel) (pa_cons (pe_ix (ix_listK (K := K) rfl) (pv 1) pe_int (fun _ _ => rfl)) pa_nil))) (pss_cons (ps_expr (pe_bm0 PySem.F.plainAttrs_list PySem.F.slot_list_reverse PySem.F.type_list_reverse mt_reverse (pv 3))) (pss_cons (ps_set (i := 3) sc_l_spelled.nd rfl (by first | exact Or.inl rfl | exact Or.inr rfl) (pe_op op_cat (pv 3) (pe_callTy (list_ofK (K := K) rfl) (by rfl) T.b_list (by decide +kernel) (pa_cons (pe_ix (ix_listK (K := K) rfl) (pv 1) pe_int (fun _ _ => rfl)) pa_nil)))) (Evl.pss_cut (ps_if (pt_cmp (pc_notN (pe_ix (ix_listK (K := K) rfl) (pv 1) pe_int (fun _ _ => rfl)))) (pss_cons (ps_expr (pe_bm PySem.F.plainAttrs_list PySem.F.slot_list_append PySem.F.type_list_append mt_append (pv 3) (pa_cons (pe_op op_sub (pe_op op_sub (pe_ix (ix_listK (K := K) rfl) (pv 1) pe_int (fun _ _ => rfl)) pe_int) (pe_call (ok_l_draw T) (hr.mono (by decide)) rfl T.g_l_draw T.F_l_draw.kp T.n_l_draw .nil pass0 (pa_cons (pv 0) (pa_cons pe_int pa_nil)))) pa_nil))) pss_nil) pss_nil) (Evl.pss_cut (ps_if (pt_cmp (pc_notN (pe_ix (ix_listK (K := K) rfl) (pv 1) pe_int (fun _ _ => rfl)))) (pss_cons (ps_expr (pe_bm PySem.F.plainAttrs_list PySem.F.slot_list_append PySem.F.type_list_append mt_append (pv 3) (pa_cons (pe_op op_add (pe_op op_add (pe_ix (ix_listK (K := K) rfl) (pv 1) pe_int (fun _ _ => rfl)) pe_int) (pe_call (ok_l_draw T) (hr.mono (by decide)) rfl T.g_l_draw T.F_l_draw.kp T.n_l_draw .nil pass0 (pa_cons (pv 0) (pa_cons pe_int pa_nil)))) pa_nil))) pss_nil) pss_nil) (pss_cons (ps_ret (pe_lst (pa_cons (pe_ix (ix_listK (K := K) rfl) (pv 1) pe_int (fun _ _ => rfl)) (pa_cons (pe_ix (ix_listK (K := K) rfl) (pv 1) pe_int (fun _ _ => rfl)) (pa_cons (pv 3) pa_nil))))) pss_nil)))))), ?_⟩
    refine nx_go (frm_startS (N := N_l_spelled) (n := 1) z sm hB hp ko hw (by rw [WLen.len hw]; rfl)) ?_
    show Nx _ _ [.cel p (cHls (wC (rOb (cLst rInt)) (wC rInt (wC rInt (w1 rInt))))) st0, .imm (rOb (cHls (wC (rOpt rInt) (wC (rOpt rInt) (w1 (rOb (cLst rInt))))))) part0, .imm rInt base_here0, .no]
    unfold m_l_spelled at h
    obtain ⟨holes1, hholes1, h⟩ := letO_some h
    refine (sq_asgC (c := (cLst rInt)) (ec_to (ec_listL (ev_ixR (k := 2) (ev_var rfl) (accS (accS (acc1))))) hholes1.symm) (fun a_holes1 na_holes1 => ?_))
    show Nx _ _ [.cel p (cHls (wC (rOb (cLst rInt)) (wC rInt (wC rInt (w1 rInt))))) st0, .imm (rOb (cHls (wC (rOpt rInt) (wC (rOpt rInt) (w1 (rOb (cLst rInt))))))) part0, .imm rInt base_here0, .cel a_holes1 (cLst rInt) holes1]
    obtain ⟨holes2, hholes2, h⟩ := letO_some h
    refine (sq_rev rfl (nx_cel (i := 3) rfl hholes2.symm ?_))
    show Nx _ _ [.cel p (cHls (wC (rOb (cLst rInt)) (wC rInt (wC rInt (w1 rInt))))) st0, .imm (rOb (cHls (wC (rOpt rInt) (wC (rOpt rInt) (w1 (rOb (cLst rInt))))))) part0, .imm rInt base_here0, .cel a_holes1 (cLst rInt) holes2]
    obtain ⟨l3, hl3, h⟩ := bindO_some h
    obtain ⟨holes4, hholes4, h⟩ := letO_some h
    refine (sq_asgC (c := (cLst rInt)) (ec_to (ec_frz (i := 3) rfl (ec_cat (ev_var rfl) (ev_new (ec_listL (ev_ixR (k := 2) (ev_var rfl) (accS (accS (acc1)))))) hl3)) hholes4.symm) (fun a_holes4 na_holes4 => ?_))
    show Nx _ _ [.cel p (cHls (wC (rOb (cLst rInt)) (wC rInt (wC rInt (w1 rInt))))) st0, .imm (rOb (cHls (wC (rOpt rInt) (wC (rOpt rInt) (w1 (rOb (cLst rInt))))))) part0, .imm rInt base_here0, .cel a_holes4 (cLst rInt) holes4]
    obtain ⟨c5, hc5, h⟩ := letO_some h
    obtain ⟨j6, hj6, h2⟩ := bindO_some h
    have h := hj6
    refine nx_cut [.cel p (cHls (wC (rOb (cLst rInt)) (wC rInt (wC rInt (w1 rInt))))) j6.2, .imm (rOb (cHls (wC (rOpt rInt) (wC (rOpt rInt) (w1 (rOb (cLst rInt))))))) part0, .imm rInt base_here0, .cel a_holes4 (cLst rInt) j6.1] (nx_if (et_to (et_B (ev_notN (ev_ixR (k := 0) (ev_var rfl) (acc0)))) hc5.symm) (fun hc => ?_) (fun hc => ?_)) ?_
    · clear h2 hj6
      have h := iteO_t hc h
      obtain ⟨g7, hg7, h⟩ := bindO_some h
      obtain ⟨p8, hp8, h⟩ := bindO_some h
      obtain ⟨holes9, hholes9, h⟩ := bindO_some h
      refine (sq_app (ev_sub (ev_sub (ev_get (ev_ixR (k := 0) (ev_var rfl) (acc0)) hg7) ev_int) (ev_callS (ew_1 ev_int) rfl rfl hp8)) rfl rfl hholes9 ?_)
      show Nx _ _ [.cel p (cHls (wC (rOb (cLst rInt)) (wC rInt (wC rInt (w1 rInt))))) p8.2, .imm (rOb (cHls (wC (rOpt rInt) (wC (rOpt rInt) (w1 (rOb (cLst rInt))))))) part0, .imm rInt base_here0, .cel a_holes4 (cLst rInt) holes9]
      obtain rfl := Option.some.inj h
      exact nx_fin
    · clear h2 hj6
      have h := iteO_f hc h
      obtain rfl := Option.some.inj h
      exact nx_fin
    · clear h
      have h := h2
      obtain ⟨c10, hc10, h⟩ := letO_some h
      obtain ⟨j11, hj11, h2⟩ := bindO_some h
      have h := hj11
      refine nx_cut [.cel p (cHls (wC (rOb (cLst rInt)) (wC rInt (wC rInt (w1 rInt))))) j11.2, .imm (rOb (cHls (wC (rOpt rInt) (wC (rOpt rInt) (w1 (rOb (cLst rInt))))))) part0, .imm rInt base_here0, .cel a_holes4 (cLst rInt) j11.1] (nx_if (et_to (et_B (ev_notN (ev_ixR (k := 1) (ev_var rfl) (accS (acc0))))) hc10.symm) (fun hc => ?_) (fun hc => ?_)) ?_
      · clear h2 hj11
        have h := iteO_t hc h
        obtain ⟨g12, hg12, h⟩ := bindO_some h
        obtain ⟨p13, hp13, h⟩ := bindO_some h
        obtain ⟨holes14, hholes14, h⟩ := bindO_some h
        refine (sq_app (ev_add (ev_add (ev_get (ev_ixR (k := 1) (ev_var rfl) (accS (acc0))) hg12) ev_int) (ev_callS (ew_1 ev_int) rfl rfl hp13)) rfl rfl hholes14 ?_)
        show Nx _ _ [.cel p (cHls (wC (rOb (cLst rInt)) (wC rInt (wC rInt (w1 rInt))))) p13.2, .imm (rOb (cHls (wC (rOpt rInt) (wC (rOpt rInt) (w1 (rOb (cLst rInt))))))) part0, .imm rInt base_here0, .cel a_holes4 (cLst rInt) holes14]
        obtain rfl := Option.some.inj h
        exact nx_fin
      · clear h2 hj11
        have h := iteO_f hc h
        obtain rfl := Option.some.inj h
        exact nx_fin
      · clear h
        have h := h2
        refine (nx_freezeCS (j := 0) 3 rfl rfl (by decide) (fun _ h => h) ?_)
        show Nx _ _ [.cel p (cHls (wC (rOb (cLst rInt)) (wC rInt (wC rInt (w1 rInt))))) j11.2, .imm (rOb (cHls (wC (rOpt rInt) (wC (rOpt rInt) (w1 (rOb (cLst rInt))))))) part0, .imm rInt base_here0, .imm (rOb (cLst rInt)) j11.1]
        exact (sq_retS (i := 0) (ev_new (ec_hls (ew_C (ev_ixR (k := 0) (ev_var rfl) (acc0)) (ew_C (ev_ixR (k := 1) (ev_var rfl) (accS (acc0))) (ew_1 (ev_var rfl)))))) rfl h kr)
theorem ok_l_second (T : Txt K mg a) : FnOk P w K mg base CX0 4 a.f_l_second a.d_l_second ["_law_state", "_law_part", "_law_base_here"] (SpS (cHls (wC (rOb (cLst rInt)) (wC rInt (wC rInt (w1 rInt))))) (wC (rOb (cHls (wC (rOpt rInt) (wC (rOpt rInt) (w1 (rOb (cLst rInt))))))) (w1 rInt)) (rOb (cHls (wC (rOpt rInt) (wC (rOpt rInt) (w1 (rOb (cLst rInt))))))) (fun st x => m_l_second st x.1 x.2)) := by
  refine T.F_l_second.ok sc_l_second (fun vs H Q E h => ?_) (fun cdv A outer s H vs Q E hr h => ?_)
  · obtain ⟨p, vs', B, o, st, x, b, rfl, z, sm, hB, hp, ko, hw, h, kr⟩ := h
    show vs'.length + 1 = _; rw [WLen.len hw]; rfl
  · obtain ⟨p, vs', B, o, st0, ⟨part0, base_here0⟩, b, rfl, z, sm, hB, hp, ko, hw, h, kr⟩ := h
    have h : m_l_second st0 part0 base_here0 = some b := h
    refine ⟨_, (pss_cons (ps_set (i := 3) sc_l_second.nd rfl (by first | exact Or.inl rfl | exact Or.inr rfl) (pe_call (ok_l_draw T) (hr.mono (by decide)) rfl T.g_l_draw T.F_l_draw.kp T.n_l_draw .nil pass0 (pa_cons (pv 0) (pa_cons pe_int pa_nil)))) (pss_cons (ps_if (pt_cmpR op_lt (pv 3) pe_int (nomark _)) (pss_cons (ps_ret (pe_call (ok_l_parts T) (hr.mono (by decide)) rfl T.g_l_parts T.F_l_parts.kp T.n_l_parts .nil pass0 (pa_cons (pv 0) (pa_cons (pv 2) pa_nil)))) pss_nil) pss_nil) (pss_cons (ps_if (pt_cmpR op_eq (pv 3) pe_int (nomark _)) (pss_cons (ps_ret (pe_call (ok_l_spelled T) (hr.mono (by decide)) rfl T.g_l_spelled T.F_l_spelled.kp T.n_l_spelled .nil pass0 (pa_cons (pv 0) (pa_cons (pv 1) (pa_cons (pv 2) pa_nil))))) pss_nil) pss_nil) (pss_cons (ps_if (pt_cmpR op_eq (pv 3) pe_int (nomark _)) (pss_cons (ps_ret (pe_lst (pa_cons (pe_ix (ix_listK (K := K) rfl) (pv 1) pe_int (fun _ _ => rfl)) (pa_cons (pe_ix (ix_listK (K := K) rfl) (pv 1) pe_int (fun _ _ => rfl)) (pa_cons (pe_op op_cat (pe_callTy (list_ofK (K := K) rfl) (by rfl) T.b_list (by decide +kernel) (pa_cons (pe_ix (ix_listK (K := K) rfl) (pv 1) pe_int (fun _ _ => rfl)) pa_nil)) (pe_lst (pa_cons (pe_op op_sub (pe_op op_add (pv 2) (pe_call (ok_l_draw T) (hr.mono (by decide)) rfl T.g_l_draw T.F_l_draw.kp T.n_l_draw .nil pass0 (pa_cons (pv 0) (pa_cons pe_int pa_nil)))) pe_int) pa_nil))) pa_nil))))) pss_nil) pss_nil) (pss_cons (ps_ret (pe_call (ok_l_moved T) (hr.mono (by decide)) rfl T.g_l_moved T.F_l_moved.kp T.n_l_moved .nil pass0 (pa_cons (pv 0) (pa_cons (pv 1) pa_nil)))) pss_nil))))), ?_⟩
    refine nx_go (frm_startS (N := N_l_second) (n := 1) z sm hB hp ko hw (by rw [WLen.len hw]; rfl)) ?_
    show Nx _ _ [.cel p (cHls (wC (rOb (cLst rInt)) (wC rInt (wC rInt (w1 rInt))))) st0, .imm (rOb (cHls (wC (rOpt rInt) (wC (rOpt rInt) (w1 (rOb (cLst rInt))))))) part0, .imm rInt base_here0, .no]
    unfold m_l_second at h
    obtain ⟨p1, hp1, h⟩ := bindO_some h
    obtain ⟨kind2, hkind2, h⟩ := letO_some h
    refine (sq_asg (ev_to (ev_callS (ew_1 ev_int) rfl rfl hp1) hkind2.symm) ?_)
    show Nx _ _ [.cel p (cHls (wC (rOb (cLst rInt)) (wC rInt (wC rInt (w1 rInt))))) p1.2, .imm (rOb (cHls (wC (rOpt rInt) (wC (rOpt rInt) (w1 (rOb (cLst rInt))))))) part0, .imm rInt base_here0, .imm rInt kind2]
    obtain ⟨c3, hc3, h⟩ := letO_some h
    refine (sq_if (et_to (et_T (ev_lt (ev_var rfl) ev_int)) hc3.symm) (fun hc => ?_) (fun hc => ?_))
    · have h := iteO_t hc h
      obtain ⟨p4, hp4, h⟩ := bindO_some h
      exact (sq_retS (i := 0) (ev_callS (ew_1 (ev_var rfl)) rfl rfl hp4) rfl h kr)
    · have h := iteO_f hc h
      refine nx_next ?_
      try dsimp only
      obtain ⟨c5, hc5, h⟩ := letO_some h
      refine (sq_if (et_to (et_T (ev_eqS scInt (ev_var rfl) ev_int rfl)) hc5.symm) (fun hc => ?_) (fun hc => ?_))
      · have h := iteO_t hc h
        obtain ⟨p6, hp6, h⟩ := bindO_some h
        exact (sq_retS (i := 0) (ev_callS (ew_C (ev_var rfl) (ew_1 (ev_var rfl))) rfl rfl hp6) rfl h kr)
      · have h := iteO_f hc h
        refine nx_next ?_
        try dsimp only
        obtain ⟨c7, hc7, h⟩ := letO_some h
        refine (sq_if (et_to (et_T (ev_eqS scInt (ev_var rfl) ev_int rfl)) hc7.symm) (fun hc => ?_) (fun hc => ?_))
        · have h := iteO_t hc h
          obtain ⟨p8, hp8, h⟩ := bindO_some h
          obtain ⟨l9, hl9, h⟩ := bindO_some h
          exact (sq_retS (i := 0) (ev_new (ec_hls (ew_C (ev_ixR (k := 0) (ev_var rfl) (acc0)) (ew_C (ev_ixR (k := 1) (ev_var rfl) (accS (acc0))) (ew_1 (ev_new (ec_cat (ev_new (ec_listL (ev_ixR (k := 2) (ev_var rfl) (accS (accS (acc1)))))) (ev_new (ec_lst (eh_C (ev_sub (ev_add (ev_var rfl) (ev_callS (ew_1 ev_int) rfl rfl hp8)) ev_int) eh_0) (Nat.le_of_ble_eq_true rfl))) hl9))))))) rfl h kr)
        · have h := iteO_f hc h
          refine nx_next ?_
          try dsimp only
          obtain ⟨p10, hp10, h⟩ := bindO_some h
          exact (sq_retS (i := 0) (ev_callS (ew_1 (ev_var rfl)) rfl rfl hp10) rfl h kr)
theorem ok_l_within (T : Txt K mg a) : FnOk P w K mg base CX0 2 a.f_l_within a.d_l_within ["_law_one", "_law_two", "_law_base_here"] (SpP (wC (rOb (cHls (wC (rOpt rInt) (wC (rOpt rInt) (w1 (rOb (cLst rInt))))))) (wC (rOb (cHls (wC (rOpt rInt) (wC (rOpt rInt) (w1 (rOb (cLst rInt))))))) (w1 rInt))) rBool (fun x => m_l_within x.1 x.2.1 x.2.2)) := by
  refine T.F_l_within.ok sc_l_within (fun vs H Q E h => ?_) (fun cdv A outer s H vs Q E hr h => ?_)
  · obtain ⟨B, x, b, z, sm, hw, h, kr⟩ := h
    rw [WLen.len hw]; rfl
  · obtain ⟨B, ⟨one0, two0, base_here0⟩, b, z, sm, hw, h, kr⟩ := h
    have h : m_l_within one0 two0 base_here0 = some b := h
    refine ⟨_, (pss_cons (ps_ret (pe_cmpR (eqDK (K := K) rfl hr.units) (pe_lc (own := [("_law_n", 3)]) rfl sc_l_within.nd (pi_list (pe_call (ok_l_window T) (hr.mono (by decide)) rfl T.g_l_window T.F_l_window.kp T.n_l_window .nil pass0 (pa_cons (pv 2) pa_nil))) (blkOk_by (N := N_l_within) (sc := defScope s_l_within) (by decide +kernel)) (fun _ _ _ _ _ => (pg_name (i := 3) sc_l_within.nd rfl (by first | exact Or.inl rfl | exact Or.inr rfl))) (fun _ _ _ _ _ => (pts_one (PW.pt (pw_and (pt_val (pe_call (ok_l_in_part T) (hr.mono (by decide)) rfl T.g_l_in_part T.F_l_in_part.kp T.n_l_in_part .nil pass0 (pa_cons (pv 0) (pa_cons (pv 3) pa_nil)))) (pw_and1 (pt_not (pt_val (pe_call (ok_l_in_part T) (hr.mono (by decide)) rfl T.g_l_in_part T.F_l_in_part.kp T.n_l_in_part .nil pass0 (pa_cons (pv 1) (pa_cons (pv 3) pa_nil)))))))))) (fun _ _ _ _ _ => (pv 3))) (pe_lst pa_nil) (nomark _))) pss_nil), ?_⟩
    refine nx_go (frm_start (N := N_l_within) (n := 1) z sm hw (by rw [WLen.len hw]; rfl)) ?_
    show Nx _ _ [.imm (rOb (cHls (wC (rOpt rInt) (wC (rOpt rInt) (w1 (rOb (cLst rInt))))))) one0, .imm (rOb (cHls (wC (rOpt rInt) (wC (rOpt rInt) (w1 (rOb (cLst rInt))))))) two0, .imm rInt base_here0, .no]
    unfold m_l_within at h
    obtain ⟨v1, hv1, h⟩ := bindO_some h
    obtain ⟨l8, hl8, h⟩ := bindO_some h
    obtain ⟨q9, hq9, h⟩ := bindO_some h
    exact (sq_ret (ev_eqD (da_lst da_int) (da_hls daw_0) (ev_new (ec_lc (m_l_within_c1 one0 two0) (it_list (ev_new (ec_call (ew_1 (ev_var rfl)) hv1))) hl8 tg_name (fun k hk => hk) (by rfl) (fun _ => by rfl) (fun n2 o ho => by unfold m_l_within_c1 at ho; obtain ⟨v3, hv3, ho⟩ := bindO_some ho; obtain ⟨c6, hc6, ho⟩ := letO_some ho; obtain ⟨b5, hb5, ho⟩ := bindO_some ho; obtain ⟨c7, hc7, ho⟩ := letO_some ho; cases c7 with | true => (have ho : (some (some n2)) = some o := ho; cases ho; exact ⟨et_to (et_and (et_to (et_B (ev_call (ew_C (ev_var rfl) (ew_1 (ev_var rfl))) hv3)) hc6.symm) (fun hc => by have hx := iteO_t hc hb5; obtain ⟨v4, hv4, hx⟩ := bindO_some hx; exact et_to (et_not (et_B (ev_call (ew_C (ev_var rfl) (ew_1 (ev_var rfl))) hv4))) (Option.some.inj hx)) (fun hc => ⟨(Option.some.inj (iteO_f hc hb5)).symm, rfl⟩)) hc7.symm, fun y hy => by cases hy; exact ev_to (ev_var rfl) rfl⟩) | false => (have ho : some none = some o := ho; cases ho; exact ⟨et_to (et_and (et_to (et_B (ev_call (ew_C (ev_var rfl) (ew_1 (ev_var rfl))) hv3)) hc6.symm) (fun hc => by have hx := iteO_t hc hb5; obtain ⟨v4, hv4, hx⟩ := bindO_some hx; exact et_to (et_not (et_B (ev_call (ew_C (ev_var rfl) (ew_1 (ev_var rfl))) hv4))) (Option.some.inj hx)) (fun hc => ⟨(Option.some.inj (iteO_f hc hb5)).symm, rfl⟩)) hc7.symm, fun y hy => by cases hy⟩)))) (ev_new (ec_hls ew_0)) hq9) h kr)
theorem ok_l_told (T : Txt K mg a) : FnOk P w K mg base CX0 1 a.f_l_told a.d_l_told ["_law_actual", "_law_expected"] (SpP (wC rBool (w1 rBool)) rBool (fun x => m_l_told x.1 x.2)) := by
  refine T.F_l_told.ok sc_l_told (fun vs H Q E h => ?_) (fun cdv A outer s H vs Q E hr h => ?_)
  · obtain ⟨B, x, b, z, sm, hw, h, kr⟩ := h
    rw [WLen.len hw]; rfl
  · obtain ⟨B, ⟨actual0, expected0⟩, b, z, sm, hw, h, kr⟩ := h
    have h : m_l_told actual0 expected0 = some b := h
    refine ⟨_, (pss_cons (ps_ret (pe_and (pe_callB (isiK (K := K) rfl) (by rfl) T.b_isinstance (by decide +kernel) (pa_cons (pv 0) (pa_cons (pe_bltn (v := .ty "bool") (by rfl) T.b_bool boot_bool rfl) pa_nil))) (pe_one (pe_cmpR op_eq (pv 0) (pv 1) (nomark _))))) pss_nil), ?_⟩
    refine nx_go (frm_start (N := N_l_told) (n := 0) z sm hw (by rw [WLen.len hw]; rfl)) ?_
    show Nx _ _ [.imm rBool actual0, .imm rBool expected0]
    unfold m_l_told at h
    exact (sq_ret (ev_and0 (ev_isi (ev_var rfl) ty_bool (.ty _) (kit_ty (by decide +kernel))) (ev_eqS scBool (ev_var rfl) (ev_var rfl) rfl)) h kr)
theorem ok_law (T : Txt K mg a) : FnOk P w K mg base CX0 7 a.f_law a.d_law ["_law_script"] (SpL (w1 (rScr K)) rBool (fun x => m_law x)) := by
  refine T.F_law.ok sc_law (fun vs H Q E h => ?_) (fun cdv A outer s H vs Q E hr h => ?_)
  · obtain ⟨B, x, b, sm, hw, h, kr⟩ := h
    rw [WLen.len hw]; rfl
  · obtain ⟨B, script0, b, sm, hw, h, kr⟩ := h
    have h : m_law script0 = some b := h
    refine ⟨_, pss_sz (pss_cons (ps_set (i := 1) sc_law.nd rfl (by first | exact Or.inl rfl | exact Or.inr rfl) (pe_call (ok_l_start T) (hr.mono (by decide)) rfl T.g_l_start T.F_l_start.kp T.n_l_start .nil pass0 (pa_cons (pv 0) pa_nil))) (pss_cons (ps_set (i := 2) sc_law.nd rfl (by first | exact Or.inl rfl | exact Or.inr rfl) (pe_call (ok_l_base T) (hr.mono (by decide)) rfl T.g_l_base T.F_l_base.kp T.n_l_base .nil pass0 (pa_cons (pv 1) pa_nil))) (pss_cons (ps_set (i := 3) sc_law.nd rfl (by first | exact Or.inl rfl | exact Or.inr rfl) (pe_call (ok_l_parts T) (hr.mono (by decide)) rfl T.g_l_parts T.F_l_parts.kp T.n_l_parts .nil pass0 (pa_cons (pv 1) (pa_cons (pv 2) pa_nil)))) (pss_cons (ps_set (i := 4) sc_law.nd rfl (by first | exact Or.inl rfl | exact Or.inr rfl) (pe_call (ok_l_second T) (hr.mono (by decide)) rfl T.g_l_second T.F_l_second.kp T.n_l_second .nil pass0 (pa_cons (pv 1) (pa_cons (pv 3) (pa_cons (pv 2) pa_nil))))) (pss_cons (ps_set (i := 5) sc_law.nd rfl (by first | exact Or.inl rfl | exact Or.inr rfl) (pe_make T.M_Region (ok_Region___init T) (hr.mono (by decide)) rfl T.g_Region T.n_Region___init_3 T.v_Region___init_3 pass0 (pa_cons (pe_ix (ix_listK (K := K) rfl) (pv 3) pe_int (fun _ _ => rfl)) (pa_cons (pe_ix (ix_listK (K := K) rfl) (pv 3) pe_int (fun _ _ => rfl)) (pa_cons (pe_callTy (list_ofK (K := K) rfl) (by rfl) T.b_list (by decide +kernel) (pa_cons (pe_ix (ix_listK (K := K) rfl) (pv 3) pe_int (fun _ _ => rfl)) pa_nil)) pa_nil))))) (pss_cons (ps_set (i := 6) sc_law.nd rfl (by first | exact Or.inl rfl | exact Or.inr rfl) (pe_make T.M_Region (ok_Region___init___Vk T) (hr.mono (by decide)) rfl T.g_Region T.n_Region___init_3 T.v_Region___init_3 pass0 (pa_cons (pe_ix (ix_listK (K := K) rfl) (pv 4) pe_int (fun _ _ => rfl)) (pa_cons (pe_ix (ix_listK (K := K) rfl) (pv 4) pe_int (fun _ _ => rfl)) (pa_cons (pe_callTy (tuple_ofK (K := K) rfl) (by rfl) T.b_tuple (by decide +kernel) (pa_cons (pe_ix (ix_listK (K := K) rfl) (pv 4) pe_int (fun _ _ => rfl)) pa_nil)) pa_nil))))) (pss_cons (ps_set (i := 7) sc_law.nd rfl (by first | exact Or.inl rfl | exact Or.inr rfl) (pe_lst (pa_cons (pe_call (ok_l_within T) (hr.mono (by decide)) rfl T.g_l_within T.F_l_within.kp T.n_l_within .nil pass0 (pa_cons (pv 3) (pa_cons (pv 4) (pa_cons (pv 2) pa_nil)))) (pa_cons (pe_call (ok_l_within T) (hr.mono (by decide)) rfl T.g_l_within T.F_l_within.kp T.n_l_within .nil pass0 (pa_cons (pv 4) (pa_cons (pv 3) (pa_cons (pv 2) pa_nil)))) pa_nil)))) (pss_cons (ps_if (PW.pt (pw_or (pt_not (pt_val (pe_call (ok_l_told T) (hr.mono (by decide)) rfl T.g_l_told T.F_l_told.kp T.n_l_told .nil pass0 (pa_cons (pe_meth (pv 5) T.cl_Region T.me_Region_within (ok_Region_within T) (hr.mono (by decide)) T.n_Region_within .nil pass0 (pa_cons (pv 6) pa_nil)) (pa_cons (pe_ix (ix_listK (K := K) rfl) (pv 7) pe_int (fun _ _ => rfl)) pa_nil))))) (pw_or1 (pt_not (pt_val (pe_call (ok_l_told T) (hr.mono (by decide)) rfl T.g_l_told T.F_l_told.kp T.n_l_told .nil pass0 (pa_cons (pe_meth (pv 6) T.cl_Region T.me_Region_within (ok_Region_within T) (hr.mono (by decide)) T.n_Region_within .nil pass0 (pa_cons (pv 5) pa_nil)) (pa_cons (pe_ix (ix_listK (K := K) rfl) (pv 7) pe_int (fun _ _ => rfl)) pa_nil)))))))) (pss_cons (ps_ret pe_bl) pss_nil) pss_nil) (pss_cons (ps_if (PW.pt (pw_or (pt_not (pt_val (pe_meth (pv 5) T.cl_Region T.me_Region_within (ok_Region_within T) (hr.mono (by decide)) T.n_Region_within .nil pass0 (pa_cons (pv 5) pa_nil)))) (pw_or1 (pt_not (pt_val (pe_meth (pv 6) T.cl_Region T.me_Region_within (ok_Region_within T) (hr.mono (by decide)) T.n_Region_within .nil pass0 (pa_cons (pv 6) pa_nil))))))) (pss_cons (ps_ret pe_bl) pss_nil) pss_nil) (pss_cons (ps_set (i := 8) sc_law.nd rfl (by first | exact Or.inl rfl | exact Or.inr rfl) (pe_and (pe_ix (ix_listK (K := K) rfl) (pv 7) pe_int (fun _ _ => rfl)) (pe_one (pe_ix (ix_listK (K := K) rfl) (pv 7) pe_int (fun _ _ => rfl))))) (pss_cons (ps_if (PW.pt (pw_or (pt_cmpR op_ne (pe_cmpR (op_eqO (K := K) (t := (.ref a.C_Region)) rfl T.me_Region___eq (ok_Region___eq T) (hr.mono (by decide)) T.n_Region___eq pass0) (pv 5) (pv 6) (nomark _)) (pv 8) (nomark _)) (pw_or (pt_cmpR op_ne (pe_cmpR (op_eqO (K := K) (t := (.ref a.C_Region)) rfl T.me_Region___eq (ok_Region___eq T) (hr.mono (by decide)) T.n_Region___eq pass0) (pv 6) (pv 5) (nomark _)) (pv 8) (nomark _)) (pw_or1 (pt_cmpR op_eq (pe_cmpR (op_neO (K := K) (t := (.ref a.C_Region)) rfl T.nn_Region T.me_Region___eq (ok_Region___eq T) (hr.mono (by decide)) T.n_Region___eq pass0) (pv 5) (pv 6) (nomark _)) (pv 8) (nomark _)))))) (pss_cons (ps_ret pe_bl) pss_nil) pss_nil) (pss_cons (ps_if (PW.pt (pw_or (pt_not (pt_cmpR (op_eqO (K := K) (t := (.ref a.C_Region)) rfl T.me_Region___eq (ok_Region___eq T) (hr.mono (by decide)) T.n_Region___eq pass0) (pv 5) (pv 5) (nomark _))) (pw_or (pt_cmpR (op_eqO (K := K) (t := (.type "tuple")) rfl T.me_Region___eq (ok_Region___eq___Vt T) (hr.mono (by decide)) T.n_Region___eq pass0) (pv 5) (pe_tup (pa_cons (pe_ix (ix_listK (K := K) rfl) (pv 3) pe_int (fun _ _ => rfl)) (pa_cons (pe_ix (ix_listK (K := K) rfl) (pv 3) pe_int (fun _ _ => rfl)) pa_nil))) (nomark _)) (pw_or (pt_cmpR (op_eqO (K := K) (t := (.type "NoneType")) rfl T.me_Region___eq (ok_Region___eq___Vn T) (hr.mono (by decide)) T.n_Region___eq pass0) (pv 5) pe_non (nomark _)) (pw_or1 (pt_cmpR (op_eqO (K := K) (t := (.type "int")) rfl T.me_Region___eq (ok_Region___eq___Vi T) (hr.mono (by decide)) T.n_Region___eq pass0) (pv 6) (pv 2) (nomark _))))))) (pss_cons (ps_ret pe_bl) pss_nil) pss_nil) (pss_cons (ps_set (i := 9) sc_law.nd rfl (by first | exact Or.inl rfl | exact Or.inr rfl) (pe_make T.M_Region (ok_Region___init___Vk T) (hr.mono (by decide)) rfl T.g_Region T.n_Region___init_2 T.v_Region___init_2 pass0 (pa_cons (pv 2) (pa_cons (pe_op op_sub (pv 2) pe_int) pa_nil)))) (pss_cons (ps_if (PW.pt (pw_or (pt_not (pt_val (pe_meth (pv 9) T.cl_Region T.me_Region_within (ok_Region_within T) (hr.mono (by decide)) T.n_Region_within .nil pass0 (pa_cons (pv 5) pa_nil)))) (pw_or1 (pt_cmpR op_ne (pe_meth (pv 6) T.cl_Region T.me_Region_within (ok_Region_within T) (hr.mono (by decide)) T.n_Region_within .nil pass0 (pa_cons (pv 9) pa_nil)) (pe_not (pe_callTy (call_boolO T.me_Region___bool (ok_Region___bool T) (hr.mono (by decide)) T.n_Region___bool pass0) (by rfl) T.b_bool (by decide +kernel) (pa_cons (pv 6) pa_nil))) (nomark _))))) (pss_cons (ps_ret pe_bl) pss_nil) pss_nil) (pss_cons (ps_ret (pe_and (pe_meth (pv 5) T.cl_Region T.me_Region_within (ok_Region_within T) (hr.mono (by decide)) T.n_Region_within .nil pass0 (pa_cons (pe_make0 T.M_Region (ok_Region___init___Vk T) (hr.mono (by decide)) rfl T.g_Region T.n_Region___init_0 T.v_Region___init_0 pass0) pa_nil)) (pe_one (pe_cmpR op_eq (pe_meth (pe_make0 T.M_Region (ok_Region___init___Vk T) (hr.mono (by decide)) rfl T.g_Region T.n_Region___init_0 T.v_Region___init_0 pass0) T.cl_Region T.me_Region_within (ok_Region_within T) (hr.mono (by decide)) T.n_Region_within .nil pass0 (pa_cons (pv 6) pa_nil)) (pe_cmpR (op_eqO (K := K) (t := (.ref a.C_Region)) rfl T.me_Region___eq (ok_Region___eq T) (hr.mono (by decide)) T.n_Region___eq pass0) (pv 6) (pe_make0 T.M_Region (ok_Region___init___Vk T) (hr.mono (by decide)) rfl T.g_Region T.n_Region___init_0 T.v_Region___init_0 pass0) (nomark _)) (nomark _))))) pss_nil))))))))))))))), fun z => ?_⟩
    refine nx_go (frm_start (N := N_law) (n := 9) z sm hw (by rw [WLen.len hw]; rfl)) ?_
    show Nx _ _ [.imm (rScr K) script0, .no, .no, .no, .no, .no, .no, .no, .no, .no]
    unfold m_law at h
    obtain ⟨v1, hv1, h⟩ := bindO_some h
    obtain ⟨state2, hstate2, h⟩ := letO_some h
    refine (sq_asgC (c := (cHls (wC (rOb (cLst rInt)) (wC rInt (wC rInt (w1 rInt)))))) (ec_to (ec_call (ew_1 (ev_var rfl)) hv1) hstate2.symm) (fun a_state2 na_state2 => ?_))
    show Nx _ _ [.imm (rScr K) script0, .cel a_state2 (cHls (wC (rOb (cLst rInt)) (wC rInt (wC rInt (w1 rInt))))) state2, .no, .no, .no, .no, .no, .no, .no, .no]
    obtain ⟨p3, hp3, h⟩ := bindO_some h
    obtain ⟨base_here4, hbase_here4, h⟩ := letO_some h
    refine (sq_asg (ev_to (ev_callS ew_0 rfl rfl hp3) hbase_here4.symm) ?_)
    show Nx _ _ [.imm (rScr K) script0, .cel a_state2 (cHls (wC (rOb (cLst rInt)) (wC rInt (wC rInt (w1 rInt))))) p3.2, .imm rInt base_here4, .no, .no, .no, .no, .no, .no, .no]
    obtain ⟨p5, hp5, h⟩ := bindO_some h
    obtain ⟨one6, hone6, h⟩ := letO_some h
    refine (sq_asg (ev_to (ev_callS (ew_1 (ev_var rfl)) rfl rfl hp5) hone6.symm) ?_)
    show Nx _ _ [.imm (rScr K) script0, .cel a_state2 (cHls (wC (rOb (cLst rInt)) (wC rInt (wC rInt (w1 rInt))))) p5.2, .imm rInt base_here4, .imm (rOb (cHls (wC (rOpt rInt) (wC (rOpt rInt) (w1 (rOb (cLst rInt))))))) one6, .no, .no, .no, .no, .no, .no]
    obtain ⟨p7, hp7, h⟩ := bindO_some h
    obtain ⟨two8, htwo8, h⟩ := letO_some h
    refine (sq_asg (ev_to (ev_callS (ew_C (ev_var rfl) (ew_1 (ev_var rfl))) rfl rfl hp7) htwo8.symm) ?_)
    show Nx _ _ [.imm (rScr K) script0, .cel a_state2 (cHls (wC (rOb (cLst rInt)) (wC rInt (wC rInt (w1 rInt))))) p7.2, .imm rInt base_here4, .imm (rOb (cHls (wC (rOpt rInt) (wC (rOpt rInt) (w1 (rOb (cLst rInt))))))) one6, .imm (rOb (cHls (wC (rOpt rInt) (wC (rOpt rInt) (w1 (rOb (cLst rInt))))))) two8, .no, .no, .no, .no, .no]
    obtain ⟨o9, ho9, h⟩ := bindO_some h
    obtain ⟨first10, hfirst10, h⟩ := letO_some h
    refine (sq_asg (ev_to (ev_make (ew_C (ev_ixR (k := 0) (ev_var rfl) (acc0)) (ew_C (ev_ixR (k := 1) (ev_var rfl) (accS (acc0))) (ew_1 (ev_new (ec_listL (ev_ixR (k := 2) (ev_var rfl) (accS (accS (acc1))))))))) ho9) hfirst10.symm) ?_)
    show Nx _ _ [.imm (rScr K) script0, .cel a_state2 (cHls (wC (rOb (cLst rInt)) (wC rInt (wC rInt (w1 rInt))))) p7.2, .imm rInt base_here4, .imm (rOb (cHls (wC (rOpt rInt) (wC (rOpt rInt) (w1 (rOb (cLst rInt))))))) one6, .imm (rOb (cHls (wC (rOpt rInt) (wC (rOpt rInt) (w1 (rOb (cLst rInt))))))) two8, .imm (rIns a.C_Region [("low" : Str), ("high" : Str), ("without" : Str), ("size" : Str), ("value" : Str), ("_gaps" : Str)] (wC (rOpt rInt) (wC (rOpt rInt) (wC (rOb (cTpl rInt)) (wC (rOpt rInt) (wC (rOpt rInt) (w1 (rOb (cDic kyInt rBool))))))))) first10, .no, .no, .no, .no]
    obtain ⟨o11, ho11, h⟩ := bindO_some h
    obtain ⟨second_here12, hsecond_here12, h⟩ := letO_some h
    refine (sq_asg (ev_to (ev_make (ew_C (ev_ixR (k := 0) (ev_var rfl) (acc0)) (ew_C (ev_ixR (k := 1) (ev_var rfl) (accS (acc0))) (ew_1 (ev_tk (ev_new (ec_tupL (ev_ixR (k := 2) (ev_var rfl) (accS (accS (acc1)))))))))) ho11) hsecond_here12.symm) ?_)
    show Nx _ _ [.imm (rScr K) script0, .cel a_state2 (cHls (wC (rOb (cLst rInt)) (wC rInt (wC rInt (w1 rInt))))) p7.2, .imm rInt base_here4, .imm (rOb (cHls (wC (rOpt rInt) (wC (rOpt rInt) (w1 (rOb (cLst rInt))))))) one6, .imm (rOb (cHls (wC (rOpt rInt) (wC (rOpt rInt) (w1 (rOb (cLst rInt))))))) two8, .imm (rIns a.C_Region [("low" : Str), ("high" : Str), ("without" : Str), ("size" : Str), ("value" : Str), ("_gaps" : Str)] (wC (rOpt rInt) (wC (rOpt rInt) (wC (rOb (cTpl rInt)) (wC (rOpt rInt) (wC (rOpt rInt) (w1 (rOb (cDic kyInt rBool))))))))) first10, .imm (rIns a.C_Region [("low" : Str), ("high" : Str), ("without" : Str), ("size" : Str), ("value" : Str), ("_gaps" : Str)] (wC (rOpt rInt) (wC (rOpt rInt) (wC (rOb (cTpl rInt)) (wC (rOpt rInt) (wC (rOpt rInt) (w1 (rOb (cDic kyInt rBool))))))))) second_here12, .no, .no, .no]
    obtain ⟨v13, hv13, h⟩ := bindO_some h
    obtain ⟨v14, hv14, h⟩ := bindO_some h
    obtain ⟨due15, hdue15, h⟩ := letO_some h
    refine (sq_asg (ev_to (ev_new (ec_lst (eh_C (ev_call (ew_C (ev_var rfl) (ew_C (ev_var rfl) (ew_1 (ev_var rfl)))) hv13) (eh_C (ev_call (ew_C (ev_var rfl) (ew_C (ev_var rfl) (ew_1 (ev_var rfl)))) hv14) eh_0)) (Nat.le_of_ble_eq_true rfl))) hdue15.symm) ?_)
    show Nx _ _ [.imm (rScr K) script0, .cel a_state2 (cHls (wC (rOb (cLst rInt)) (wC rInt (wC rInt (w1 rInt))))) p7.2, .imm rInt base_here4, .imm (rOb (cHls (wC (rOpt rInt) (wC (rOpt rInt) (w1 (rOb (cLst rInt))))))) one6, .imm (rOb (cHls (wC (rOpt rInt) (wC (rOpt rInt) (w1 (rOb (cLst rInt))))))) two8, .imm (rIns a.C_Region [("low" : Str), ("high" : Str), ("without" : Str), ("size" : Str), ("value" : Str), ("_gaps" : Str)] (wC (rOpt rInt) (wC (rOpt rInt) (wC (rOb (cTpl rInt)) (wC (rOpt rInt) (wC (rOpt rInt) (w1 (rOb (cDic kyInt rBool))))))))) first10, .imm (rIns a.C_Region [("low" : Str), ("high" : Str), ("without" : Str), ("size" : Str), ("value" : Str), ("_gaps" : Str)] (wC (rOpt rInt) (wC (rOpt rInt) (wC (rOb (cTpl rInt)) (wC (rOpt rInt) (wC (rOpt rInt) (w1 (rOb (cDic kyInt rBool))))))))) second_here12, .imm (rOb (cLst rBool)) due15, .no, .no]
    obtain ⟨v16, hv16, h⟩ := bindO_some h
    obtain ⟨y17, hy17, h⟩ := bindO_some h
    obtain ⟨v18, hv18, h⟩ := bindO_some h
    obtain ⟨c23, hc23, h⟩ := letO_some h
    obtain ⟨b22, hb22, h⟩ := bindO_some h
    obtain ⟨c24, hc24, h⟩ := letO_some h
    refine (sq_if (et_to (et_or (et_to (et_not (et_B (ev_call (ew_C (ev_meth (ev_var rfl) (ew_1 (ev_var rfl)) hv16 (by decide +kernel)) (ew_1 (ev_ixL (ev_var rfl) ev_int hy17))) hv18))) hc23.symm) (fun hc => by have hx := iteO_f hc hb22; obtain ⟨v19, hv19, hx⟩ := bindO_some hx; obtain ⟨y20, hy20, hx⟩ := bindO_some hx; obtain ⟨v21, hv21, hx⟩ := bindO_some hx; exact et_to (et_not (et_B (ev_call (ew_C (ev_meth (ev_var rfl) (ew_1 (ev_var rfl)) hv19 (by decide +kernel)) (ew_1 (ev_ixL (ev_var rfl) ev_int hy20))) hv21))) (Option.some.inj hx)) (fun hc => ⟨(Option.some.inj (iteO_t hc hb22)).symm, rfl⟩)) hc24.symm) (fun hc => ?_) (fun hc => ?_))
    · have h := iteO_t hc h
      exact (sq_ret ev_bl h kr)
    · have h := iteO_f hc h
      refine nx_next ?_
      try dsimp only
      obtain ⟨v25, hv25, h⟩ := bindO_some h
      obtain ⟨c28, hc28, h⟩ := letO_some h
      obtain ⟨b27, hb27, h⟩ := bindO_some h
      obtain ⟨c29, hc29, h⟩ := letO_some h
      refine (sq_if (et_to (et_or (et_to (et_not (et_B (ev_meth (ev_var rfl) (ew_1 (ev_var rfl)) hv25 (by decide +kernel)))) hc28.symm) (fun hc => by have hx := iteO_f hc hb27; obtain ⟨v26, hv26, hx⟩ := bindO_some hx; exact et_to (et_not (et_B (ev_meth (ev_var rfl) (ew_1 (ev_var rfl)) hv26 (by decide +kernel)))) (Option.some.inj hx)) (fun hc => ⟨(Option.some.inj (iteO_t hc hb27)).symm, rfl⟩)) hc29.symm) (fun hc => ?_) (fun hc => ?_))
      · have h := iteO_t hc h
        exact (sq_ret ev_bl h kr)
      · have h := iteO_f hc h
        refine nx_next ?_
        try dsimp only
        obtain ⟨y30, hy30, h⟩ := bindO_some h
        obtain ⟨c33, hc33, h⟩ := letO_some h
        obtain ⟨b32, hb32, h⟩ := bindO_some h
        obtain ⟨alike34, halike34, h⟩ := letO_some h
        refine (sq_asg (ev_to (ev_and (ev_to (ev_ixL (ev_var rfl) ev_int hy30) hc33.symm) (fun hc => by have hx := iteO_t hc hb32; obtain ⟨y31, hy31, hx⟩ := bindO_some hx; exact ev_to (ev_ixL (ev_var rfl) ev_int hy31) (Option.some.inj hx)) (fun hc => ⟨(Option.some.inj (iteO_f hc hb32)).symm, rfl⟩)) halike34.symm) ?_)
        show Nx _ _ [.imm (rScr K) script0, .cel a_state2 (cHls (wC (rOb (cLst rInt)) (wC rInt (wC rInt (w1 rInt))))) p7.2, .imm rInt base_here4, .imm (rOb (cHls (wC (rOpt rInt) (wC (rOpt rInt) (w1 (rOb (cLst rInt))))))) one6, .imm (rOb (cHls (wC (rOpt rInt) (wC (rOpt rInt) (w1 (rOb (cLst rInt))))))) two8, .imm (rIns a.C_Region [("low" : Str), ("high" : Str), ("without" : Str), ("size" : Str), ("value" : Str), ("_gaps" : Str)] (wC (rOpt rInt) (wC (rOpt rInt) (wC (rOb (cTpl rInt)) (wC (rOpt rInt) (wC (rOpt rInt) (w1 (rOb (cDic kyInt rBool))))))))) first10, .imm (rIns a.C_Region [("low" : Str), ("high" : Str), ("without" : Str), ("size" : Str), ("value" : Str), ("_gaps" : Str)] (wC (rOpt rInt) (wC (rOpt rInt) (wC (rOb (cTpl rInt)) (wC (rOpt rInt) (wC (rOpt rInt) (w1 (rOb (cDic kyInt rBool))))))))) second_here12, .imm (rOb (cLst rBool)) due15, .imm rBool alike34, .no]
        obtain ⟨n35, hn35, h⟩ := bindO_some h
        obtain ⟨c41, hc41, h⟩ := letO_some h
        obtain ⟨b40, hb40, h⟩ := bindO_some h
        obtain ⟨c42, hc42, h⟩ := letO_some h
        refine (sq_if (et_to (et_or (et_to (et_T (ev_neS scBool (ev_eqO (ev_var rfl) (ev_var rfl) (ty_ins T.ct_Region) T.nf_Region_Region hn35) (ev_var rfl) rfl)) hc41.symm) (fun hc => by have hx := iteO_f hc hb40; obtain ⟨n36, hn36, hx⟩ := bindO_some hx; obtain ⟨c39, hc39, hx⟩ := letO_some hx; obtain ⟨b38, hb38, hx⟩ := bindO_some hx; exact et_to (et_or (et_to (et_T (ev_neS scBool (ev_eqO (ev_var rfl) (ev_var rfl) (ty_ins T.ct_Region) T.nf_Region_Region hn36) (ev_var rfl) rfl)) hc39.symm) (fun hc => by have hx := iteO_f hc hb38; obtain ⟨n37, hn37, hx⟩ := bindO_some hx; exact et_to (et_T (ev_eqS scBool (ev_neO (ev_var rfl) (ev_var rfl) (ty_ins T.ct_Region) T.nf_Region_Region hn37) (ev_var rfl) rfl)) (Option.some.inj hx)) (fun hc => ⟨(Option.some.inj (iteO_t hc hb38)).symm, rfl⟩)) (Option.some.inj hx)) (fun hc => ⟨(Option.some.inj (iteO_t hc hb40)).symm, rfl⟩)) hc42.symm) (fun hc => ?_) (fun hc => ?_))
        · have h := iteO_t hc h
          exact (sq_ret ev_bl h kr)
        · have h := iteO_f hc h
          refine nx_next ?_
          try dsimp only
          obtain ⟨n43, hn43, h⟩ := bindO_some h
          obtain ⟨c52, hc52, h⟩ := letO_some h
          obtain ⟨b51, hb51, h⟩ := bindO_some h
          obtain ⟨c53, hc53, h⟩ := letO_some h
          refine (sq_if (et_to (et_or (et_to (et_not (et_T (ev_eqO (ev_var rfl) (ev_var rfl) (ty_ins T.ct_Region) T.nf_Region_Region hn43))) hc52.symm) (fun hc => by have hx := iteO_f hc hb51; obtain ⟨n44, hn44, hx⟩ := bindO_some hx; obtain ⟨c50, hc50, hx⟩ := letO_some hx; obtain ⟨b49, hb49, hx⟩ := bindO_some hx; exact et_to (et_or (et_to (et_T (ev_eqO (ev_var rfl) (ev_new (ec_tup (ew_C (ev_ixR (k := 0) (ev_var rfl) (acc0)) (ew_1 (ev_ixR (k := 1) (ev_var rfl) (accS (acc0))))))) ty_tup T.nf_Region_tuple hn44)) hc50.symm) (fun hc => by have hx := iteO_f hc hb49; obtain ⟨n45, hn45, hx⟩ := bindO_some hx; obtain ⟨c48, hc48, hx⟩ := letO_some hx; obtain ⟨b47, hb47, hx⟩ := bindO_some hx; exact et_to (et_or (et_to (et_T (ev_eqO (ev_var rfl) ev_non ty_non T.nf_Region_NoneType hn45)) hc48.symm) (fun hc => by have hx := iteO_f hc hb47; obtain ⟨n46, hn46, hx⟩ := bindO_some hx; exact et_to (et_T (ev_eqO (ev_var rfl) (ev_var rfl) ty_int T.nf_Region_int hn46)) (Option.some.inj hx)) (fun hc => ⟨(Option.some.inj (iteO_t hc hb47)).symm, rfl⟩)) (Option.some.inj hx)) (fun hc => ⟨(Option.some.inj (iteO_t hc hb49)).symm, rfl⟩)) (Option.some.inj hx)) (fun hc => ⟨(Option.some.inj (iteO_t hc hb51)).symm, rfl⟩)) hc53.symm) (fun hc => ?_) (fun hc => ?_))
          · have h := iteO_t hc h
            exact (sq_ret ev_bl h kr)
          · have h := iteO_f hc h
            refine nx_next ?_
            try dsimp only
            obtain ⟨o54, ho54, h⟩ := bindO_some h
            obtain ⟨nothing55, hnothing55, h⟩ := letO_some h
            refine (sq_asg (ev_to (ev_makeD (ew_C (ev_some nn_int (ev_var rfl)) (ew_1 (ev_some nn_int (ev_sub (ev_var rfl) ev_int)))) (dapp_C (dapp_1 (tkE T.t_Region___init_2))) ho54) hnothing55.symm) ?_)
            show Nx _ _ [.imm (rScr K) script0, .cel a_state2 (cHls (wC (rOb (cLst rInt)) (wC rInt (wC rInt (w1 rInt))))) p7.2, .imm rInt base_here4, .imm (rOb (cHls (wC (rOpt rInt) (wC (rOpt rInt) (w1 (rOb (cLst rInt))))))) one6, .imm (rOb (cHls (wC (rOpt rInt) (wC (rOpt rInt) (w1 (rOb (cLst rInt))))))) two8, .imm (rIns a.C_Region [("low" : Str), ("high" : Str), ("without" : Str), ("size" : Str), ("value" : Str), ("_gaps" : Str)] (wC (rOpt rInt) (wC (rOpt rInt) (wC (rOb (cTpl rInt)) (wC (rOpt rInt) (wC (rOpt rInt) (w1 (rOb (cDic kyInt rBool))))))))) first10, .imm (rIns a.C_Region [("low" : Str), ("high" : Str), ("without" : Str), ("size" : Str), ("value" : Str), ("_gaps" : Str)] (wC (rOpt rInt) (wC (rOpt rInt) (wC (rOb (cTpl rInt)) (wC (rOpt rInt) (wC (rOpt rInt) (w1 (rOb (cDic kyInt rBool))))))))) second_here12, .imm (rOb (cLst rBool)) due15, .imm rBool alike34, .imm (rIns a.C_Region [("low" : Str), ("high" : Str), ("without" : Str), ("size" : Str), ("value" : Str), ("_gaps" : Str)] (wC (rOpt rInt) (wC (rOpt rInt) (wC (rOb (cTpl rInt)) (wC (rOpt rInt) (wC (rOpt rInt) (w1 (rOb (cDic kyInt rBool))))))))) nothing55]
            obtain ⟨v56, hv56, h⟩ := bindO_some h
            obtain ⟨c60, hc60, h⟩ := letO_some h
            obtain ⟨b59, hb59, h⟩ := bindO_some h
            obtain ⟨c61, hc61, h⟩ := letO_some h
            refine (sq_if (et_to (et_or (et_to (et_not (et_B (ev_meth (ev_var rfl) (ew_1 (ev_var rfl)) hv56 (by decide +kernel)))) hc60.symm) (fun hc => by have hx := iteO_f hc hb59; obtain ⟨v57, hv57, hx⟩ := bindO_some hx; obtain ⟨n58, hn58, hx⟩ := bindO_some hx; exact et_to (et_T (ev_neS scBool (ev_meth (ev_var rfl) (ew_1 (ev_var rfl)) hv57 (by decide +kernel)) (ev_not (ev_boolO (ev_var rfl) hn58)) rfl)) (Option.some.inj hx)) (fun hc => ⟨(Option.some.inj (iteO_t hc hb59)).symm, rfl⟩)) hc61.symm) (fun hc => ?_) (fun hc => ?_))
            · have h := iteO_t hc h
              exact (sq_ret ev_bl h kr)
            · have h := iteO_f hc h
              refine nx_next ?_
              try dsimp only
              obtain ⟨o62, ho62, h⟩ := bindO_some h
              obtain ⟨v63, hv63, h⟩ := bindO_some h
              obtain ⟨c69, hc69, h⟩ := letO_some h
              obtain ⟨b68, hb68, h⟩ := bindO_some h
              exact (sq_ret (ev_and (ev_to (ev_meth (ev_var rfl) (ew_1 (ev_makeD ew_0 (dapp_0 (fun B => dr_C rl_none ((fun B => dr_C rl_none ((tkE T.t_Region___init_2) B)) B))) ho62)) hv63 (by decide +kernel)) hc69.symm) (fun hc => by have hx := iteO_t hc hb68; obtain ⟨o64, ho64, hx⟩ := bindO_some hx; obtain ⟨v65, hv65, hx⟩ := bindO_some hx; obtain ⟨o66, ho66, hx⟩ := bindO_some hx; obtain ⟨n67, hn67, hx⟩ := bindO_some hx; exact ev_to (ev_eqS scBool (ev_meth (ev_makeD ew_0 (dapp_0 (fun B => dr_C rl_none ((fun B => dr_C rl_none ((tkE T.t_Region___init_2) B)) B))) ho64) (ew_1 (ev_var rfl)) hv65 (by decide +kernel)) (ev_eqO (ev_var rfl) (ev_makeD ew_0 (dapp_0 (fun B => dr_C rl_none ((fun B => dr_C rl_none ((tkE T.t_Region___init_2) B)) B))) ho66) (ty_ins T.ct_Region) T.nf_Region_Region hn67) rfl) (Option.some.inj hx)) (fun hc => ⟨(Option.some.inj (iteO_f hc hb68)).symm, rfl⟩)) h kr)
end
end Law

set_option maxHeartbeats 4000000
namespace Law
open PySem PySem.Spec PyProof.Rows L2 G
theorem all_mk {P : Program} {w : World} {K : PySem.W.Frag} {h : Heap} {mg : Str → Option Value} {fa : Addr} (X : K.In h) (G : h.Ns mainGlobals mg) (hfa : mg "law" = some (.ref fa))
    {C_Region : Addr} {oc_between : Value} {kV_between : Value} {dc_between : Value} {pm_between : Value} {cd_between : Value}
    {ct_between : Value} {od_between an_between : Option Addr} {sl_between : Array (Option Value)} {f_between : Addr} {oc_one_form : Value} {kV_one_form : Value} {dc_one_form : Value} {pm_one_form : Value}
    {cd_one_form : Value} {ct_one_form : Value} {od_one_form an_one_form : Option Addr} {sl_one_form : Array (Option Value)} {f_one_form : Addr} {oc_size_of : Value} {kV_size_of : Value} {dc_size_of : Value}
    {pm_size_of : Value} {cd_size_of : Value} {ct_size_of : Value} {od_size_of an_size_of : Option Addr} {sl_size_of : Array (Option Value)} {f_size_of : Addr} {oc_Region___init : Value} {kV_Region___init : Value}
    {dc_Region___init : Value} {pm_Region___init : Value} {cd_Region___init : Value} {ct_Region___init : Value} {tc_Region___init : Value} {od_Region___init an_Region___init td_Region___init : Option Addr} {sl_Region___init ts_Region___init : Array (Option Value)} {f_Region___init T_Region___init : Addr} {tn_Region___init : Nat}
    {e_Region___init_2 : Addr} {ed_Region___init_2 : Option Addr} {en_Region___init_2 : Nat} {es_Region___init_2 : Array (Option Value)} {oc_meet : Value} {kV_meet : Value} {dc_meet : Value} {pm_meet : Value} {cd_meet : Value}
    {ct_meet : Value} {od_meet an_meet : Option Addr} {sl_meet : Array (Option Value)} {f_meet : Addr} {oc_Region___eq : Value} {kV_Region___eq : Value} {dc_Region___eq : Value} {pm_Region___eq : Value}
    {cd_Region___eq : Value} {ct_Region___eq : Value} {od_Region___eq an_Region___eq : Option Addr} {sl_Region___eq : Array (Option Value)} {f_Region___eq : Addr} {oc_Region___bool : Value} {kV_Region___bool : Value} {dc_Region___bool : Value}
    {pm_Region___bool : Value} {cd_Region___bool : Value} {ct_Region___bool : Value} {od_Region___bool an_Region___bool : Option Addr} {sl_Region___bool : Array (Option Value)} {f_Region___bool : Addr} {oc_Region_within : Value} {kV_Region_within : Value}
    {dc_Region_within : Value} {pm_Region_within : Value} {cd_Region_within : Value} {ct_Region_within : Value} {od_Region_within an_Region_within : Option Addr} {sl_Region_within : Array (Option Value)} {f_Region_within : Addr} {oc_l_start : Value}
    {kV_l_start : Value} {dc_l_start : Value} {pm_l_start : Value} {cd_l_start : Value} {ct_l_start : Value} {od_l_start an_l_start : Option Addr} {sl_l_start : Array (Option Value)} {f_l_start : Addr}
    {oc_l_draw : Value} {kV_l_draw : Value} {dc_l_draw : Value} {pm_l_draw : Value} {cd_l_draw : Value} {ct_l_draw : Value}
    {od_l_draw an_l_draw : Option Addr} {sl_l_draw : Array (Option Value)} {f_l_draw : Addr} {oc_l_end : Value} {kV_l_end : Value} {dc_l_end : Value} {pm_l_end : Value} {cd_l_end : Value}
    {ct_l_end : Value} {od_l_end an_l_end : Option Addr} {sl_l_end : Array (Option Value)} {f_l_end : Addr} {oc_l_base : Value} {kV_l_base : Value} {dc_l_base : Value} {pm_l_base : Value}
    {cd_l_base : Value} {ct_l_base : Value} {od_l_base an_l_base : Option Addr} {sl_l_base : Array (Option Value)} {f_l_base : Addr} {oc_l_parts : Value} {kV_l_parts : Value} {dc_l_parts : Value}
    {pm_l_parts : Value} {cd_l_parts : Value} {ct_l_parts : Value} {od_l_parts an_l_parts : Option Addr} {sl_l_parts : Array (Option Value)} {f_l_parts : Addr} {oc_l_in_part : Value} {kV_l_in_part : Value}
    {dc_l_in_part : Value} {pm_l_in_part : Value} {cd_l_in_part : Value} {ct_l_in_part : Value} {od_l_in_part an_l_in_part : Option Addr} {sl_l_in_part : Array (Option Value)} {f_l_in_part : Addr} {oc_l_window : Value}
    {kV_l_window : Value} {dc_l_window : Value} {pm_l_window : Value} {cd_l_window : Value} {ct_l_window : Value} {od_l_window an_l_window : Option Addr} {sl_l_window : Array (Option Value)} {f_l_window : Addr}
    {oc_l_moved : Value} {kV_l_moved : Value} {dc_l_moved : Value} {pm_l_moved : Value} {cd_l_moved : Value} {ct_l_moved : Value}
    {od_l_moved an_l_moved : Option Addr} {sl_l_moved : Array (Option Value)} {f_l_moved : Addr} {oc_l_spelled : Value} {kV_l_spelled : Value} {dc_l_spelled : Value} {pm_l_spelled : Value} {cd_l_spelled : Value}
    {ct_l_spelled : Value} {od_l_spelled an_l_spelled : Option Addr} {sl_l_spelled : Array (Option Value)} {f_l_spelled : Addr} {oc_l_second : Value} {kV_l_second : Value} {dc_l_second : Value} {pm_l_second : Value}
    {cd_l_second : Value} {ct_l_second : Value} {od_l_second an_l_second : Option Addr} {sl_l_second : Array (Option Value)} {f_l_second : Addr} {oc_l_within : Value} {kV_l_within : Value} {dc_l_within : Value}
    {pm_l_within : Value} {cd_l_within : Value} {ct_l_within : Value} {od_l_within an_l_within : Option Addr} {sl_l_within : Array (Option Value)} {f_l_within : Addr} {oc_l_told : Value} {kV_l_told : Value}
    {dc_l_told : Value} {pm_l_told : Value} {cd_l_told : Value} {ct_l_told : Value} {od_l_told an_l_told : Option Addr} {sl_l_told : Array (Option Value)} {f_l_told : Addr} {oc_law : Value}
    {kV_law : Value} {dc_law : Value} {pm_law : Value} {cd_law : Value} {ct_law : Value} {od_law an_law : Option Addr} {sl_law : Array (Option Value)} {f_law : Addr}
    (aC_Region : PySem.W.nsIn K mainGlobals "Region" = some (some (.ref C_Region)))
    (a_between : PySem.W.nsIn K mainGlobals "between" = some (some (.ref f_between)))
    (l_between : K.lookup f_between = some ⟨oc_between, od_between, .func (PySem.W.fnOf "between" "between" (defArgs s_between) (defBody s_between) (defScope s_between) .none kV_between dc_between pm_between an_between cd_between ct_between), sl_between⟩)
    (c_between : PySem.W.codeIn K cd_between "between" = true)
    (k_between : PySem.W.keepIn K (.ref f_between) = true)
    (a_one_form : PySem.W.nsIn K mainGlobals "one_form" = some (some (.ref f_one_form)))
    (l_one_form : K.lookup f_one_form = some ⟨oc_one_form, od_one_form, .func (PySem.W.fnOf "one_form" "one_form" (defArgs s_one_form) (defBody s_one_form) (defScope s_one_form) .none kV_one_form dc_one_form pm_one_form an_one_form cd_one_form ct_one_form), sl_one_form⟩)
    (c_one_form : PySem.W.codeIn K cd_one_form "one_form" = true)
    (k_one_form : PySem.W.keepIn K (.ref f_one_form) = true)
    (a_size_of : PySem.W.nsIn K mainGlobals "size_of" = some (some (.ref f_size_of)))
    (l_size_of : K.lookup f_size_of = some ⟨oc_size_of, od_size_of, .func (PySem.W.fnOf "size_of" "size_of" (defArgs s_size_of) (defBody s_size_of) (defScope s_size_of) .none kV_size_of dc_size_of pm_size_of an_size_of cd_size_of ct_size_of), sl_size_of⟩)
    (c_size_of : PySem.W.codeIn K cd_size_of "size_of" = true)
    (k_size_of : PySem.W.keepIn K (.ref f_size_of) = true)
    (a_Region___init : PySem.W.findIn K (.ref C_Region) "__init__" = some (some (.ref f_Region___init)))
    (l_Region___init : K.lookup f_Region___init = some ⟨oc_Region___init, od_Region___init, .func (PySem.W.fnOf "__init__" "Region.__init__" (defArgs s_Region___init) (defBody s_Region___init) (defScope s_Region___init) (.ref T_Region___init) kV_Region___init dc_Region___init pm_Region___init an_Region___init cd_Region___init ct_Region___init), sl_Region___init⟩)
    (c_Region___init : PySem.W.codeIn K cd_Region___init "Region.__init__" = true)
    (k_Region___init : PySem.W.keepIn K (.ref f_Region___init) = true)
    (lT_Region___init : K.lookup T_Region___init = some ⟨tc_Region___init, td_Region___init, .seq #[Value.none, Value.none, Value.ref e_Region___init_2] tn_Region___init, ts_Region___init⟩)
    (le_Region___init_2 : K.lookup e_Region___init_2 = some ⟨.type "tuple", ed_Region___init_2, .seq #[] en_Region___init_2, es_Region___init_2⟩)
    (i_Region___init : PySem.W.isFn K (.ref f_Region___init) = true)
    (a_meet : PySem.W.nsIn K mainGlobals "meet" = some (some (.ref f_meet)))
    (l_meet : K.lookup f_meet = some ⟨oc_meet, od_meet, .func (PySem.W.fnOf "meet" "meet" (defArgs s_meet) (defBody s_meet) (defScope s_meet) .none kV_meet dc_meet pm_meet an_meet cd_meet ct_meet), sl_meet⟩)
    (c_meet : PySem.W.codeIn K cd_meet "meet" = true)
    (k_meet : PySem.W.keepIn K (.ref f_meet) = true)
    (a_Region___eq : PySem.W.findIn K (.ref C_Region) "__eq__" = some (some (.ref f_Region___eq)))
    (l_Region___eq : K.lookup f_Region___eq = some ⟨oc_Region___eq, od_Region___eq, .func (PySem.W.fnOf "__eq__" "Region.__eq__" (defArgs s_Region___eq) (defBody s_Region___eq) (defScope s_Region___eq) .none kV_Region___eq dc_Region___eq pm_Region___eq an_Region___eq cd_Region___eq ct_Region___eq), sl_Region___eq⟩)
    (c_Region___eq : PySem.W.codeIn K cd_Region___eq "Region.__eq__" = true)
    (k_Region___eq : PySem.W.keepIn K (.ref f_Region___eq) = true)
    (i_Region___eq : PySem.W.isFn K (.ref f_Region___eq) = true)
    (a_Region___bool : PySem.W.findIn K (.ref C_Region) "__bool__" = some (some (.ref f_Region___bool)))
    (l_Region___bool : K.lookup f_Region___bool = some ⟨oc_Region___bool, od_Region___bool, .func (PySem.W.fnOf "__bool__" "Region.__bool__" (defArgs s_Region___bool) (defBody s_Region___bool) (defScope s_Region___bool) .none kV_Region___bool dc_Region___bool pm_Region___bool an_Region___bool cd_Region___bool ct_Region___bool), sl_Region___bool⟩)
    (c_Region___bool : PySem.W.codeIn K cd_Region___bool "Region.__bool__" = true)
    (k_Region___bool : PySem.W.keepIn K (.ref f_Region___bool) = true)
    (i_Region___bool : PySem.W.isFn K (.ref f_Region___bool) = true)
    (a_Region_within : PySem.W.findIn K (.ref C_Region) "within" = some (some (.ref f_Region_within)))
    (l_Region_within : K.lookup f_Region_within = some ⟨oc_Region_within, od_Region_within, .func (PySem.W.fnOf "within" "Region.within" (defArgs s_Region_within) (defBody s_Region_within) (defScope s_Region_within) .none kV_Region_within dc_Region_within pm_Region_within an_Region_within cd_Region_within ct_Region_within), sl_Region_within⟩)
    (c_Region_within : PySem.W.codeIn K cd_Region_within "Region.within" = true)
    (k_Region_within : PySem.W.keepIn K (.ref f_Region_within) = true)
    (i_Region_within : PySem.W.isFn K (.ref f_Region_within) = true)
    (a_l_start : PySem.W.nsIn K mainGlobals "_law_start" = some (some (.ref f_l_start)))
    (l_l_start : K.lookup f_l_start = some ⟨oc_l_start, od_l_start, .func (PySem.W.fnOf "_law_start" "_law_start" (defArgs s_l_start) (defBody s_l_start) (defScope s_l_start) .none kV_l_start dc_l_start pm_l_start an_l_start cd_l_start ct_l_start), sl_l_start⟩)
    (c_l_start : PySem.W.codeIn K cd_l_start "_law_start" = true)
    (k_l_start : PySem.W.keepIn K (.ref f_l_start) = true)
    (a_l_draw : PySem.W.nsIn K mainGlobals "_law_draw" = some (some (.ref f_l_draw)))
    (l_l_draw : K.lookup f_l_draw = some ⟨oc_l_draw, od_l_draw, .func (PySem.W.fnOf "_law_draw" "_law_draw" (defArgs s_l_draw) (defBody s_l_draw) (defScope s_l_draw) .none kV_l_draw dc_l_draw pm_l_draw an_l_draw cd_l_draw ct_l_draw), sl_l_draw⟩)
    (c_l_draw : PySem.W.codeIn K cd_l_draw "_law_draw" = true)
    (k_l_draw : PySem.W.keepIn K (.ref f_l_draw) = true)
    (a_l_end : PySem.W.nsIn K mainGlobals "_law_end" = some (some (.ref f_l_end)))
    (l_l_end : K.lookup f_l_end = some ⟨oc_l_end, od_l_end, .func (PySem.W.fnOf "_law_end" "_law_end" (defArgs s_l_end) (defBody s_l_end) (defScope s_l_end) .none kV_l_end dc_l_end pm_l_end an_l_end cd_l_end ct_l_end), sl_l_end⟩)
    (c_l_end : PySem.W.codeIn K cd_l_end "_law_end" = true)
    (k_l_end : PySem.W.keepIn K (.ref f_l_end) = true)
    (a_l_base : PySem.W.nsIn K mainGlobals "_law_base" = some (some (.ref f_l_base)))
    (l_l_base : K.lookup f_l_base = some ⟨oc_l_base, od_l_base, .func (PySem.W.fnOf "_law_base" "_law_base" (defArgs s_l_base) (defBody s_l_base) (defScope s_l_base) .none kV_l_base dc_l_base pm_l_base an_l_base cd_l_base ct_l_base), sl_l_base⟩)
    (c_l_base : PySem.W.codeIn K cd_l_base "_law_base" = true)
    (k_l_base : PySem.W.keepIn K (.ref f_l_base) = true)
    (a_l_parts : PySem.W.nsIn K mainGlobals "_law_parts" = some (some (.ref f_l_parts)))
    (l_l_parts : K.lookup f_l_parts = some ⟨oc_l_parts, od_l_parts, .func (PySem.W.fnOf "_law_parts" "_law_parts" (defArgs s_l_parts) (defBody s_l_parts) (defScope s_l_parts) .none kV_l_parts dc_l_parts pm_l_parts an_l_parts cd_l_parts ct_l_parts), sl_l_parts⟩)
    (c_l_parts : PySem.W.codeIn K cd_l_parts "_law_parts" = true)
    (k_l_parts : PySem.W.keepIn K (.ref f_l_parts) = true)
    (a_l_in_part : PySem.W.nsIn K mainGlobals "_law_in_part" = some (some (.ref f_l_in_part)))
    (l_l_in_part : K.lookup f_l_in_part = some ⟨oc_l_in_part, od_l_in_part, .func (PySem.W.fnOf "_law_in_part" "_law_in_part" (defArgs s_l_in_part) (defBody s_l_in_part) (defScope s_l_in_part) .none kV_l_in_part dc_l_in_part pm_l_in_part an_l_in_part cd_l_in_part ct_l_in_part), sl_l_in_part⟩)
    (c_l_in_part : PySem.W.codeIn K cd_l_in_part "_law_in_part" = true)
    (k_l_in_part : PySem.W.keepIn K (.ref f_l_in_part) = true)
    (a_l_window : PySem.W.nsIn K mainGlobals "_law_window" = some (some (.ref f_l_window)))
    (l_l_window : K.lookup f_l_window = some ⟨oc_l_window, od_l_window, .func (PySem.W.fnOf "_law_window" "_law_window" (defArgs s_l_window) (defBody s_l_window) (defScope s_l_window) .none kV_l_window dc_l_window pm_l_window an_l_window cd_l_window ct_l_window), sl_l_window⟩)
    (c_l_window : PySem.W.codeIn K cd_l_window "_law_window" = true)
    (k_l_window : PySem.W.keepIn K (.ref f_l_window) = true)
    (a_l_moved : PySem.W.nsIn K mainGlobals "_law_moved" = some (some (.ref f_l_moved)))
    (l_l_moved : K.lookup f_l_moved = some ⟨oc_l_moved, od_l_moved, .func (PySem.W.fnOf "_law_moved" "_law_moved" (defArgs s_l_moved) (defBody s_l_moved) (defScope s_l_moved) .none kV_l_moved dc_l_moved pm_l_moved an_l_moved cd_l_moved ct_l_moved), sl_l_moved⟩)
    (c_l_moved : PySem.W.codeIn K cd_l_moved "_law_moved" = true)
    (k_l_moved : PySem.W.keepIn K (.ref f_l_moved) = true)
    (a_l_spelled : PySem.W.nsIn K mainGlobals "_law_spelled" = some (some (.ref f_l_spelled)))
    (l_l_spelled : K.lookup f_l_spelled = some ⟨oc_l_spelled, od_l_spelled, .func (PySem.W.fnOf "_law_spelled" "_law_spelled" (defArgs s_l_spelled) (defBody s_l_spelled) (defScope s_l_spelled) .none kV_l_spelled dc_l_spelled pm_l_spelled an_l_spelled cd_l_spelled ct_l_spelled), sl_l_spelled⟩)
    (c_l_spelled : PySem.W.codeIn K cd_l_spelled "_law_spelled" = true)
    (k_l_spelled : PySem.W.keepIn K (.ref f_l_spelled) = true)
    (a_l_second : PySem.W.nsIn K mainGlobals "_law_second" = some (some (.ref f_l_second)))
    (l_l_second : K.lookup f_l_second = some ⟨oc_l_second, od_l_second, .func (PySem.W.fnOf "_law_second" "_law_second" (defArgs s_l_second) (defBody s_l_second) (defScope s_l_second) .none kV_l_second dc_l_second pm_l_second an_l_second cd_l_second ct_l_second), sl_l_second⟩)
    (c_l_second : PySem.W.codeIn K cd_l_second "_law_second" = true)
    (k_l_second : PySem.W.keepIn K (.ref f_l_second) = true)
    (a_l_within : PySem.W.nsIn K mainGlobals "_law_within" = some (some (.ref f_l_within)))
    (l_l_within : K.lookup f_l_within = some ⟨oc_l_within, od_l_within, .func (PySem.W.fnOf "_law_within" "_law_within" (defArgs s_l_within) (defBody s_l_within) (defScope s_l_within) .none kV_l_within dc_l_within pm_l_within an_l_within cd_l_within ct_l_within), sl_l_within⟩)
    (c_l_within : PySem.W.codeIn K cd_l_within "_law_within" = true)
    (k_l_within : PySem.W.keepIn K (.ref f_l_within) = true)
    (a_l_told : PySem.W.nsIn K mainGlobals "_law_told" = some (some (.ref f_l_told)))
    (l_l_told : K.lookup f_l_told = some ⟨oc_l_told, od_l_told, .func (PySem.W.fnOf "_law_told" "_law_told" (defArgs s_l_told) (defBody s_l_told) (defScope s_l_told) .none kV_l_told dc_l_told pm_l_told an_l_told cd_l_told ct_l_told), sl_l_told⟩)
    (c_l_told : PySem.W.codeIn K cd_l_told "_law_told" = true)
    (k_l_told : PySem.W.keepIn K (.ref f_l_told) = true)
    (a_law : PySem.W.nsIn K mainGlobals "law" = some (some (.ref f_law)))
    (l_law : K.lookup f_law = some ⟨oc_law, od_law, .func (PySem.W.fnOf "law" "law" (defArgs s_law) (defBody s_law) (defScope s_law) .none kV_law dc_law pm_law an_law cd_law ct_law), sl_law⟩)
    (c_law : PySem.W.codeIn K cd_law "law" = true)
    (k_law : PySem.W.keepIn K (.ref f_law) = true)
    (z_bool : PySem.W.nsIn K mainGlobals "bool" = some none)
    (z_int : PySem.W.nsIn K mainGlobals "int" = some none)
    (z_isinstance : PySem.W.nsIn K mainGlobals "isinstance" = some none)
    (z_len : PySem.W.nsIn K mainGlobals "len" = some none)
    (z_list : PySem.W.nsIn K mainGlobals "list" = some none)
    (z_max : PySem.W.nsIn K mainGlobals "max" = some none)
    (z_min : PySem.W.nsIn K mainGlobals "min" = some none)
    (z_range : PySem.W.nsIn K mainGlobals "range" = some none)
    (z_set : PySem.W.nsIn K mainGlobals "set" = some none)
    (z_sorted : PySem.W.nsIn K mainGlobals "sorted" = some none)
    (z_tuple : PySem.W.nsIn K mainGlobals "tuple" = some none)
    (pg_Region : PySem.W.plainGet K C_Region Str.empty = true)
    (hd_Region : PySem.W.hasDictIn K C_Region = true)
    (po_Region : PySem.W.plainOver K C_Region = true)
    (sa_Region : PySem.W.findIn K (.ref C_Region) "__setattr__" = some (some (.builtin "object.__setattr__")))
    (na_Region_low : PySem.W.findIn K (.ref C_Region) "low" = some none)
    (na_Region_high : PySem.W.findIn K (.ref C_Region) "high" = some none)
    (na_Region_without : PySem.W.findIn K (.ref C_Region) "without" = some none)
    (na_Region_size : PySem.W.findIn K (.ref C_Region) "size" = some none)
    (na_Region_value : PySem.W.findIn K (.ref C_Region) "value" = some none)
    (na_Region__gaps : PySem.W.findIn K (.ref C_Region) "_gaps" = some none)
    (mk_Region : PySem.W.makesIn K C_Region = true)
    (kc_Region : PySem.W.keepIn K (.ref C_Region) = true)
    (ca_Region : PySem.W.findIn K (.ref C_Region) "__class__" = some (some (.builtin "object.__class__")))
    (cn_ : PySem.W.specialIn K (.builtin "object.__class__") "__get__" = some (some (.builtin "getset_descriptor.__get__")))
    (ct_ : PySem.W.takesIn K (.builtin "object.__class__") = some true)
    (cm_Region : PySem.W.mroIn K C_Region (.type "object") = some true)
    (qq_Region_Region : PySem.W.kitOne K (.ref C_Region) (.ref C_Region) = some true)
    (qq_tuple_Region : PySem.W.kitOne K (.type "tuple") (.ref C_Region) = some false)
    (qq_NoneType_Region : PySem.W.kitOne K (.type "NoneType") (.ref C_Region) = some false)
    (qq_int_Region : PySem.W.kitOne K (.type "int") (.ref C_Region) = some false)
    (qnf_Region_Region : PySem.W.notFirst K C_Region (.ref C_Region) = true)
    (ne_Region : PySem.W.findIn K (.ref C_Region) "__ne__" = some (some (.builtin "object.__ne__")))
    (qnf_Region_tuple : PySem.W.notFirst K C_Region (.type "tuple") = true)
    (qnf_Region_NoneType : PySem.W.notFirst K C_Region (.type "NoneType") = true)
    (qnf_Region_int : PySem.W.notFirst K C_Region (.type "int") = true)
    : ∃ fd : FuncData, (∀ (s : Shared) (v : Value), BindsTo s fd ⟨[v], []⟩ [("_law_script", v)]) ∧ ∀ base : Heap, K.In base → base.Ns mainGlobals mg → FnOk P w K mg base CX0 7 fa fd ["_law_script"] (SpL (w1 (rScr K)) rBool (fun x => m_law x)) := by
  have e := hfa.symm.trans (PySem.W.mg_of X G a_law)
  cases e
  have FD_Region___init : FunD K "__init__" "Region.__init__" (defArgs s_Region___init) (defBody s_Region___init) (defScope s_Region___init) [V.non, V.non, V.ref e_Region___init_2] [] f_Region___init (PySem.W.fnOf "__init__" "Region.__init__" (defArgs s_Region___init) (defBody s_Region___init) (defScope s_Region___init) (.ref T_Region___init) kV_Region___init dc_Region___init pm_Region___init an_Region___init cd_Region___init ct_Region___init) := ⟨⟨_, _, _, _, _, _, _, _, _, _, rfl, l_Region___init, c_Region___init, .inr ⟨List.cons_ne_nil _ _, T_Region___init, _, [Value.none, Value.none, Value.ref e_Region___init_2], _, rfl, lT_Region___init, rfl, (.cons rfl (.cons rfl (.cons rfl .nil)))⟩, .inl rfl⟩, k_Region___init⟩
  obtain ⟨z_Region___init_0, v_Region___init_0, n_Region___init_0⟩ := FD_Region___init.binds1 (ps := ["self", "low", "high", "without"]) 1 0 (List.cons_ne_nil _ _) rfl (fun T kV doc pm an cdv ct us its l1 l2 => match us, its, l1, l2 with | [_], [_, _, _], _, _ => ⟨_, rfl, rfl⟩)
  obtain ⟨z_Region___init_2, v_Region___init_2, n_Region___init_2⟩ := FD_Region___init.binds1 (ps := ["self", "low", "high", "without"]) 3 2 (List.cons_ne_nil _ _) rfl (fun T kV doc pm an cdv ct us its l1 l2 => match us, its, l1, l2 with | [_, _, _], [_, _, _], _, _ => ⟨_, rfl, rfl⟩)
  obtain ⟨z_Region___init_3, v_Region___init_3, n_Region___init_3⟩ := FD_Region___init.binds1 (ps := ["self", "low", "high", "without"]) 4 3 (List.cons_ne_nil _ _) rfl (fun T kV doc pm an cdv ct us its l1 l2 => match us, its, l1, l2 with | [_, _, _, _], [_, _, _], _, _ => ⟨_, rfl, rfl⟩)
  have T : Txt K mg { f_between := f_between, d_between := PySem.W.fnOf "between" "between" (defArgs s_between) (defBody s_between) (defScope s_between) .none kV_between dc_between pm_between an_between cd_between ct_between, f_one_form := f_one_form, d_one_form := PySem.W.fnOf "one_form" "one_form" (defArgs s_one_form) (defBody s_one_form) (defScope s_one_form) .none kV_one_form dc_one_form pm_one_form an_one_form cd_one_form ct_one_form, f_size_of := f_size_of, d_size_of := PySem.W.fnOf "size_of" "size_of" (defArgs s_size_of) (defBody s_size_of) (defScope s_size_of) .none kV_size_of dc_size_of pm_size_of an_size_of cd_size_of ct_size_of, f_Region___init := f_Region___init, d_Region___init := PySem.W.fnOf "__init__" "Region.__init__" (defArgs s_Region___init) (defBody s_Region___init) (defScope s_Region___init) (.ref T_Region___init) kV_Region___init dc_Region___init pm_Region___init an_Region___init cd_Region___init ct_Region___init, e_Region___init_2 := e_Region___init_2, z_Region___init_0 := z_Region___init_0, z_Region___init_2 := z_Region___init_2, z_Region___init_3 := z_Region___init_3, f_meet := f_meet, d_meet := PySem.W.fnOf "meet" "meet" (defArgs s_meet) (defBody s_meet) (defScope s_meet) .none kV_meet dc_meet pm_meet an_meet cd_meet ct_meet, f_Region___eq := f_Region___eq, d_Region___eq := PySem.W.fnOf "__eq__" "Region.__eq__" (defArgs s_Region___eq) (defBody s_Region___eq) (defScope s_Region___eq) .none kV_Region___eq dc_Region___eq pm_Region___eq an_Region___eq cd_Region___eq ct_Region___eq, f_Region___bool := f_Region___bool, d_Region___bool := PySem.W.fnOf "__bool__" "Region.__bool__" (defArgs s_Region___bool) (defBody s_Region___bool) (defScope s_Region___bool) .none kV_Region___bool dc_Region___bool pm_Region___bool an_Region___bool cd_Region___bool ct_Region___bool, f_Region_within := f_Region_within, d_Region_within := PySem.W.fnOf "within" "Region.within" (defArgs s_Region_within) (defBody s_Region_within) (defScope s_Region_within) .none kV_Region_within dc_Region_within pm_Region_within an_Region_within cd_Region_within ct_Region_within, f_l_start := f_l_start, d_l_start := PySem.W.fnOf "_law_start" "_law_start" (defArgs s_l_start) (defBody s_l_start) (defScope s_l_start) .none kV_l_start dc_l_start pm_l_start an_l_start cd_l_start ct_l_start, f_l_draw := f_l_draw, d_l_draw := PySem.W.fnOf "_law_draw" "_law_draw" (defArgs s_l_draw) (defBody s_l_draw) (defScope s_l_draw) .none kV_l_draw dc_l_draw pm_l_draw an_l_draw cd_l_draw ct_l_draw, f_l_end := f_l_end, d_l_end := PySem.W.fnOf "_law_end" "_law_end" (defArgs s_l_end) (defBody s_l_end) (defScope s_l_end) .none kV_l_end dc_l_end pm_l_end an_l_end cd_l_end ct_l_end, f_l_base := f_l_base, d_l_base := PySem.W.fnOf "_law_base" "_law_base" (defArgs s_l_base) (defBody s_l_base) (defScope s_l_base) .none kV_l_base dc_l_base pm_l_base an_l_base cd_l_base ct_l_base, f_l_parts := f_l_parts, d_l_parts := PySem.W.fnOf "_law_parts" "_law_parts" (defArgs s_l_parts) (defBody s_l_parts) (defScope s_l_parts) .none kV_l_parts dc_l_parts pm_l_parts an_l_parts cd_l_parts ct_l_parts, f_l_in_part := f_l_in_part, d_l_in_part := PySem.W.fnOf "_law_in_part" "_law_in_part" (defArgs s_l_in_part) (defBody s_l_in_part) (defScope s_l_in_part) .none kV_l_in_part dc_l_in_part pm_l_in_part an_l_in_part cd_l_in_part ct_l_in_part, f_l_window := f_l_window, d_l_window := PySem.W.fnOf "_law_window" "_law_window" (defArgs s_l_window) (defBody s_l_window) (defScope s_l_window) .none kV_l_window dc_l_window pm_l_window an_l_window cd_l_window ct_l_window, f_l_moved := f_l_moved, d_l_moved := PySem.W.fnOf "_law_moved" "_law_moved" (defArgs s_l_moved) (defBody s_l_moved) (defScope s_l_moved) .none kV_l_moved dc_l_moved pm_l_moved an_l_moved cd_l_moved ct_l_moved, f_l_spelled := f_l_spelled, d_l_spelled := PySem.W.fnOf "_law_spelled" "_law_spelled" (defArgs s_l_spelled) (defBody s_l_spelled) (defScope s_l_spelled) .none kV_l_spelled dc_l_spelled pm_l_spelled an_l_spelled cd_l_spelled ct_l_spelled, f_l_second := f_l_second, d_l_second := PySem.W.fnOf "_law_second" "_law_second" (defArgs s_l_second) (defBody s_l_second) (defScope s_l_second) .none kV_l_second dc_l_second pm_l_second an_l_second cd_l_second ct_l_second, f_l_within := f_l_within, d_l_within := PySem.W.fnOf "_law_within" "_law_within" (defArgs s_l_within) (defBody s_l_within) (defScope s_l_within) .none kV_l_within dc_l_within pm_l_within an_l_within cd_l_within ct_l_within, f_l_told := f_l_told, d_l_told := PySem.W.fnOf "_law_told" "_law_told" (defArgs s_l_told) (defBody s_l_told) (defScope s_l_told) .none kV_l_told dc_l_told pm_l_told an_l_told cd_l_told ct_l_told, f_law := fa, d_law := PySem.W.fnOf "law" "law" (defArgs s_law) (defBody s_law) (defScope s_law) .none kV_law dc_law pm_law an_law cd_law ct_law, C_Region := C_Region } := { F_between := fun_mk (st := s_between) l_between c_between k_between, g_between := PySem.W.mg_of X G a_between, n_between := (fun_mk (st := s_between) l_between c_between k_between).binds (ps := ["low", "high", "number"]) fun _ _ _ _ _ _ us hl => match us, hl with | [_, _, _], _ => rfl, F_one_form := fun_mk (st := s_one_form) l_one_form c_one_form k_one_form, g_one_form := PySem.W.mg_of X G a_one_form, n_one_form := (fun_mk (st := s_one_form) l_one_form c_one_form k_one_form).binds (ps := ["low", "high", "without"]) fun _ _ _ _ _ _ us hl => match us, hl with | [_, _, _], _ => rfl, F_size_of := fun_mk (st := s_size_of) l_size_of c_size_of k_size_of, g_size_of := PySem.W.mg_of X G a_size_of, n_size_of := (fun_mk (st := s_size_of) l_size_of c_size_of k_size_of).binds (ps := ["low", "high", "without"]) fun _ _ _ _ _ _ us hl => match us, hl with | [_, _, _], _ => rfl, F_Region___init := FD_Region___init, t_Region___init_2 := ⟨_, _, le_Region___init_2, rfl, rfl⟩, n_Region___init_0 := n_Region___init_0, v_Region___init_0 := v_Region___init_0, n_Region___init_2 := n_Region___init_2, v_Region___init_2 := v_Region___init_2, n_Region___init_3 := n_Region___init_3, v_Region___init_3 := v_Region___init_3, F_meet := fun_mk (st := s_meet) l_meet c_meet k_meet, g_meet := PySem.W.mg_of X G a_meet, n_meet := (fun_mk (st := s_meet) l_meet c_meet k_meet).binds (ps := ["regions"]) fun _ _ _ _ _ _ us hl => match us, hl with | [_], _ => rfl, F_Region___eq := fun_mk (st := s_Region___eq) l_Region___eq c_Region___eq k_Region___eq, n_Region___eq := (fun_mk (st := s_Region___eq) l_Region___eq c_Region___eq k_Region___eq).binds (ps := ["self", "other"]) fun _ _ _ _ _ _ us hl => match us, hl with | [_, _], _ => rfl, F_Region___bool := fun_mk (st := s_Region___bool) l_Region___bool c_Region___bool k_Region___bool, n_Region___bool := (fun_mk (st := s_Region___bool) l_Region___bool c_Region___bool k_Region___bool).binds (ps := ["self"]) fun _ _ _ _ _ _ us hl => match us, hl with | [_], _ => rfl, F_Region_within := fun_mk (st := s_Region_within) l_Region_within c_Region_within k_Region_within, n_Region_within := (fun_mk (st := s_Region_within) l_Region_within c_Region_within k_Region_within).binds (ps := ["self", "other"]) fun _ _ _ _ _ _ us hl => match us, hl with | [_, _], _ => rfl, F_l_start := fun_mk (st := s_l_start) l_l_start c_l_start k_l_start, g_l_start := PySem.W.mg_of X G a_l_start, n_l_start := (fun_mk (st := s_l_start) l_l_start c_l_start k_l_start).binds (ps := ["_law_script"]) fun _ _ _ _ _ _ us hl => match us, hl with | [_], _ => rfl, F_l_draw := fun_mk (st := s_l_draw) l_l_draw c_l_draw k_l_draw, g_l_draw := PySem.W.mg_of X G a_l_draw, n_l_draw := (fun_mk (st := s_l_draw) l_l_draw c_l_draw k_l_draw).binds (ps := ["_law_state", "_law_many"]) fun _ _ _ _ _ _ us hl => match us, hl with | [_, _], _ => rfl, F_l_end := fun_mk (st := s_l_end) l_l_end c_l_end k_l_end, g_l_end := PySem.W.mg_of X G a_l_end, n_l_end := (fun_mk (st := s_l_end) l_l_end c_l_end k_l_end).binds (ps := ["_law_state", "_law_base_here"]) fun _ _ _ _ _ _ us hl => match us, hl with | [_, _], _ => rfl, F_l_base := fun_mk (st := s_l_base) l_l_base c_l_base k_l_base, g_l_base := PySem.W.mg_of X G a_l_base, n_l_base := (fun_mk (st := s_l_base) l_l_base c_l_base k_l_base).binds (ps := ["_law_state"]) fun _ _ _ _ _ _ us hl => match us, hl with | [_], _ => rfl, F_l_parts := fun_mk (st := s_l_parts) l_l_parts c_l_parts k_l_parts, g_l_parts := PySem.W.mg_of X G a_l_parts, n_l_parts := (fun_mk (st := s_l_parts) l_l_parts c_l_parts k_l_parts).binds (ps := ["_law_state", "_law_base_here"]) fun _ _ _ _ _ _ us hl => match us, hl with | [_, _], _ => rfl, F_l_in_part := fun_mk (st := s_l_in_part) l_l_in_part c_l_in_part k_l_in_part, g_l_in_part := PySem.W.mg_of X G a_l_in_part, n_l_in_part := (fun_mk (st := s_l_in_part) l_l_in_part c_l_in_part k_l_in_part).binds (ps := ["_law_part", "_law_number"]) fun _ _ _ _ _ _ us hl => match us, hl with | [_, _], _ => rfl, F_l_window := fun_mk (st := s_l_window) l_l_window c_l_window k_l_window, g_l_window := PySem.W.mg_of X G a_l_window, n_l_window := (fun_mk (st := s_l_window) l_l_window c_l_window k_l_window).binds (ps := ["_law_base_here"]) fun _ _ _ _ _ _ us hl => match us, hl with | [_], _ => rfl, F_l_moved := fun_mk (st := s_l_moved) l_l_moved c_l_moved k_l_moved, g_l_moved := PySem.W.mg_of X G a_l_moved, n_l_moved := (fun_mk (st := s_l_moved) l_l_moved c_l_moved k_l_moved).binds (ps := ["_law_state", "_law_part"]) fun _ _ _ _ _ _ us hl => match us, hl with | [_, _], _ => rfl, F_l_spelled := fun_mk (st := s_l_spelled) l_l_spelled c_l_spelled k_l_spelled, g_l_spelled := PySem.W.mg_of X G a_l_spelled, n_l_spelled := (fun_mk (st := s_l_spelled) l_l_spelled c_l_spelled k_l_spelled).binds (ps := ["_law_state", "_law_part", "_law_base_here"]) fun _ _ _ _ _ _ us hl => match us, hl with | [_, _, _], _ => rfl, F_l_second := fun_mk (st := s_l_second) l_l_second c_l_second k_l_second, g_l_second := PySem.W.mg_of X G a_l_second, n_l_second := (fun_mk (st := s_l_second) l_l_second c_l_second k_l_second).binds (ps := ["_law_state", "_law_part", "_law_base_here"]) fun _ _ _ _ _ _ us hl => match us, hl with | [_, _, _], _ => rfl, F_l_within := fun_mk (st := s_l_within) l_l_within c_l_within k_l_within, g_l_within := PySem.W.mg_of X G a_l_within, n_l_within := (fun_mk (st := s_l_within) l_l_within c_l_within k_l_within).binds (ps := ["_law_one", "_law_two", "_law_base_here"]) fun _ _ _ _ _ _ us hl => match us, hl with | [_, _, _], _ => rfl, F_l_told := fun_mk (st := s_l_told) l_l_told c_l_told k_l_told, g_l_told := PySem.W.mg_of X G a_l_told, n_l_told := (fun_mk (st := s_l_told) l_l_told c_l_told k_l_told).binds (ps := ["_law_actual", "_law_expected"]) fun _ _ _ _ _ _ us hl => match us, hl with | [_, _], _ => rfl, F_law := fun_mk (st := s_law) l_law c_law k_law, g_law := PySem.W.mg_of X G a_law, n_law := (fun_mk (st := s_law) l_law c_law k_law).binds (ps := ["_law_script"]) fun _ _ _ _ _ _ us hl => match us, hl with | [_], _ => rfl, b_bool := PySem.W.mg_none_of X G z_bool, b_int := PySem.W.mg_none_of X G z_int, b_isinstance := PySem.W.mg_none_of X G z_isinstance, b_len := PySem.W.mg_none_of X G z_len, b_list := PySem.W.mg_none_of X G z_list, b_max := PySem.W.mg_none_of X G z_max, b_min := PySem.W.mg_none_of X G z_min, b_range := PySem.W.mg_none_of X G z_range, b_set := PySem.W.mg_none_of X G z_set, b_sorted := PySem.W.mg_none_of X G z_sorted, b_tuple := PySem.W.mg_none_of X G z_tuple, g_Region := PySem.W.mg_of X G aC_Region, cl_Region := ⟨pg_Region, hd_Region, po_Region, sa_Region⟩, na_Region_low := na_Region_low, na_Region_high := na_Region_high, na_Region_without := na_Region_without, na_Region_size := na_Region_size, na_Region_value := na_Region_value, na_Region__gaps := na_Region__gaps, M_Region := ⟨mk_Region, a_Region___init, i_Region___init, kc_Region⟩, ct_Region := ⟨⟨pg_Region, hd_Region, po_Region, sa_Region⟩, ca_Region, cn_, ct_, cm_Region⟩, q_Region_Region := qq_Region_Region, q_tuple_Region := qq_tuple_Region, q_NoneType_Region := qq_NoneType_Region, q_int_Region := qq_int_Region, me_Region___eq := ⟨a_Region___eq, i_Region___eq, k_Region___eq⟩, nf_Region_Region := qnf_Region_Region, me_Region_within := ⟨a_Region_within, i_Region_within, k_Region_within⟩, nn_Region := ⟨ne_Region, po_Region⟩, nf_Region_tuple := qnf_Region_tuple, nf_Region_NoneType := qnf_Region_NoneType, nf_Region_int := qnf_Region_int, me_Region___bool := ⟨a_Region___bool, i_Region___bool, k_Region___bool⟩ }
  exact ⟨_, fun s v => .of_eq rfl, fun base _ _ => ok_law T⟩
end Law
open PySem PySem.W PyProof.Rows
set_option maxRecDepth 100000 in
set_option maxHeartbeats 0 in
theorem PySem.Challenge.cw_shownwrites_k02_region_within_holds : PySem.Challenge.rw_shownwrites_k02_region_within.Holds := by
  w_on; o_law; k_head; (case hw => w_witness2)
  k_fill
  refine L2.walk_of (n := 63) (k := 7) (x := "_law_script") (CX := fun _ => L2.CX0) (sp := fun w => G.SpL (G.w1 (G.rScr _)) G.rBool (fun x => Law.m_law x)) rfl (by decide) rfl ⟨rfl, by decide, by decide⟩ (fun w h Y => PySem.W.kIn_of Y) ?F (fun w H a ns hl _ hS => ⟨H, ns, true, L2.Same.refl _, ⟨_, rfl, a, rfl, hS⟩, Law.law_true ns hl, fun H2 B2 v P k => k⟩) fun _ _ _ _ _ z => z
  case F =>
    intro w mg fa h KX G hmg
    refine' Law.all_mk KX G hmg ?aC_Region ?a_between ?l_between ?c_between ?k_between ?a_one_form ?l_one_form ?c_one_form ?k_one_form ?a_size_of ?l_size_of ?c_size_of ?k_size_of ?a_Region___init ?l_Region___init ?c_Region___init ?k_Region___init ?lT_Region___init ?le_Region___init_2 ?i_Region___init ?a_meet ?l_meet ?c_meet ?k_meet ?a_Region___eq ?l_Region___eq ?c_Region___eq ?k_Region___eq ?i_Region___eq ?a_Region___bool ?l_Region___bool ?c_Region___bool ?k_Region___bool ?i_Region___bool ?a_Region_within ?l_Region_within ?c_Region_within ?k_Region_within ?i_Region_within ?a_l_start ?l_l_start ?c_l_start ?k_l_start ?a_l_draw ?l_l_draw ?c_l_draw ?k_l_draw ?a_l_end ?l_l_end ?c_l_end ?k_l_end ?a_l_base ?l_l_base ?c_l_base ?k_l_base ?a_l_parts ?l_l_parts ?c_l_parts ?k_l_parts ?a_l_in_part ?l_l_in_part ?c_l_in_part ?k_l_in_part ?a_l_window ?l_l_window ?c_l_window ?k_l_window ?a_l_moved ?l_l_moved ?c_l_moved ?k_l_moved ?a_l_spelled ?l_l_spelled ?c_l_spelled ?k_l_spelled ?a_l_second ?l_l_second ?c_l_second ?k_l_second ?a_l_within ?l_l_within ?c_l_within ?k_l_within ?a_l_told ?l_l_told ?c_l_told ?k_l_told ?a_law ?l_law ?c_law ?k_law ?z_bool ?z_int ?z_isinstance ?z_len ?z_list ?z_max ?z_min ?z_range ?z_set ?z_sorted ?z_tuple ?pg_Region ?hd_Region ?po_Region ?sa_Region ?na_Region_low ?na_Region_high ?na_Region_without ?na_Region_size ?na_Region_value ?na_Region__gaps ?mk_Region ?kc_Region ?ca_Region ?cn_ ?ct_ ?cm_Region ?qq_Region_Region ?qq_tuple_Region ?qq_NoneType_Region ?qq_int_Region ?qnf_Region_Region ?ne_Region ?qnf_Region_tuple ?qnf_Region_NoneType ?qnf_Region_int
    (case aC_Region => first | k_is | rfl)
    (case a_between => first | k_is | rfl)
    (case l_between => first | k_is | rfl)
    (case c_between => first | k_is | rfl)
    (case k_between => first | k_is | rfl)
    (case a_one_form => first | k_is | rfl)
    (case l_one_form => first | k_is | rfl)
    (case c_one_form => first | k_is | rfl)
    (case k_one_form => first | k_is | rfl)
    (case a_size_of => first | k_is | rfl)
    (case l_size_of => first | k_is | rfl)
    (case c_size_of => first | k_is | rfl)
    (case k_size_of => first | k_is | rfl)
    (case a_Region___init => first | k_is | rfl)
    (case l_Region___init => first | k_is | rfl)
    (case c_Region___init => first | k_is | rfl)
    (case k_Region___init => first | k_is | rfl)
    (case lT_Region___init => first | k_is | rfl)
    (case le_Region___init_2 => first | k_is | rfl)
    (case i_Region___init => first | k_is | rfl)
    (case a_meet => first | k_is | rfl)
    (case l_meet => first | k_is | rfl)
    (case c_meet => first | k_is | rfl)
    (case k_meet => first | k_is | rfl)
    (case a_Region___eq => first | k_is | rfl)
    (case l_Region___eq => first | k_is | rfl)
    (case c_Region___eq => first | k_is | rfl)
    (case k_Region___eq => first | k_is | rfl)
    (case i_Region___eq => first | k_is | rfl)
    (case a_Region___bool => first | k_is | rfl)
    (case l_Region___bool => first | k_is | rfl)
    (case c_Region___bool => first | k_is | rfl)
    (case k_Region___bool => first | k_is | rfl)
    (case i_Region___bool => first | k_is | rfl)
    (case a_Region_within => first | k_is | rfl)
    (case l_Region_within => first | k_is | rfl)
    (case c_Region_within => first | k_is | rfl)
    (case k_Region_within => first | k_is | rfl)
    (case i_Region_within => first | k_is | rfl)
    (case a_l_start => first | k_is | rfl)
    (case l_l_start => first | k_is | rfl)
    (case c_l_start => first | k_is | rfl)
    (case k_l_start => first | k_is | rfl)
    (case a_l_draw => first | k_is | rfl)
    (case l_l_draw => first | k_is | rfl)
    (case c_l_draw => first | k_is | rfl)
    (case k_l_draw => first | k_is | rfl)
    (case a_l_end => first | k_is | rfl)
    (case l_l_end => first | k_is | rfl)
    (case c_l_end => first | k_is | rfl)
    (case k_l_end => first | k_is | rfl)
    (case a_l_base => first | k_is | rfl)
    (case l_l_base => first | k_is | rfl)
    (case c_l_base => first | k_is | rfl)
    (case k_l_base => first | k_is | rfl)
    (case a_l_parts => first | k_is | rfl)
    (case l_l_parts => first | k_is | rfl)
    (case c_l_parts => first | k_is | rfl)
    (case k_l_parts => first | k_is | rfl)
    (case a_l_in_part => first | k_is | rfl)
    (case l_l_in_part => first | k_is | rfl)
    (case c_l_in_part => first | k_is | rfl)
    (case k_l_in_part => first | k_is | rfl)
    (case a_l_window => first | k_is | rfl)
    (case l_l_window => first | k_is | rfl)
    (case c_l_window => first | k_is | rfl)
    (case k_l_window => first | k_is | rfl)
    (case a_l_moved => first | k_is | rfl)
    (case l_l_moved => first | k_is | rfl)
    (case c_l_moved => first | k_is | rfl)
    (case k_l_moved => first | k_is | rfl)
    (case a_l_spelled => first | k_is | rfl)
    (case l_l_spelled => first | k_is | rfl)
    (case c_l_spelled => first | k_is | rfl)
    (case k_l_spelled => first | k_is | rfl)
    (case a_l_second => first | k_is | rfl)
    (case l_l_second => first | k_is | rfl)
    (case c_l_second => first | k_is | rfl)
    (case k_l_second => first | k_is | rfl)
    (case a_l_within => first | k_is | rfl)
    (case l_l_within => first | k_is | rfl)
    (case c_l_within => first | k_is | rfl)
    (case k_l_within => first | k_is | rfl)
    (case a_l_told => first | k_is | rfl)
    (case l_l_told => first | k_is | rfl)
    (case c_l_told => first | k_is | rfl)
    (case k_l_told => first | k_is | rfl)
    (case a_law => first | k_is | rfl)
    (case l_law => first | k_is | rfl)
    (case c_law => first | k_is | rfl)
    (case k_law => first | k_is | rfl)
    (case z_bool => first | k_is | rfl)
    (case z_int => first | k_is | rfl)
    (case z_isinstance => first | k_is | rfl)
    (case z_len => first | k_is | rfl)
    (case z_list => first | k_is | rfl)
    (case z_max => first | k_is | rfl)
    (case z_min => first | k_is | rfl)
    (case z_range => first | k_is | rfl)
    (case z_set => first | k_is | rfl)
    (case z_sorted => first | k_is | rfl)
    (case z_tuple => first | k_is | rfl)
    (case pg_Region => first | k_is | rfl)
    (case hd_Region => first | k_is | rfl)
    (case po_Region => first | k_is | rfl)
    (case sa_Region => first | k_is | rfl)
    (case na_Region_low => first | k_is | rfl)
    (case na_Region_high => first | k_is | rfl)
    (case na_Region_without => first | k_is | rfl)
    (case na_Region_size => first | k_is | rfl)
    (case na_Region_value => first | k_is | rfl)
    (case na_Region__gaps => first | k_is | rfl)
    (case mk_Region => first | k_is | rfl)
    (case kc_Region => first | k_is | rfl)
    (case ca_Region => first | k_is | rfl)
    (case cn_ => first | k_is | rfl)
    (case ct_ => first | k_is | rfl)
    (case cm_Region => first | k_is | rfl)
    (case qq_Region_Region => first | k_is | rfl)
    (case qq_tuple_Region => first | k_is | rfl)
    (case qq_NoneType_Region => first | k_is | rfl)
    (case qq_int_Region => first | k_is | rfl)
    (case qnf_Region_Region => first | k_is | rfl)
    (case ne_Region => first | k_is | rfl)
    (case qnf_Region_tuple => first | k_is | rfl)
    (case qnf_Region_NoneType => first | k_is | rfl)
    (case qnf_Region_int => first | k_is | rfl)

