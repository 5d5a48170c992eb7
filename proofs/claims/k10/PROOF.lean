import PyProof.Rows.All
import Wide.All
import OpenK.AllK
import Wide.FinOn
import HandS.ForMost
import HandS.ForExc
import HandS.Lambda
import HandS.Wide
import HandS.Codes
import HandS.Conv
import HandS.Steps
import HandS.Evl
import HandS.ExcInit
import HandS.ExcField
import HandS.TryOnly
import HandS.Strs
import HandS.ExcOwn
import HandS.WordsExc
import HandS.IsInst
import HandS.Zip
import HandS.SlotsOwn
import HandS.SetFor
import HandS.ClsMeth
import HandS.DictComp
import HandS.Defaults
import HandS.ExcIs
import KE.KExcIs
import HandS.Text
import PyProof.LongRange
import HandS.SortKw
import KE.DatumOrd
import HandS.MakeKwOnly
import HandS.MakeKw
import PyProof.Conv_bool
import HandS.Star
import HandS.FStr
import KE.KCallOwn
import HandS.Style
import HandS.SortInts
import PyProof.InstNe
import HandS.More
import KE.GoesMore
import KE.KeyNested
import KE.KDictKeyed
import HandS.Iter
import HandS.TupSets
import KE.LtSeq
import HandS.Deep
import HandS.TupAny
import KE.KOpsOwn
import HandS.Property
import HandS.TryMany
import HandS.Records
import KE.SortKeyHeap
import HandS.EndTab
import KE.KNestM
import PySem.Challenge.RW_shownwrites_k10_edit_changes
set_option Elab.async false
set_option autoImplicit false
set_option linter.all false
set_option maxRecDepth 100000
set_option maxHeartbeats 4000000
/-! # G: what stands for what; frames; what an expression gives -/
namespace G
open PySem PySem.Spec PyProof.Rows L2

/-- a value and the datum it stands for, over a heap that only grows -/
structure Rp (α : Type) where
  rel : Hp → V → α → Prop
  mono : ∀ {H H' : Hp} {v : V} {a : α}, Same H H' → rel H v a → rel H' v a
/-- an object and the datum it stands for -/
structure Cl (α : Type) where
  ok : Hp → HO → α → Prop
  mono : ∀ {H H' : Hp} {o : HO} {a : α}, Same H H' → ok H o a → ok H' o a
/-- a row of values -/
structure Rw (α : Type) where
  rel : Hp → List V → α → Prop
  mono : ∀ {H H' : Hp} {vs : List V} {a : α}, Same H H' → rel H vs a → rel H' vs a

def rInt : Rp Int := ⟨fun _ v i => v = .int i, fun _ h => h⟩
def rBool : Rp Bool := ⟨fun _ v b => v = .bl b, fun _ h => h⟩
def rStr : Rp Str := ⟨fun _ v z => v = .str z, fun _ h => h⟩
def rNon : Rp Unit := ⟨fun _ v _ => v = .non, fun _ h => h⟩
def rOpt {α : Type} (r : Rp α) : Rp (Option α) := ⟨fun H v o => match o with
  | none => v = .non
  | some a => r.rel H v a ∧ v ≠ .non, fun {H H' v o} s h => by
    cases o with
    | none => exact h
    | some a => exact ⟨r.mono s h.1, h.2⟩⟩
def rOb {α : Type} (c : Cl α) : Rp α := ⟨fun H v a => ∃ p o, v = .ref p ∧ H p = some o ∧ c.ok H o a, fun s ⟨p, o, e, h, k⟩ => ⟨p, o, e, s p o h, c.mono s k⟩⟩
theorem Paired.monoR {α : Type} {r : Rp α} {H H' : Hp} (s : Same H H') : ∀ {vs : List V} {xs : List α}, Paired (r.rel H) vs xs → Paired (r.rel H') vs xs
  | _, _, .nil => .nil
  | _, _, .cons h t => .cons (r.mono s h) (Paired.monoR s t)
def cLst {α : Type} (r : Rp α) : Cl (List α) := ⟨fun H o xs => ∃ vs, o = .lst vs ∧ Paired (r.rel H) vs xs, fun s ⟨vs, e, h⟩ => ⟨vs, e, Paired.monoR s h⟩⟩
def cTpl {α : Type} (r : Rp α) : Cl (List α) := ⟨fun H o xs => ∃ vs, o = .tup vs ∧ Paired (r.rel H) vs xs, fun s ⟨vs, e, h⟩ => ⟨vs, e, Paired.monoR s h⟩⟩
def cTup {α : Type} (w : Rw α) : Cl α := ⟨fun H o a => ∃ vs, o = .tup vs ∧ w.rel H vs a, fun s ⟨vs, e, h⟩ => ⟨vs, e, w.mono s h⟩⟩
def cHls {α : Type} (w : Rw α) : Cl α := ⟨fun H o a => ∃ vs, o = .lst vs ∧ w.rel H vs a, fun s ⟨vs, e, h⟩ => ⟨vs, e, w.mono s h⟩⟩
def rLst {α : Type} (r : Rp α) : Rp (List α) := rOb (cLst r)
def rTpl {α : Type} (r : Rp α) : Rp (List α) := rOb (cTpl r)
def rTup {α : Type} (w : Rw α) : Rp α := rOb (cTup w)
def rHls {α : Type} (w : Rw α) : Rp α := rOb (cHls w)
def w0 : Rw Unit := ⟨fun _ vs _ => vs = [], fun _ h => h⟩
def w1 {α : Type} (r : Rp α) : Rw α := ⟨fun H vs a => ∃ v, vs = [v] ∧ r.rel H v a, fun s ⟨v, e, h⟩ => ⟨v, e, r.mono s h⟩⟩
def wC {α β : Type} (r : Rp α) (w : Rw β) : Rw (α × β) := ⟨fun H vs a => ∃ v t, vs = v :: t ∧ r.rel H v a.1 ∧ w.rel H t a.2, fun s ⟨v, t, e, h, k⟩ => ⟨v, t, e, r.mono s h, w.mono s k⟩⟩

/-- a value that stands for a datum and owns objects of its own -/
structure Tr (α : Type) where
  ok : Hp → Hp → (Addr → Prop) → V → α → Prop
  mono : ∀ {B B' H H' : Hp} {o o' : Addr → Prop} {v : V} {a : α}, Same B B' → (∀ p u, o p → H p = some u → H' p = some u) → (∀ p, o p → o' p) → ok B H o v a → ok B' H' o' v a
/-- what a slot holds: nothing that is known; a value; a list (dict ..) of the frame's own, at an address, that may change; a value with objects of the frame's own -/
inductive Sl : Type 1 where
  | no
  | imm {α : Type} (r : Rp α) (a : α)
  | cel {α : Type} (p : Addr) (c : Cl α) (a : α)
  | tre {α : Type} (v : V) (c : Tr α) (a : α)

/-- where a def began: what stood, what stood and was known to be fixed, what it may change -/
structure Amb where
  B0 : Hp
  H0 : Hp
  m : Addr → Prop
  φ : Hp → Prop
  up : ∀ B B', Same B B' → φ B → φ B'
def Amb.add (A : Amb) (p : Addr) (o : HO) : Amb := ⟨A.B0, upd A.H0 p o, A.m, A.φ, A.up⟩
/-- the tables of code objects: where they stand, and the name that their code objects bear -/
class TabL where
  T : List (Addr × Str)
section
variable [TabL]
def isTab (p : Addr) : Prop := ∃ q, (p, q) ∈ TabL.T
structure TabOk (H B : Hp) : Prop where
  at_ : ∀ p q, (p, q) ∈ TabL.T → ∃ ps : Array Value, H p = some (.tbl ps) ∧ TriplesOk ps.toList ∧ ∀ (pos : Pos) (cv : Value), codeAmong pos ps.toList = some cv → ∃ c, cv = .ref c ∧ B c = some (LamX.CodeO c q)
  no : ∀ p, isTab p → B p = none
theorem TabOk.ne {H B : Hp} {p : Addr} (t : TabOk H B) (h : H p = none) : ¬ isTab p := fun ⟨q, m⟩ => by
  obtain ⟨ps, e, _⟩ := t.at_ p q m
  rw [h] at e; cases e
theorem TabOk.nt {H B : Hp} {p : Addr} {o : HO} (t : TabOk H B) (h : H p = some o) (ho : ∀ ps, o ≠ .tbl ps) : ¬ isTab p := fun ⟨q, m⟩ => by
  obtain ⟨ps, e, _⟩ := t.at_ p q m
  rw [h] at e; exact ho _ (Option.some.inj e)
theorem TabOk.nb {H B : Hp} {p : Addr} {o : HO} (t : TabOk H B) (h : B p = some o) : ¬ isTab p := fun m => by
  rw [t.no p m] at h; cases h
theorem TabOk.to {H H' B B' : Hp} (t : TabOk H B) (h : ∀ p, isTab p → H' p = H p) (b : Same B B') (n : ∀ p, isTab p → B' p = none) : TabOk H' B' := ⟨fun p q m => by
  obtain ⟨ps, e, k, z⟩ := t.at_ p q m
  exact ⟨ps, by rw [h p ⟨q, m⟩]; exact e, k, fun pos cv hc => by
    obtain ⟨c, e1, e2⟩ := z pos cv hc
    exact ⟨c, e1, b c _ e2⟩⟩, n⟩
theorem TabOk.fix {H B : Hp} {p : Addr} {o : HO} (t : TabOk H B) (bb : Same B (L2.upd B p o)) (h : ¬ isTab p) : TabOk H (L2.upd B p o) := t.to (fun _ _ => rfl) bb fun q m => by rw [upd_ne (show q ≠ p from fun z => h (by rw [← z]; exact m))]; exact t.no q m
theorem TabOk.upd {H B : Hp} {p : Addr} {o : HO} (t : TabOk H B) (h : ¬ isTab p) : TabOk (upd H p o) B := t.to (fun q m => by rw [upd_ne (show q ≠ p from fun z => h (by rw [← z]; exact m))]) (fun _ _ e => e) t.no
end
/-- no object is too large -/
def szO : HO → Prop
  | .lst xs => xs.length ≤ sizeLine
  | .tup xs => xs.length ≤ sizeLine
  | .dK kvs => kvs.length ≤ sizeLine
  | .dT kvs => kvs.length ≤ sizeLine
  | _ => True
def Sz (H : Hp) : Prop := ∀ p o, H p = some o → szO o
theorem Sz.upd {H : Hp} {p : Addr} {o : HO} (h : Sz H) (ho : szO o) : Sz (upd H p o) := fun q u e => by
  by_cases hq : q = p
  · subst hq; rw [upd_same] at e; cases e; exact ho
  · rw [upd_ne hq] at e; exact h q u e

/-- what a slot knows; o: what it may own -/
def SlO (σ : L2.St) (H B : Hp) (o : Addr → Prop) (i : Nat) : Sl → Prop
  | .no => True
  | .imm r a => ∃ v, σ[i]? = some (some v) ∧ r.rel B v a
  | .cel p c a => σ[i]? = some (some (V.ref p)) ∧ o p ∧ ∃ u, H p = some u ∧ c.ok B u a
  | .tre v c a => σ[i]? = some (some v) ∧ c.ok B H o v a
/-- an object that may change -/
def Hot (A : Amb) (H B : Hp) (p : Addr) : Prop := B p = none ∧ H p ≠ none ∧ (A.H0 p = none ∨ A.m p)
def SlOk (A : Amb) (σ : L2.St) (H B : Hp) (i : Nat) : Sl → Prop
  | .no => True
  | .imm r a => ∃ v, σ[i]? = some (some v) ∧ r.rel B v a
  | .cel p c a => σ[i]? = some (some (V.ref p)) ∧ B p = none ∧ (A.H0 p = none ∨ A.m p) ∧ ∃ o, H p = some o ∧ c.ok B o a
  | .tre v c a => σ[i]? = some (some v) ∧ ∃ o : Addr → Prop, (∀ p, o p → Hot A H B p) ∧ c.ok B H o v a
def celAt : Sl → Option Addr
  | .cel p _ _ => some p
  | _ => none
/-- owns nothing -/
def plain : Sl → Prop
  | .no => True
  | .imm _ _ => True
  | _ => False

/-- what may change stands, and is no table; the tables stand -/
structure MH [TabL] (A : Amb) : Prop where
  al : ∀ p, A.m p → A.H0 p ≠ none
  nt : ∀ p, A.m p → ¬ isTab p
  tb : ∀ p, isTab p → A.H0 p ≠ none
/-- what has come since the beginning -/
structure Post [TabL] (A : Amb) (H B : Hp) : Prop where
  bh : Same B H
  b0 : Same A.B0 B
  keep : ∀ p o, ¬ A.m p → ¬ isTab p → A.H0 p = some o → H p = some o
  out : ∀ p, A.H0 p ≠ none → A.B0 p = none → B p = none
  alive : ∀ p, A.H0 p ≠ none → H p ≠ none
  sub : Same A.B0 A.H0
  mh : MH A
  ph : A.φ B
  sz : Sz H
  tb : TabOk H B

/-- who owns what -/
structure Own (A : Amb) (σ : L2.St) (H B : Hp) (Γ : List Sl) (ow : Nat → Addr → Prop) : Prop where
  so : ∀ (i : Nat) (s : Sl), Γ[i]? = some s → SlO σ H B (ow i) i s
  dj : ∀ (i j : Nat) (p : Addr), ow i p → ow j p → i = j
  ht : ∀ (i : Nat) (p : Addr), ow i p → Hot A H B p
structure Frm [TabL] (A : Amb) (σ : L2.St) (H B : Hp) (Γ : List Sl) : Prop extends Post A H B where
  len : σ.length = Γ.length
  own : ∃ ow, Own A σ H B Γ ow

theorem slo_mono {σ σ' : L2.St} {H H' B B' : Hp} {o o' : Addr → Prop} {i : Nat} {s : Sl} (h : SlO σ H B o i s) (e : σ[i]? = σ'[i]?) (b : Same B B') (k : ∀ p u, o p → H p = some u → H' p = some u) (n : ∀ p, o p → o' p) : SlO σ' H' B' o' i s := by
  cases s with
  | no => trivial
  | imm r a => obtain ⟨v, e1, q⟩ := h; exact ⟨v, by rw [← e]; exact e1, r.mono b q⟩
  | cel p c a => obtain ⟨e1, op, u, hu, q⟩ := h; exact ⟨by rw [← e]; exact e1, n p op, u, k p u op hu, c.mono b q⟩
  | tre v c a => obtain ⟨e1, q⟩ := h; exact ⟨by rw [← e]; exact e1, c.mono b k n q⟩
theorem getset {α : Type _} {l : List α} {i j : Nat} {x y : α} (h : (l.set i x)[j]? = some y) : (i = j ∧ y = x ∧ j < l.length) ∨ (i ≠ j ∧ l[j]? = some y) := by
  by_cases e : i = j
  · subst e
    rw [List.getElem?_set] at h
    simp only [if_true] at h
    split at h
    · rename_i hl; cases h; exact .inl ⟨rfl, rfl, hl⟩
    · cases h
  · rw [List.getElem?_set_ne e] at h; exact .inr ⟨e, h⟩
section
variable [TabL]
variable {A A' : Amb} {σ σ' : L2.St} {H H' B B' : Hp} {Γ : List Sl} {p : Addr} {o : HO}
theorem Hot.nt {H B : Hp} (h : Hot A H B p) (m : MH A) : ¬ isTab p := fun z => by
  rcases h.2.2 with q | q
  · exact m.tb p z q
  · exact m.nt p q z
theorem Frm.post (F : Frm A σ H B Γ) : Post A H B := F.toPost
theorem Frm.sl (F : Frm A σ H B Γ) (i : Nat) (s : Sl) (e : Γ[i]? = some s) : SlOk A σ H B i s := by
  obtain ⟨ow, W⟩ := F.own
  have h := W.so i s e
  cases s with
  | no => trivial
  | imm r a => exact h
  | cel p c a => obtain ⟨e1, op, k⟩ := h; exact ⟨e1, (W.ht i p op).1, (W.ht i p op).2.2, k⟩
  | tre v c a => exact ⟨h.1, ow i, fun p q => W.ht i p q, h.2⟩
theorem Frm.hot (F : Frm A σ H B Γ) {i : Nat} {s : Sl} (e : Γ[i]? = some s) {p : Addr} (hp : celAt s = some p) : B p = none ∧ H p ≠ none ∧ (A.H0 p = none ∨ A.m p) := by
  have h := F.sl i s e
  cases s with
  | no => cases hp
  | imm r a => cases hp
  | tre v c a => cases hp
  | cel q c a =>
    cases hp
    obtain ⟨_, n, m, o, ho, _⟩ := h
    exact ⟨n, by rw [ho]; simp, m⟩
theorem Own.cel {ow : Nat → Addr → Prop} (W : Own A σ H B Γ ow) {i : Nat} (e : (Γ[i]?.bind celAt) = some p) : ow i p := by
  cases q : Γ[i]? with
  | none => rw [q] at e; cases e
  | some s =>
    rw [q] at e
    have h := W.so i s q
    cases s with
    | no => cases e
    | imm r a => cases e
    | tre v c a => cases e
    | cel q c a => cases e; exact h.2.1
theorem Frm.ds (F : Frm A σ H B Γ) (i j : Nat) (p : Addr) (ei : (Γ[i]?.bind celAt) = some p) (ej : (Γ[j]?.bind celAt) = some p) : i = j := by
  obtain ⟨ow, W⟩ := F.own
  exact W.dj i j p (W.cel ei) (W.cel ej)
/-- the heap moves on, what is owned stays -/
theorem Frm.move (F : Frm A σ H B Γ) (P : Post A' H' B') (bb : Same B B') (k : ∀ p, Hot A H B p → B' p = none ∧ (A'.H0 p = none ∨ A'.m p) ∧ ∀ u, H p = some u → H' p = some u) : Frm A' σ H' B' Γ := by
  obtain ⟨ow, W⟩ := F.own
  refine ⟨P, F.len, ow, fun i s e => slo_mono (W.so i s e) rfl bb (fun q u oq => (k q (W.ht i q oq)).2.2 u) fun _ z => z, W.dj, fun i q oq => ?_⟩
  have h := W.ht i q oq
  have g := k q h
  refine ⟨g.1, fun z => ?_, g.2.1⟩
  cases e : H q with
  | none => exact h.2.1 e
  | some u => rw [g.2.2 u e] at z; cases z
/-- a slot is stored anew, it owns nothing new -/
theorem Frm.put {i : Nat} {s' : Sl} (F : Frm A σ H B Γ) (hl : σ'.length = σ.length) (e : ∀ j, i ≠ j → σ[j]? = σ'[j]?) (h : ∀ o, i < Γ.length → (∀ s, Γ[i]? = some s → SlO σ H B o i s) → SlO σ' H B o i s') : Frm A σ' H B (Γ.set i s') := by
  obtain ⟨ow, W⟩ := F.own
  refine ⟨F.post, by rw [List.length_set, hl]; exact F.len, ow, fun j s ej => ?_, W.dj, W.ht⟩
  rcases getset ej with ⟨rfl, rfl, hl⟩ | ⟨ne, ej⟩
  · exact h (ow i) hl fun s es => W.so i s es
  · exact slo_mono (W.so j s ej) (e j ne) (Same.refl _) (fun _ _ _ z => z) fun _ z => z
/-- what a slot owns is changed, and it may own more -/
theorem Frm.chg {i : Nat} {s s' : Sl} (F : Frm A σ H B Γ) (e : Γ[i]? = some s) (P : Post A H' B') (bb : Same B B')
    (k : ∀ o : Addr → Prop, (∀ p, o p → Hot A H B p) → SlO σ H B o i s → ∃ o' : Addr → Prop, (∀ q, o' q → o q ∨ ¬ Hot A H B q) ∧ (∀ q, o' q → Hot A H' B' q) ∧ (∀ q, Hot A H B q → ¬ o q → B' q = none ∧ ∀ u, H q = some u → H' q = some u) ∧ SlO σ H' B' o' i s') : Frm A σ H' B' (Γ.set i s') := by
  obtain ⟨ow, W⟩ := F.own
  obtain ⟨o', k1, k2, k3, k4⟩ := k (ow i) (fun q => W.ht i q) (W.so i s e)
  have nq : ∀ j q, i ≠ j → ow j q → ¬ ow i q := fun j q ne h z => ne (W.dj i j q z h)
  refine ⟨P, by rw [List.length_set]; exact F.len, fun j => if j = i then o' else ow j, fun j s ej => ?_, fun j l q hj hl => ?_, fun j q hj => ?_⟩
  · rcases getset ej with ⟨rfl, rfl, _⟩ | ⟨ne, ej⟩
    · rw [if_pos rfl]; exact k4
    · rw [if_neg (Ne.symm ne)]
      exact slo_mono (W.so j s ej) rfl bb (fun q u oq => (k3 q (W.ht j q oq) (nq j q ne oq)).2 u) fun _ z => z
  · by_cases h1 : j = i
    · by_cases h2 : l = i
      · rw [h1, h2]
      · rw [if_pos h1] at hj; rw [if_neg h2] at hl
        rcases k1 q hj with h | h
        · exact absurd h (nq l q (Ne.symm h2) hl)
        · exact absurd (W.ht l q hl) h
    · by_cases h2 : l = i
      · rw [if_neg h1] at hj; rw [if_pos h2] at hl
        rcases k1 q hl with h | h
        · exact absurd h (nq j q (Ne.symm h1) hj)
        · exact absurd (W.ht j q hj) h
      · rw [if_neg h1] at hj; rw [if_neg h2] at hl; exact W.dj j l q hj hl
  · by_cases h1 : j = i
    · rw [if_pos h1] at hj; exact k2 q hj
    · rw [if_neg h1] at hj
      have h := W.ht j q hj
      have g := k3 q h (nq j q (Ne.symm h1) hj)
      refine ⟨g.1, fun z => ?_, h.2.2⟩
      cases e : H q with
      | none => exact h.2.1 e
      | some u => rw [g.2 u e] at z; cases z
theorem set_same {α : Type _} {l : List α} {i : Nat} {x : α} (h : l[i]? = some x) : l.set i x = l := by
  obtain ⟨hi, q⟩ := List.getElem?_eq_some_iff.mp h
  rw [← q, List.set_getElem_self]
/-- a new object beside what is known -/
theorem Frm.fresh (F : Frm A σ H B Γ) (hp : H p = none) (ho : szO o) : Frm (A.add p o) σ (upd H p o) B Γ := by
  refine F.move ?_ (Same.refl _) fun q h => ?_
  · refine ⟨fun b u e => ?_, F.b0, fun b u m nt e => ?_, fun b n z => ?_, fun b n => ?_, fun b u e => ?_, ⟨fun b m => ?_, F.mh.nt, fun b m => ?_⟩, F.ph, F.sz.upd ho, F.tb.upd (F.tb.ne hp)⟩
    · rw [upd_ne (ne_of_none (F.bh b u e) hp)]; exact F.bh b u e
    · by_cases hb : b = p
      · subst hb
        have e' : upd A.H0 b o b = some u := e
        rw [upd_same] at e'; rw [upd_same]; exact e'
      · have e' : upd A.H0 p o b = some u := e
        rw [upd_ne hb] at e'; rw [upd_ne hb]; exact F.keep b u m nt e'
    · by_cases hb : b = p
      · subst hb
        cases q : B b with
        | none => rfl
        | some u => have := F.bh b u q; rw [hp] at this; cases this
      · have n' : upd A.H0 p o b ≠ none := n
        rw [upd_ne hb] at n'
        exact F.out b n' z
    · by_cases hb : b = p
      · subst hb; rw [upd_same]; simp
      · have n' : upd A.H0 p o b ≠ none := n
        rw [upd_ne hb] at n'; rw [upd_ne hb]; exact F.alive b n'
    · have z := F.sub b u e
      have hb : b ≠ p := fun q => by
        subst q
        exact F.alive b (by rw [z]; simp) hp
      show upd A.H0 p o b = some u
      rw [upd_ne hb]; exact z
    · by_cases hb : b = p
      · subst hb; show upd A.H0 b o b ≠ none; rw [upd_same]; simp
      · show upd A.H0 p o b ≠ none; rw [upd_ne hb]; exact F.mh.al b m
    · by_cases hb : b = p
      · subst hb; show upd A.H0 b o b ≠ none; rw [upd_same]; simp
      · show upd A.H0 p o b ≠ none; rw [upd_ne hb]; exact F.mh.tb b m
  · have hq : q ≠ p := fun z => h.2.1 (by rw [z]; exact hp)
    refine ⟨h.1, ?_, fun u e => by rw [upd_ne hq]; exact e⟩
    rcases h.2.2 with m | m
    · exact .inl (by show upd A.H0 p o q = none; rw [upd_ne hq]; exact m)
    · exact .inr m
theorem Frm.H0none (F : Frm A σ H B Γ) (hp : H p = none) : A.H0 p = none := by
  cases q : A.H0 p with
  | none => rfl
  | some u => exact absurd hp (F.alive p (by rw [q]; simp))
theorem Frm.hid (F : Frm (A.add p o) σ H B Γ) (h0 : A.H0 p = none) (mh : MH A) : H p = some o := F.keep p o (fun m => mh.al p m h0) (fun m => mh.tb p m h0) upd_same
theorem Hot.ne {q : Addr} (h : Hot (A.add p o) H B q) (hm : ¬ A.m p) : q ≠ p := fun z => by
  rcases h.2.2 with m | m
  · have m' : upd A.H0 p o q = none := m
    rw [z, upd_same] at m'; cases m'
  · rw [z] at m; exact hm m
theorem Hot.base {q : Addr} (h : Hot (A.add p o) H B q) (h0 : A.H0 p = none) : A.H0 q = none ∨ A.m q := by
  rcases h.2.2 with m | m
  · by_cases hq : q = p
    · exact .inl (by rw [hq]; exact h0)
    · have m' : upd A.H0 p o q = none := m
      rw [upd_ne hq] at m'
      exact .inl m'
  · exact .inr m
/-- the hidden object is forgotten -/
theorem Frm.drop (F : Frm (A.add p o) σ H B Γ) (h0 : A.H0 p = none) (sub : Same A.B0 A.H0) (mh : MH A) : Frm A σ H B Γ := by
  refine F.move ?_ (Same.refl _) fun q h => ⟨h.1, h.base h0, fun _ e => e⟩
  exact ⟨F.bh, F.b0, fun b u m nt e => F.keep b u m nt (by show upd A.H0 p o b = some u; rw [upd_ne (ne_of_none e h0)]; exact e), fun b n z => F.out b (by
    have hb : b ≠ p := fun q => n (by rw [q]; exact h0)
    show upd A.H0 p o b ≠ none; rw [upd_ne hb]; exact n) z, fun b n => F.alive b (by
    have hb : b ≠ p := fun q => n (by rw [q]; exact h0)
    show upd A.H0 p o b ≠ none; rw [upd_ne hb]; exact n), sub, mh, F.ph, F.sz, F.tb⟩
theorem Frm.hidB (F : Frm (A.add p o) σ H B Γ) (h0 : A.H0 p = none) (sub : Same A.B0 A.H0) : B p = none := F.out p (by show upd A.H0 p o p ≠ none; rw [upd_same]; simp) (by
    cases q : A.B0 p with
    | none => exact q
    | some u => exact (absurd (sub p u q) (by rw [h0]; simp)))
/-- the hidden object is among what is fixed -/
theorem Frm.adopt (F : Frm (A.add p o) σ H B Γ) (h0 : A.H0 p = none) (sub : Same A.B0 A.H0) (mh : MH A) : Frm A σ H (upd B p o) Γ := by
  have hm : ¬ A.m p := fun m => mh.al p m h0
  have hHp := F.hid h0 mh
  have hBp : B p = none := F.hidB h0 sub
  have D := (F.drop h0 sub mh).post
  have bb : Same B (upd B p o) := fun b u e => by rw [upd_ne (ne_of_none e hBp)]; exact e
  refine F.move ?_ bb fun q h => ⟨by rw [upd_ne (h.ne hm)]; exact h.1, h.base h0, fun _ e => e⟩
  refine ⟨fun b u e => ?_, fun b u e => bb b u (D.b0 b u e), D.keep, fun b n z => ?_, D.alive, sub, mh, A.up _ _ bb D.ph, D.sz, D.tb.to (fun _ _ => rfl) bb fun q m => by rw [upd_ne (show q ≠ p from fun z => mh.tb q m (by rw [z]; exact h0))]; exact D.tb.no q m⟩
  · by_cases hb : b = p
    · subst hb; rw [upd_same] at e; cases e; exact hHp
    · rw [upd_ne hb] at e; exact D.bh b u e
  · have hb : b ≠ p := fun q => n (by rw [q]; exact h0)
    rw [upd_ne hb]; exact D.out b n z
/-- a slot is stored -/
theorem Frm.set {α : Type} {r : Rp α} {a : α} {v : V} {i : Nat} (F : Frm A σ H B Γ) (h : r.rel B v a) : Frm A (σ.set i (some v)) H B (Γ.set i (.imm r a)) :=
  F.put (List.length_set) (fun j ne => by rw [List.getElem?_set_ne ne]) fun o hl _ => ⟨v, by rw [List.getElem?_set_self (by rw [F.len]; exact hl)], h⟩
/-- new objects are the frame's own, at a slot -/
theorem Frm.owns {i : Nat} {s : Sl} {v : V} (F : Frm A σ H B Γ) (n : Addr → Prop) (P : Post A' H B) (hn : ∀ q, n q → Hot A' H B q ∧ ¬ Hot A H B q) (hh : ∀ q, Hot A H B q → A'.H0 q = none ∨ A'.m q) (k : i < Γ.length → SlO (σ.set i (some v)) H B n i s) : Frm A' (σ.set i (some v)) H B (Γ.set i s) := by
  obtain ⟨ow, W⟩ := F.own
  refine ⟨P, by rw [List.length_set, List.length_set]; exact F.len, fun j => if j = i then n else ow j, fun j s ej => ?_, fun j l q hj hl => ?_, fun j q hj => ?_⟩
  · rcases getset ej with ⟨rfl, rfl, hl⟩ | ⟨ne, ej⟩
    · rw [if_pos rfl]; exact k hl
    · rw [if_neg (Ne.symm ne)]
      exact slo_mono (W.so j s ej) (by rw [List.getElem?_set_ne ne]) (Same.refl _) (fun _ _ _ z => z) fun _ z => z
  · by_cases h1 : j = i
    · by_cases h2 : l = i
      · rw [h1, h2]
      · rw [if_pos h1] at hj; rw [if_neg h2] at hl
        exact absurd (W.ht l q hl) (hn q hj).2
    · by_cases h2 : l = i
      · rw [if_neg h1] at hj; rw [if_pos h2] at hl
        exact absurd (W.ht j q hj) (hn q hl).2
      · rw [if_neg h1] at hj; rw [if_neg h2] at hl; exact W.dj j l q hj hl
  · by_cases h1 : j = i
    · rw [if_pos h1] at hj; exact (hn q hj).1
    · rw [if_neg h1] at hj
      have h := W.ht j q hj
      exact ⟨h.1, h.2.1, hh q h⟩
/-- the hidden object is the frame's own, at a slot -/
theorem Frm.own1 {α : Type} {c : Cl α} {a : α} {i : Nat} (F : Frm (A.add p o) σ H B Γ) (h0 : A.H0 p = none) (sub : Same A.B0 A.H0) (mh : MH A) (k : c.ok B o a) : Frm A (σ.set i (some (.ref p))) H B (Γ.set i (.cel p c a)) := by
  have hm : ¬ A.m p := fun m => mh.al p m h0
  have hHp := F.hid h0 mh
  have hBp : B p = none := F.hidB h0 sub
  refine F.owns (fun q => q = p) (F.drop h0 sub mh).post (fun q e => ?_) (fun q h => h.base h0) fun hl => ⟨by rw [List.getElem?_set_self (by rw [F.len]; exact hl)], rfl, o, hHp, k⟩
  subst e
  exact ⟨⟨hBp, by rw [hHp]; simp, .inl h0⟩, fun h => h.ne hm rfl⟩
/-- what is not known of a slot any more -/
theorem Frm.forget (F : Frm A σ H B Γ) (i : Nat) : Frm A σ H B (Γ.set i .no) := F.put rfl (fun _ _ => rfl) fun _ _ _ => trivial
/-- the frame's own object at a slot is changed -/
theorem Frm.write {α β : Type} {c : Cl α} {c' : Cl β} {a : α} {a' : β} {i : Nat} {o' : HO} (F : Frm A σ H B Γ) (e : Γ[i]? = some (.cel p c a)) (k : c'.ok B o' a') (ho : szO o') : Frm A σ (upd H p o') B (Γ.set i (.cel p c' a')) := by
  obtain ⟨e1, n, m, _⟩ := F.sl i _ e
  refine F.chg e ⟨fun b u q => ?_, F.b0, fun b u nm nt q => ?_, F.out, fun b n => ?_, F.sub, F.mh, F.ph, F.sz.upd ho, F.tb.upd (Hot.nt (F.hot e rfl) F.mh)⟩ (Same.refl _) fun ow hh so => ⟨ow, fun q z => .inl z, fun q z => ?_, fun q h nq => ⟨h.1, fun u hu => ?_⟩, e1, so.2.1, o', upd_same, k⟩
  · have hb : b ≠ p := fun z => by rw [z, n] at q; cases q
    rw [upd_ne hb]; exact F.bh b u q
  · have hb : b ≠ p := fun z => by
      rcases m with m | m
      · rw [z, m] at q; cases q
      · rw [z] at nm; exact nm m
    rw [upd_ne hb]; exact F.keep b u nm nt q
  · by_cases hb : b = p
    · rw [hb, upd_same]; simp
    · rw [upd_ne hb]; exact F.alive b n
  · have h := hh q z
    refine ⟨h.1, ?_, h.2.2⟩
    by_cases hb : q = p
    · rw [hb, upd_same]; simp
    · rw [upd_ne hb]; exact h.2.1
  · have hq : q ≠ p := fun z => nq (by rw [z]; exact so.2.1)
    rw [upd_ne hq]; exact hu
end
/-- sizes and tables -/
structure SzT [TabL] (H B : Hp) : Prop where
  sz : Sz H
  tb : TabOk H B
theorem Post.szt [TabL] {A : Amb} {H B : Hp} (F : Post A H B) : SzT H B := ⟨F.sz, F.tb⟩
theorem Frm.szt [TabL] {A : Amb} {σ : L2.St} {H B : Hp} {Γ : List Sl} (F : Frm A σ H B Γ) : SzT H B := ⟨F.sz, F.tb⟩
end G

set_option maxHeartbeats 4000000
/-! # G: what an expression gives -/
namespace G
variable [TabL]
open PySem PySem.Spec PyProof.Rows L2

/-- from what is known at Γ the expression gives the datum a, and leaves what is known at Γ' -/
def EvX {α : Type} (r : Rp α) (t : TE) (Γ Γ' : List Sl) (a : α) : Prop := ∀ (A : Amb) (σ : L2.St) (H B : Hp), Frm A σ H B Γ → ∀ Q : VK, (∀ v H' B', Frm A σ H' B' Γ' → Same B B' → r.rel B' v a → Q v H') → t σ H Q
def EvT (t : TT) (Γ Γ' : List Sl) (b : Bool) : Prop := ∀ (A : Amb) (σ : L2.St) (H B : Hp), Frm A σ H B Γ → ∀ Q : Bool → Hp → Prop, (∀ H' B', Frm A σ H' B' Γ' → Same B B' → Q b H') → t σ H Q
def EvW {α : Type} (w : Rw α) (t : TA) (Γ Γ' : List Sl) (a : α) : Prop := ∀ (A : Amb) (σ : L2.St) (H B : Hp), Frm A σ H B Γ → ∀ Q : List V → Hp → Prop, (∀ vs H' B', Frm A σ H' B' Γ' → Same B B' → w.rel B' vs a → Q vs H') → t σ H Q
def EvH {α : Type} (r : Rp α) (t : TA) (Γ Γ' : List Sl) (xs : List α) : Prop := ∀ (A : Amb) (σ : L2.St) (H B : Hp), Frm A σ H B Γ → ∀ Q : List V → Hp → Prop, (∀ vs H' B', Frm A σ H' B' Γ' → Same B B' → Paired (r.rel B') vs xs → Q vs H') → t σ H Q
/-- a new object -/
def EvC {α : Type} (c : Cl α) (t : TE) (Γ Γ' : List Sl) (a : α) : Prop := ∀ (A : Amb) (σ : L2.St) (H B : Hp), Frm A σ H B Γ → ∀ Q : VK, (∀ p o H' B', Frm (A.add p o) σ H' B' Γ' → A.H0 p = none → Same B B' → c.ok B' o a → Q (.ref p) H') → t σ H Q

section
variable {α β γ : Type} {r ra : Rp α} {rb : Rp β} {rc : Rp γ} {c : Cl α} {w : Rw α} {ta tb te : TE} {tt tu : TT} {Γ Γ1 Γ2 Γ3 : List Sl} {x a : α} {y b : β} {z : γ} {K : PySem.W.Frag}
theorem Paired.imp2 {α β : Type} {F G : α → β → Prop} (h : ∀ a b, F a b → G a b) : ∀ {l₁ : List α} {l₂ : List β}, Paired F l₁ l₂ → Paired G l₁ l₂
  | _, _, .nil => .nil
  | _, _, .cons q t => .cons (h _ _ q) (Paired.imp2 h t)
theorem Paired.len {α β : Type} {F : α → β → Prop} : ∀ {l₁ : List α} {l₂ : List β}, Paired F l₁ l₂ → l₁.length = l₂.length
  | _, _, .nil => rfl
  | _, _, .cons _ t => by rw [List.length_cons, List.length_cons, Paired.len t]
theorem Paired.getR {α β : Type} {F : α → β → Prop} : ∀ {l₁ : List α} {l₂ : List β} {i : Nat} {y : β}, Paired F l₁ l₂ → l₂[i]? = some y → ∃ x, l₁[i]? = some x ∧ F x y
  | _, _, _, _, .nil, e => by simp at e
  | _, _, 0, _, .cons q _, e => by simp at e; subst e; exact ⟨_, rfl, q⟩
  | _, _, i + 1, _, .cons _ t, e => by simpa using Paired.getR (i := i) t (by simpa using e)
theorem Paired.getL {α β : Type} {F : α → β → Prop} : ∀ {l₁ : List α} {l₂ : List β} {i : Nat} {x : α}, Paired F l₁ l₂ → l₁[i]? = some x → ∃ y, l₂[i]? = some y ∧ F x y
  | _, _, _, _, .nil, e => by simp at e
  | _, _, 0, _, .cons q _, e => by simp at e; subst e; exact ⟨_, rfl, q⟩
  | _, _, i + 1, _, .cons _ t, e => by simpa using Paired.getL (i := i) t (by simpa using e)
theorem Paired.app {α β : Type} {F : α → β → Prop} : ∀ {l₁ k₁ : List α} {l₂ k₂ : List β}, Paired F l₁ l₂ → Paired F k₁ k₂ → Paired F (l₁ ++ k₁) (l₂ ++ k₂)
  | _, _, _, _, .nil, h => h
  | _, _, _, _, .cons q t, h => .cons q (Paired.app t h)
theorem Paired.dropN {α β : Type} {F : α → β → Prop} : ∀ {l₁ : List α} {l₂ : List β} (n : Nat), Paired F l₁ l₂ → Paired F (l₁.drop n) (l₂.drop n)
  | _, _, 0, h => h
  | _, _, _ + 1, .nil => .nil
  | _, _, n + 1, .cons _ t => Paired.dropN n t
theorem Paired.takeN {α β : Type} {F : α → β → Prop} : ∀ {l₁ : List α} {l₂ : List β} (n : Nat), Paired F l₁ l₂ → Paired F (l₁.take n) (l₂.take n)
  | _, _, 0, _ => .nil
  | _, _, _ + 1, .nil => .nil
  | _, _, n + 1, .cons q t => .cons q (Paired.takeN n t)
theorem Paired.revR {α β : Type} {F : α → β → Prop} : ∀ {l₁ : List α} {l₂ : List β}, Paired F l₁ l₂ → Paired F l₁.reverse l₂.reverse
  | _, _, .nil => .nil
  | _, _, .cons q t => by rw [List.reverse_cons, List.reverse_cons]; exact Paired.app (Paired.revR t) (.cons q .nil)
theorem Paired.mapEq {α β : Type} {F : α → β → Prop} {f : β → α} (h : ∀ a b, F a b → a = f b) : ∀ {l₁ : List α} {l₂ : List β}, Paired F l₁ l₂ → l₁ = l₂.map f
  | _, _, .nil => rfl
  | _, _, .cons q t => by rw [List.map_cons, h _ _ q, Paired.mapEq h t]
theorem Paired.ofMap {α β : Type} {F : α → β → Prop} {f : β → α} (h : ∀ b, F (f b) b) : ∀ (l : List β), Paired F (l.map f) l
  | [] => .nil
  | b :: l => .cons (h b) (Paired.ofMap h l)

/-! ### names, constants -/
theorem ev_var {i : Nat} (h : Γ[i]? = some (.imm r a)) : EvX r (tVar i) Γ Γ a := fun A σ H B F Q q => by
  obtain ⟨v, e, k⟩ := F.sl i _ h
  exact ⟨v, e, q v H B F (Same.refl _) k⟩
theorem ev_int {i : Int} : EvX rInt (tC (.int i)) Γ Γ i := fun A σ H B F Q q => q _ H B F (Same.refl _) rfl
theorem ev_bl {b : Bool} : EvX rBool (tC (.bl b)) Γ Γ b := fun A σ H B F Q q => q _ H B F (Same.refl _) rfl
theorem ev_str {s : Str} : EvX rStr (tC (.str s)) Γ Γ s := fun A σ H B F Q q => q _ H B F (Same.refl _) rfl
theorem ev_non : EvX rNon (tC .non) Γ Γ () := fun A σ H B F Q q => q _ H B F (Same.refl _) rfl
theorem ev_none : EvX (rOpt r) (tC .non) Γ Γ none := fun A σ H B F Q q => q _ H B F (Same.refl _) rfl
/-! ### what is None or not -/
/-- r's values are not None -/
def NN {α : Type} (r : Rp α) : Prop := ∀ H v a, r.rel H v a → v ≠ .non
theorem nn_int : NN rInt := fun _ _ _ h e => by rw [e] at h; cases h
theorem nn_str : NN rStr := fun _ _ _ h e => by rw [e] at h; cases h
theorem nn_bool : NN rBool := fun _ _ _ h e => by rw [e] at h; cases h
theorem nn_ob : NN (rOb c) := fun _ _ _ ⟨p, o, e, _⟩ e' => by rw [e'] at e; cases e
theorem ev_some (n : NN r) (h : EvX r te Γ Γ1 a) : EvX (rOpt r) te Γ Γ1 (some a) := fun A σ H B F Q q => h A σ H B F Q fun v H' B' F' s k => q v H' B' F' s ⟨k, n _ _ _ k⟩
theorem ev_get {o : Option α} (h : EvX (rOpt r) te Γ Γ1 o) (e : o = some a) : EvX r te Γ Γ1 a := fun A σ H B F Q q => h A σ H B F Q fun v H' B' F' s k => q v H' B' F' s (by rw [e] at k; exact k.1)
theorem ev_to {a' : α} (h : EvX r te Γ Γ1 a) (e : a = a') : EvX r te Γ Γ1 a' := e ▸ h
theorem ev_toNon (h : EvX (rOpt r) te Γ Γ1 none) : EvX rNon te Γ Γ1 () := fun A σ H B F Q q => h A σ H B F Q fun v H' B' F' s k => q v H' B' F' s k
theorem ev_isN {o : Option α} (h : EvX (rOpt r) te Γ Γ1 o) : EvX rBool (tIsN te) Γ Γ1 o.isNone := fun A σ H B F Q q => h A σ H B F _ fun v H' B' F' s k => q _ H' B' F' s (by
  cases o with
  | none => rw [show v = V.non from k]; rfl
  | some a => show V.bl (decide (v = V.non)) = V.bl false; rw [decide_eq_false k.2])
theorem ev_notN {o : Option α} (h : EvX (rOpt r) te Γ Γ1 o) : EvX rBool (tNotN te) Γ Γ1 o.isSome := fun A σ H B F Q q => h A σ H B F _ fun v H' B' F' s k => q _ H' B' F' s (by
  cases o with
  | none => rw [show v = V.non from k]; rfl
  | some a => show V.bl (!decide (v = V.non)) = V.bl true; rw [decide_eq_false k.2]; rfl)
/-! ### operators -/
theorem ev_op {R : R2} (ha : EvX ra ta Γ Γ1 x) (hb : EvX rb tb Γ1 Γ2 y) (h : ∀ (H B : Hp) (u v : V), Same B H → ra.rel B u x → rb.rel B v y → ∀ Q : VK, (∀ o, rc.rel B o z → Q o H) → R u v H Q) : EvX rc (tOp R ta tb) Γ Γ2 z :=
  fun A σ H B F Q q => ha A σ H B F _ fun u H1 B1 F1 s1 k1 => hb A σ H1 B1 F1 _ fun v H2 B2 F2 s2 k2 => h H2 B2 u v F2.bh (ra.mono s2 k1) k2 Q fun o ko => q o H2 B2 F2 (s1.trans s2) ko
theorem ev_opC {R : R2} {cc : Cl γ} (ha : EvX ra ta Γ Γ1 x) (hb : EvX rb tb Γ1 Γ2 y) (h : ∀ (H B : Hp) (u v : V), Sz H → Same B H → ra.rel B u x → rb.rel B v y → ∀ Q : VK, (∀ p o, H p = none → szO o → cc.ok B o z → Q (.ref p) (upd H p o)) → R u v H Q) : EvC cc (tOp R ta tb) Γ Γ2 z :=
  fun A σ H B F Q q => ha A σ H B F _ fun u H1 B1 F1 s1 k1 => hb A σ H1 B1 F1 _ fun v H2 B2 F2 s2 k2 => h H2 B2 u v F2.sz F2.bh (ra.mono s2 k1) k2 Q fun p o hp ho ko => q p o _ B2 (F2.fresh hp ho) (F2.H0none hp) (s1.trans s2) ko
theorem ev_un {R : V → Hp → VK → Prop} (ha : EvX ra ta Γ Γ1 x) (h : ∀ (H B : Hp) (u : V), Same B H → ra.rel B u x → ∀ Q : VK, (∀ o, rc.rel B o z → Q o H) → R u H Q) : EvX rc (tUn R ta) Γ Γ1 z :=
  fun A σ H B F Q q => ha A σ H B F _ fun u H1 B1 F1 s1 k1 => h H1 B1 u F1.bh k1 Q fun o ko => q o H1 B1 F1 s1 ko
theorem ev_I0 {g : Int → Int → V} {i j : Int} (ha : EvX rInt ta Γ Γ1 i) (hb : EvX rInt tb Γ1 Γ2 j) (h : ∀ B, rc.rel B (g i j) z) : EvX rc (tOp (rI0 g) ta tb) Γ Γ2 z :=
  ev_op ha hb fun H B u v _ ku kv Q q => ⟨i, j, ku, kv, q _ (h B)⟩
theorem ev_I {C : Int → Int → Prop} {g : Int → Int → V} {i j : Int} (ha : EvX rInt ta Γ Γ1 i) (hb : EvX rInt tb Γ1 Γ2 j) (hc : C i j) (h : ∀ B, rc.rel B (g i j) z) : EvX rc (tOp (rI C g) ta tb) Γ Γ2 z :=
  ev_op ha hb fun H B u v _ ku kv Q q => ⟨i, j, ku, kv, hc, q _ (h B)⟩
section
variable {i j : Int}
theorem ev_add (ha : EvX rInt ta Γ Γ1 i) (hb : EvX rInt tb Γ1 Γ2 j) : EvX rInt (tOp (rI0 fun i j => .int (i + j)) ta tb) Γ Γ2 (i + j) := ev_I0 ha hb fun _ => rfl
theorem ev_sub (ha : EvX rInt ta Γ Γ1 i) (hb : EvX rInt tb Γ1 Γ2 j) : EvX rInt (tOp (rI0 fun i j => .int (i - j)) ta tb) Γ Γ2 (i - j) := ev_I0 ha hb fun _ => rfl
theorem ev_mul (ha : EvX rInt ta Γ Γ1 i) (hb : EvX rInt tb Γ1 Γ2 j) (h : CMul i j) : EvX rInt (tOp (rI CMul fun i j => .int (i * j)) ta tb) Γ Γ2 (i * j) := ev_I ha hb h fun _ => rfl
theorem ev_mod (ha : EvX rInt ta Γ Γ1 i) (hb : EvX rInt tb Γ1 Γ2 j) (h : 0 < j) : EvX rInt (tOp (rI (fun _ j => 0 < j) fun i j => .int (i % j)) ta tb) Γ Γ2 (i % j) := ev_I ha hb h fun _ => rfl
theorem ev_divW (ha : EvX rInt ta Γ Γ1 i) (hb : EvX rInt tb Γ1 Γ2 j) (h : CDivW i j) : EvX rInt (tOp (rI CDivW fun i j => .int (i / j)) ta tb) Γ Γ2 (i / j) := ev_I ha hb h fun _ => rfl
theorem ev_pow (ha : EvX rInt ta Γ Γ1 i) (hb : EvX rInt tb Γ1 Γ2 j) (h : CPow i j) : EvX rInt (tOp (rI CPow fun i j => .int (i ^ j.toNat)) ta tb) Γ Γ2 (i ^ j.toNat) := ev_I ha hb h fun _ => rfl
theorem ev_neg (ha : EvX rInt ta Γ Γ1 i) : EvX rInt (tUn (rU fun i => .int (-i)) ta) Γ Γ1 (-i) := ev_un ha fun H B u _ k Q q => ⟨i, k, q _ rfl⟩
theorem ev_lt (ha : EvX rInt ta Γ Γ1 i) (hb : EvX rInt tb Γ1 Γ2 j) : EvX rBool (tOp (rI0 fun i j => .bl (decide (i < j))) ta tb) Γ Γ2 (decide (i < j)) := ev_I0 ha hb fun _ => rfl
theorem ev_le (ha : EvX rInt ta Γ Γ1 i) (hb : EvX rInt tb Γ1 Γ2 j) : EvX rBool (tOp (rI0 fun i j => .bl (decide (i ≤ j))) ta tb) Γ Γ2 (decide (i ≤ j)) := ev_I0 ha hb fun _ => rfl
theorem ev_gt (ha : EvX rInt ta Γ Γ1 i) (hb : EvX rInt tb Γ1 Γ2 j) : EvX rBool (tOp (rI0 fun i j => .bl (decide (j < i))) ta tb) Γ Γ2 (decide (j < i)) := ev_I0 ha hb fun _ => rfl
theorem ev_ge (ha : EvX rInt ta Γ Γ1 i) (hb : EvX rInt tb Γ1 Γ2 j) : EvX rBool (tOp (rI0 fun i j => .bl (decide (j ≤ i))) ta tb) Γ Γ2 (decide (j ≤ i)) := ev_I0 ha hb fun _ => rfl
end
/-- data that are a value without the heap -/
structure Sc {α : Type} (r : Rp α) where
  val : α → V
  ok : ∀ {H v a}, r.rel H v a → v = val a
  inj : ∀ {a b}, val a = val b → a = b
def scInt : Sc rInt := ⟨.int, fun h => h, fun h => V.int.inj h⟩
def scBool : Sc rBool := ⟨.bl, fun h => h, fun h => V.bl.inj h⟩
def scStr : Sc rStr := ⟨.str, fun h => h, fun h => V.str.inj h⟩
def scNon : Sc rNon := ⟨fun _ => .non, fun h => h, fun _ => rfl⟩
def oV {α : Type} (f : α → V) : Option α → V
  | none => .non
  | some a => f a
def scOpt {α : Type} {r : Rp α} (s : Sc r) (n : ∀ a, s.val a ≠ .non) : Sc (rOpt r) := ⟨oV s.val, fun {H v a} h => by
    cases a with
    | none => exact h
    | some a => exact s.ok h.1, fun {a b} h => by
    cases a with
    | none => cases b with
      | none => rfl
      | some b => exact absurd h.symm (n b)
    | some a => cases b with
      | none => exact absurd h (n a)
      | some b => rw [s.inj h]⟩
def scOI : Sc (rOpt rInt) := scOpt scInt fun _ h => V.noConfusion h
def scOS : Sc (rOpt rStr) := scOpt scStr fun _ h => V.noConfusion h
theorem sc_dec {r : Rp α} [DecidableEq α] (s : Sc r) (a b : α) : decide (s.val a = s.val b) = decide (a = b) := by
  by_cases e : a = b
  · rw [e]; simp
  · rw [decide_eq_false e, decide_eq_false fun h => e (s.inj h)]
theorem ev_eqS [DecidableEq α] (s : Sc r) (ha : EvX r ta Γ Γ1 x) (hb : EvX r tb Γ1 Γ2 a) (h : scal (s.val x) (s.val a) = true) : EvX rBool (tOp rEq ta tb) Γ Γ2 (decide (x = a)) :=
  ev_op ha hb fun H B u v _ ku kv Q q => by
    rw [s.ok ku, s.ok kv]
    exact ⟨h, q _ (by rw [sc_dec s]; rfl)⟩
theorem ev_neS [DecidableEq α] (s : Sc r) (ha : EvX r ta Γ Γ1 x) (hb : EvX r tb Γ1 Γ2 a) (h : scal (s.val x) (s.val a) = true) : EvX rBool (tOp rNe ta tb) Γ Γ2 (!decide (x = a)) :=
  ev_op ha hb fun H B u v _ ku kv Q q => by
    rw [s.ok ku, s.ok kv]
    exact ⟨h, q _ (by rw [sc_dec s]; rfl)⟩
theorem sc_oi (x a : Option Int) : scal (scOI.val x) (scOI.val a) = true := by cases x <;> cases a <;> rfl
theorem sc_os (x a : Option Str) : scal (scOS.val x) (scOS.val a) = true := by cases x <;> cases a <;> rfl
/-! ### tests -/
theorem et_B {b : Bool} (h : EvX rBool te Γ Γ1 b) : EvT (tB te) Γ Γ1 b := fun A σ H B F Q q => h A σ H B F _ fun v H' B' F' s k => ⟨b, k, q H' B' F' s⟩
theorem et_T {b : Bool} (h : EvX rBool te Γ Γ1 b) : EvT (tTest te) Γ Γ1 b := fun A σ H B F Q q => h A σ H B F _ fun v H' B' F' s k => ⟨b, k, q H' B' F' s⟩
theorem et_and {a b : Bool} (h1 : EvT tt Γ Γ1 a) (h2 : a = true → EvT tu Γ1 Γ2 b) (h3 : a = false → b = false ∧ Γ1 = Γ2) : EvT (tAnd tt tu) Γ Γ2 b := fun A σ H B F Q q => h1 A σ H B F _ fun H' B' F' s => by
  cases a with
  | true => exact h2 rfl A σ H' B' F' Q fun H2 B2 F2 s2 => q H2 B2 F2 (s.trans s2)
  | false => obtain ⟨rfl, rfl⟩ := h3 rfl; exact q H' B' F' s
theorem et_or {a b : Bool} (h1 : EvT tt Γ Γ1 a) (h2 : a = false → EvT tu Γ1 Γ2 b) (h3 : a = true → b = true ∧ Γ1 = Γ2) : EvT (tOr tt tu) Γ Γ2 b := fun A σ H B F Q q => h1 A σ H B F _ fun H' B' F' s => by
  cases a with
  | false => exact h2 rfl A σ H' B' F' Q fun H2 B2 F2 s2 => q H2 B2 F2 (s.trans s2)
  | true => obtain ⟨rfl, rfl⟩ := h3 rfl; exact q H' B' F' s
theorem et_and0 {a b : Bool} (h1 : EvT tt Γ Γ1 a) (h2 : EvT tu Γ1 Γ1 b) : EvT (tAnd tt tu) Γ Γ1 (a && b) := et_and h1 (fun e => by rw [e]; exact h2) fun e => ⟨by rw [e]; rfl, rfl⟩
theorem et_or0 {a b : Bool} (h1 : EvT tt Γ Γ1 a) (h2 : EvT tu Γ1 Γ1 b) : EvT (tOr tt tu) Γ Γ1 (a || b) := et_or h1 (fun e => by rw [e]; exact h2) fun e => ⟨by rw [e]; rfl, rfl⟩
theorem et_not {a : Bool} (h : EvT tt Γ Γ1 a) : EvT (tNot tt) Γ Γ1 (!a) := fun A σ H B F Q q => h A σ H B F _ fun H' B' F' s => q H' B' F' s
theorem ev_and {a b : Bool} (h1 : EvX rBool ta Γ Γ1 a) (h2 : a = true → EvX rBool tb Γ1 Γ2 b) (h3 : a = false → b = false ∧ Γ1 = Γ2) : EvX rBool (tAndV ta tb) Γ Γ2 b := fun A σ H B F Q q => h1 A σ H B F _ fun v H' B' F' s k => ⟨a, k, by
  cases a with
  | true => exact h2 rfl A σ H' B' F' Q fun v2 H2 B2 F2 s2 k2 => q v2 H2 B2 F2 (s.trans s2) k2
  | false => obtain ⟨rfl, rfl⟩ := h3 rfl; exact q _ H' B' F' s rfl⟩
theorem ev_or {a b : Bool} (h1 : EvX rBool ta Γ Γ1 a) (h2 : a = false → EvX rBool tb Γ1 Γ2 b) (h3 : a = true → b = true ∧ Γ1 = Γ2) : EvX rBool (tOrV ta tb) Γ Γ2 b := fun A σ H B F Q q => h1 A σ H B F _ fun v H' B' F' s k => ⟨a, k, by
  cases a with
  | false => exact h2 rfl A σ H' B' F' Q fun v2 H2 B2 F2 s2 k2 => q v2 H2 B2 F2 (s.trans s2) k2
  | true => obtain ⟨rfl, rfl⟩ := h3 rfl; exact q _ H' B' F' s rfl⟩
theorem ev_and0 {a b : Bool} (h1 : EvX rBool ta Γ Γ1 a) (h2 : EvX rBool tb Γ1 Γ1 b) : EvX rBool (tAndV ta tb) Γ Γ1 (a && b) := ev_and h1 (fun e => by rw [e]; exact h2) fun e => ⟨by rw [e]; rfl, rfl⟩
theorem ev_or0 {a b : Bool} (h1 : EvX rBool ta Γ Γ1 a) (h2 : EvX rBool tb Γ1 Γ1 b) : EvX rBool (tOrV ta tb) Γ Γ1 (a || b) := ev_or h1 (fun e => by rw [e]; exact h2) fun e => ⟨by rw [e]; rfl, rfl⟩
theorem ev_not {a : Bool} (h : EvX rBool ta Γ Γ1 a) : EvX rBool (tNotV ta) Γ Γ1 (!a) := fun A σ H B F Q q => h A σ H B F _ fun v H' B' F' s k => ⟨a, k, q _ H' B' F' s rfl⟩
theorem ev_if {b : Bool} (h : EvT tt Γ Γ1 b) (h1 : b = true → EvX r ta Γ1 Γ2 a) (h2 : b = false → EvX r tb Γ1 Γ2 a) : EvX r (tIf tt ta tb) Γ Γ2 a := fun A σ H B F Q q => h A σ H B F _ fun H' B' F' s => by
  cases b with
  | true => exact h1 rfl A σ H' B' F' Q fun v H2 B2 F2 s2 k => q v H2 B2 F2 (s.trans s2) k
  | false => exact h2 rfl A σ H' B' F' Q fun v H2 B2 F2 s2 k => q v H2 B2 F2 (s.trans s2) k
/-- two comparisons -/
theorem ev_chain {R R' : R2} {b1 b2 : Bool} {tc : TE} (ha : EvX ra ta Γ Γ1 x) (hb : EvX rb tb Γ1 Γ2 y) (hc : b1 = true → EvX rc tc Γ2 Γ2 z)
    (h1 : ∀ (H B : Hp) (u v : V), Same B H → ra.rel B u x → rb.rel B v y → ∀ Q : VK, Q (.bl b1) H → R u v H Q) (h2 : b1 = true → ∀ (H B : Hp) (u v : V), Same B H → rb.rel B u y → rc.rel B v z → ∀ Q : VK, Q (.bl b2) H → R' u v H Q) :
    EvX rBool (tChain R R' ta tb tc) Γ Γ2 (b1 && b2) := fun A σ H B F Q q => ha A σ H B F _ fun u H1 B1 F1 s1 k1 => hb A σ H1 B1 F1 _ fun v H2 B2 F2 s2 k2 => h1 H2 B2 u v F2.bh (ra.mono s2 k1) k2 _ ⟨b1, rfl, by
      cases b1 with
      | false => exact q _ H2 B2 F2 (s1.trans s2) rfl
      | true => exact hc rfl A σ H2 B2 F2 _ fun w H3 B3 F3 s3 k3 => h2 rfl H3 B3 v w F3.bh (rb.mono s3 k2) k3 Q (q _ H3 B3 F3 ((s1.trans s2).trans s3) rfl)⟩
/-! ### arguments, displays -/
theorem ew_0 : EvW w0 tNil Γ Γ () := fun A σ H B F Q q => q _ H B F (Same.refl _) rfl
theorem ew_1 (h : EvX r ta Γ Γ1 a) : EvW (w1 r) (tCons ta tNil) Γ Γ1 a := fun A σ H B F Q q => h A σ H B F _ fun v H' B' F' s k => q _ H' B' F' s ⟨v, rfl, k⟩
theorem ew_C {w : Rw β} {tr : TA} (h : EvX r ta Γ Γ1 a) (hr : EvW w tr Γ1 Γ2 y) : EvW (wC r w) (tCons ta tr) Γ Γ2 (a, y) := fun A σ H B F Q q =>
  h A σ H B F _ fun v H' B' F' s k => hr A σ H' B' F' _ fun vs H2 B2 F2 s2 k2 => q _ H2 B2 F2 (s.trans s2) ⟨v, vs, rfl, r.mono s2 k, k2⟩
theorem eh_0 : EvH r tNil Γ Γ [] := fun A σ H B F Q q => q _ H B F (Same.refl _) .nil
theorem eh_C {tr : TA} {xs : List α} (h : EvX r ta Γ Γ1 a) (hr : EvH r tr Γ1 Γ2 xs) : EvH r (tCons ta tr) Γ Γ2 (a :: xs) := fun A σ H B F Q q =>
  h A σ H B F _ fun v H' B' F' s k => hr A σ H' B' F' _ fun vs H2 B2 F2 s2 k2 => q _ H2 B2 F2 (s.trans s2) (.cons (r.mono s2 k) k2)
theorem ec_fresh {H B : Hp} {A : Amb} {σ : L2.St} {p : Addr} {o : HO} (F : Frm A σ H B Γ) (hp : H p = none) (ho : szO o) {Q : VK} (q : ∀ p o H' B', Frm (A.add p o) σ H' B' Γ → A.H0 p = none → Same B B' → c.ok B' o a → Q (.ref p) H') (k : c.ok B o a) : Q (.ref p) (upd H p o) :=
  q p o _ B (F.fresh hp ho) (F.H0none hp) (Same.refl _) k
/-- how many there are -/
class WLen {α : Type} (w : Rw α) (n : outParam Nat) : Prop where
  len : ∀ {H vs a}, w.rel H vs a → vs.length = n
instance : WLen w0 0 := ⟨fun h => by rw [show _ = ([] : List V) from h]; rfl⟩
instance {α : Type} (r : Rp α) : WLen (w1 r) 1 := ⟨fun ⟨v, e, _⟩ => by rw [e]; rfl⟩
instance {α β : Type} (r : Rp α) (w : Rw β) {n : Nat} [i : WLen w n] : WLen (wC r w) (n + 1) := ⟨fun ⟨v, t, e, _, k⟩ => by rw [e, List.length_cons, i.len k]⟩
theorem ec_tup {n : Nat} [i : WLen w n] {ta : TA} (h : EvW w ta Γ Γ1 a) (hn : n ≤ 1000 := by decide) : EvC (cTup w) (tTup ta) Γ Γ1 a := fun A σ H B F Q q => h A σ H B F _ fun vs H' B' F' s k => by
  have hl : vs.length ≤ sizeLine := by rw [i.len k]; exact Nat.le_of_lt (small1000 hn)
  exact ⟨hl, fun p hp => ec_fresh (c := cTup w) (o := .tup vs) F' hp hl (fun p o H2 B2 F2 n2 s2 k2 => q p o H2 B2 F2 n2 (s.trans s2) k2) ⟨vs, rfl, k⟩⟩
theorem ec_hls {n : Nat} [i : WLen w n] {ta : TA} (h : EvW w ta Γ Γ1 a) (hn : n ≤ 1000 := by decide) : EvC (cHls w) (tLst ta) Γ Γ1 a := fun A σ H B F Q q => h A σ H B F _ fun vs H' B' F' s k => by
  have hl : vs.length ≤ sizeLine := by rw [i.len k]; exact Nat.le_of_lt (small1000 hn)
  exact ⟨hl, fun p hp => ec_fresh (c := cHls w) (o := .lst vs) F' hp hl (fun p o H2 B2 F2 n2 s2 k2 => q p o H2 B2 F2 n2 (s.trans s2) k2) ⟨vs, rfl, k⟩⟩
theorem ec_lst {ta : TA} {xs : List α} (h : EvH r ta Γ Γ1 xs) (hn : xs.length ≤ 1000 := by decide) : EvC (cLst r) (tLst ta) Γ Γ1 xs := fun A σ H B F Q q => h A σ H B F _ fun vs H' B' F' s k => by
  have hl : vs.length ≤ sizeLine := by rw [Paired.len k]; exact Nat.le_of_lt (small1000 hn)
  exact ⟨hl, fun p hp => ec_fresh (c := cLst r) (o := .lst vs) F' hp hl (fun p o H2 B2 F2 n2 s2 k2 => q p o H2 B2 F2 n2 (s.trans s2) k2) ⟨vs, rfl, k⟩⟩
theorem ec_tpl {ta : TA} {xs : List α} (h : EvH r ta Γ Γ1 xs) (hn : xs.length ≤ 1000 := by decide) : EvC (cTpl r) (tTup ta) Γ Γ1 xs := fun A σ H B F Q q => h A σ H B F _ fun vs H' B' F' s k => by
  have hl : vs.length ≤ sizeLine := by rw [Paired.len k]; exact Nat.le_of_lt (small1000 hn)
  exact ⟨hl, fun p hp => ec_fresh (c := cTpl r) (o := .tup vs) F' hp hl (fun p o H2 B2 F2 n2 s2 k2 => q p o H2 B2 F2 n2 (s.trans s2) k2) ⟨vs, rfl, k⟩⟩
/-- a new object that nobody will change -/
theorem ev_new (h : EvC c te Γ Γ1 a) : EvX (rOb c) te Γ Γ1 a := fun A σ H B F Q q => h A σ H B F Q fun p o H' B' F' n s k => by
  have hm : ¬ A.m p := fun m => F.mh.al p m n
  have hB : B' p = none := F'.out p (by show upd A.H0 p o p ≠ none; rw [upd_same]; simp) (by
    cases e : A.B0 p with
    | none => exact e
    | some u => exact absurd (F.sub p u e) (by rw [n]; simp))
  have s' : Same B' (upd B' p o) := fun b u e => by rw [upd_ne (ne_of_none e hB)]; exact e
  exact q _ H' (upd B' p o) (F'.adopt n F.sub F.mh) (s.trans s') ⟨p, o, rfl, upd_same, c.mono s' k⟩
/-! ### items -/
theorem atI_rel {B : Hp} {vs : List V} {xs : List α} {i : Int} (h : Paired (r.rel B) vs xs) (e : atI xs i = some a) : ∃ v, atI vs i = some v ∧ r.rel B v a := by
  unfold atI at e ⊢
  rw [Paired.len h]
  cases q : ixN xs.length i with
  | none => rw [q] at e; cases e
  | some j =>
    rw [q] at e
    exact Paired.getR h e
theorem ob_lst {B H : Hp} {u : V} {xs : List α} (s : Same B H) (h : (rLst r).rel B u xs) : ∃ p vs, u = .ref p ∧ H p = some (.lst vs) ∧ Paired (r.rel B) vs xs := by
  obtain ⟨p, o, e, hp, vs, rfl, k⟩ := h
  exact ⟨p, vs, e, s _ _ hp, k⟩
theorem ob_tpl {B H : Hp} {u : V} {xs : List α} (s : Same B H) (h : (rTpl r).rel B u xs) : ∃ p vs, u = .ref p ∧ H p = some (.tup vs) ∧ Paired (r.rel B) vs xs := by
  obtain ⟨p, o, e, hp, vs, rfl, k⟩ := h
  exact ⟨p, vs, e, s _ _ hp, k⟩
theorem ob_hls {B H : Hp} {u : V} (s : Same B H) (h : (rHls w).rel B u a) : ∃ p vs, u = .ref p ∧ H p = some (.lst vs) ∧ w.rel B vs a := by
  obtain ⟨p, o, e, hp, vs, rfl, k⟩ := h
  exact ⟨p, vs, e, s _ _ hp, k⟩
theorem ob_tup {B H : Hp} {u : V} (s : Same B H) (h : (rTup w).rel B u a) : ∃ p vs, u = .ref p ∧ H p = some (.tup vs) ∧ w.rel B vs a := by
  obtain ⟨p, o, e, hp, vs, rfl, k⟩ := h
  exact ⟨p, vs, e, s _ _ hp, k⟩
theorem ev_ixL {xs : List α} {i : Int} (ha : EvX (rLst r) ta Γ Γ1 xs) (hb : EvX rInt tb Γ1 Γ2 i) (e : atI xs i = some a) : EvX r (tOp (rIxL K) ta tb) Γ Γ2 a :=
  ev_op ha hb fun H B u v s ku kv Q q => by
    obtain ⟨p, vs, rfl, hp, k⟩ := ob_lst s ku
    obtain ⟨o, ho, ko⟩ := atI_rel k e
    exact ⟨p, vs, i, o, rfl, kv, SqL.of hp, ho, q o ko⟩
theorem ev_ixT {xs : List α} {i : Int} (ha : EvX (rTpl r) ta Γ Γ1 xs) (hb : EvX rInt tb Γ1 Γ2 i) (e : atI xs i = some a) : EvX r (tOp (rIxT K) ta tb) Γ Γ2 a :=
  ev_op ha hb fun H B u v s ku kv Q q => by
    obtain ⟨p, vs, rfl, hp, k⟩ := ob_tpl s ku
    obtain ⟨o, ho, ko⟩ := atI_rel k e
    exact ⟨p, vs, i, o, rfl, kv, SqT.of hp, ho, q o ko⟩
/-- the k-th of a row -/
def Acc {α β : Type} (w : Rw α) (k : Nat) (r : Rp β) (f : α → β) : Prop := ∀ H vs a, w.rel H vs a → ∃ v, vs[k]? = some v ∧ r.rel H v (f a)
theorem acc1 : Acc (w1 r) 0 r (fun a => a) := fun H vs a ⟨v, e, k⟩ => ⟨v, by rw [e]; rfl, k⟩
theorem acc0 {w : Rw β} : Acc (wC r w) 0 r (·.1) := fun H vs a ⟨v, t, e, k, _⟩ => ⟨v, by rw [e]; rfl, k⟩
theorem accS {w : Rw β} {k : Nat} {f : β → γ} (h : Acc w k rc f) : Acc (wC r w) (k + 1) rc (fun a => f a.2) := fun H vs a ⟨v, t, e, _, q⟩ => by
  obtain ⟨u, h1, h2⟩ := h H t a.2 q
  exact ⟨u, by rw [e]; simpa using h1, h2⟩
theorem ev_ixR {k : Nat} {f : α → β} (ha : EvX (rHls w) ta Γ Γ1 a) (h : Acc w k rb f) : EvX rb (tOp (rIxL K) ta (tC (.int (k : Int)))) Γ Γ1 (f a) :=
  ev_op ha (ev_int (Γ := Γ1)) fun H B u v s ku kv Q q => by
    obtain ⟨p, vs, rfl, hp, g⟩ := ob_hls s ku
    obtain ⟨o, ho, ko⟩ := h B vs a g
    exact ⟨p, vs, (k : Int), o, rfl, kv, SqL.of hp, atI_nat ho, q o ko⟩
theorem ev_ixU {k : Nat} {f : α → β} (ha : EvX (rTup w) ta Γ Γ1 a) (h : Acc w k rb f) : EvX rb (tOp (rIxT K) ta (tC (.int (k : Int)))) Γ Γ1 (f a) :=
  ev_op ha (ev_int (Γ := Γ1)) fun H B u v s ku kv Q q => by
    obtain ⟨p, vs, rfl, hp, g⟩ := ob_tup s ku
    obtain ⟨o, ho, ko⟩ := h B vs a g
    exact ⟨p, vs, (k : Int), o, rfl, kv, SqT.of hp, atI_nat ho, q o ko⟩
end
end G

set_option maxHeartbeats 4000000
/-! # G: statements, calls, loops -/
namespace G
variable [TabL]
open PySem PySem.Spec PyProof.Rows L2

/-- from what is known at Γ the wish P holds -/
def Nx (A : Amb) (P : L2.St → Hp → Prop) (Γ : List Sl) : Prop := ∀ σ H B, Frm A σ H B Γ → P σ H
/-- what is handed back -/
def Rt {ρ : Type} (A : Amb) (ψ : ρ → Hp → Hp → V → Prop) (b : ρ) (rt : VK) : Prop := ∀ H B v, Post A H B → ψ b H B v → rt v H
def psi {β : Type} (r : Rp β) (b : β) (_ B : Hp) (v : V) : Prop := r.rel B v b
def psiS {β γ : Type} (p : Addr) (c : Cl γ) (r : Rp β) (b : β × γ) (H B : Hp) (v : V) : Prop := r.rel B v b.1 ∧ ∃ o, H p = some o ∧ c.ok B o b.2
def Fin (A : Amb) (M : List Sl) : L2.St → Hp → Prop := fun σ H => ∃ B, Frm A σ H B M

section
variable {α β γ ρ ς : Type} {r ra : Rp α} {rb : Rp β} {c : Cl α} {cc : Cl γ} {w : Rw α} {te : TE} {tt : TT} {t u : TS} {D : Ends} {A : Amb} {Γ Γ1 Γ2 M : List Sl} {a : α} {b : β} {i : Nat} {K : PySem.W.Frag} {P : L2.St → Hp → Prop} {ψ : ρ → Hp → Hp → V → Prop}
theorem nx_seq (h : Nx A (t { D with nx := u D }) Γ) : Nx A (tSeq t u D) Γ := h
theorem nx_next (h : Nx A D.nx Γ) : Nx A (tNext D) Γ := h
theorem nx_brk (h : Nx A D.bk Γ) : Nx A (tBreak D) Γ := h
theorem nx_cont (h : Nx A D.ct Γ) : Nx A (tCont D) Γ := h
theorem nx_asg (h : EvX r te Γ Γ1 a) (k : Nx A D.nx (Γ1.set i (.imm r a))) : Nx A (tAsg te (gName i) D) Γ := fun σ H B F => h A σ H B F _ fun v H' B' F' _ q => k _ _ _ (F'.set q)
theorem nx_asgC (h : EvC c te Γ Γ1 a) (k : ∀ p, ¬ A.m p → Nx A D.nx (Γ1.set i (.cel p c a))) : Nx A (tAsg te (gName i) D) Γ := fun σ H B F => h A σ H B F _ fun p o H' B' F' n _ q =>
  k p (fun m => F.mh.al p m n) _ _ _ (F'.own1 n F.sub F.mh q)
theorem nx_if {b : Bool} (h : EvT tt Γ Γ1 b) (h1 : b = true → Nx A (t D) Γ1) (h2 : b = false → Nx A (u D) Γ1) : Nx A (tIfS tt t u D) Γ := fun σ H B F => h A σ H B F _ fun H' B' F' _ => by
  cases b with
  | true => exact h1 rfl σ H' B' F'
  | false => exact h2 rfl σ H' B' F'
theorem nx_drop (h : EvX r te Γ Γ1 a) (k : Nx A D.nx Γ1) : Nx A (tDrop te D) Γ := fun σ H B F => h A σ H B F _ fun v H' B' F' _ _ => k _ _ _ F'
theorem nx_ret {b : α} (h : EvX r te Γ Γ1 a) (e : some a = some b) (k : Rt A (psi r) b D.rt) : Nx A (tRet te D) Γ := fun σ H B F => h A σ H B F _ fun v H' B' F' _ q => k H' B' v F'.post (by cases e; exact q)
theorem nx_retS {p : Addr} {st : γ} {b : α × γ} (h : EvX r te Γ Γ1 a) (hi : Γ1[i]? = some (.cel p cc st)) (e : some (a, st) = some b) (k : Rt A (psiS p cc r) b D.rt) : Nx A (tRet te D) Γ := fun σ H B F => h A σ H B F _ fun v H' B' F' _ q => by
  obtain ⟨_, _, _, o, ho, ko⟩ := F'.sl i _ hi
  exact k H' B' v F'.post (by cases e; exact ⟨q, o, ho, ko⟩)
theorem nx_cut (M : List Sl) (h : Nx A (t { D with nx := Fin A M }) Γ) (k : Nx A (u D) M) : Nx A (Evl.tCut t u D) Γ := fun σ H B F => ⟨Fin A M, h σ H B F, fun σ' H' ⟨B', F'⟩ => k σ' H' B' F'⟩
theorem nx_fin : Nx A (Fin A M) M := fun σ H B F => ⟨B, F⟩
theorem nx_forget (i : Nat) (h : Nx A P (Γ.set i .no)) : Nx A P Γ := fun σ H B F => h σ H B (F.forget i)
theorem nx_eq (e : Γ = Γ1) (h : Nx A P Γ1) : Nx A P Γ := e ▸ h
/-- the frame's own object is changed no more -/
theorem Frm.freeze {σ : L2.St} {H B : Hp} {p : Addr} (F : Frm A σ H B Γ) (hp : ¬ A.m p) (e : Γ[i]? = some (.cel p c a)) : ∃ B', Same B B' ∧ Frm A σ H B' (Γ.set i (.imm (rOb c) a)) := by
  obtain ⟨e1, n, m, o, ho, k⟩ := F.sl i _ e
  have m0 : A.H0 p = none := m.resolve_right hp
  have bb : Same B (upd B p o) := fun b u q => by rw [upd_ne (ne_of_none q n)]; exact q
  refine ⟨upd B p o, bb, F.chg e ⟨fun b u q => ?_, fun b u q => bb b u (F.b0 b u q), F.keep, fun b nb z => ?_, F.alive, F.sub, F.mh, A.up _ _ bb F.ph, F.sz, F.tb.fix bb (Hot.nt (F.hot e rfl) F.mh)⟩ bb fun ow hh so => ⟨fun _ => False, fun q z => z.elim, fun q z => z.elim, fun q h nq => ⟨?_, fun u hu => hu⟩, .ref p, e1, p, o, rfl, upd_same, c.mono bb k⟩⟩
  · by_cases hb : b = p
    · subst hb; rw [upd_same] at q; cases q; exact ho
    · rw [upd_ne hb] at q; exact F.bh b u q
  · have hb : b ≠ p := fun q => nb (by rw [q]; exact m0)
    rw [upd_ne hb]; exact F.out b nb z
  · have hq : q ≠ p := fun z => nq (by rw [z]; exact so.2.1)
    rw [upd_ne hq]; exact h.1
theorem nx_freeze {p : Addr} (i : Nat) (hp : ¬ A.m p) (e : Γ[i]? = some (.cel p c a)) (h : Nx A P (Γ.set i (.imm (rOb c) a))) : Nx A P Γ := fun σ H B F => by
  obtain ⟨B', _, F'⟩ := F.freeze hp e
  exact h σ H B' F'
end

/-! ### calls -/
/-- it may change: not known to be fixed, no table -/
def HotP (B : Hp) (p : Addr) : Prop := B p = none ∧ ¬ isTab p
def amb0 (B H : Hp) : Amb := ⟨B, H, fun _ => False, fun _ => True, fun _ _ _ _ => trivial⟩
def ambS (B H : Hp) (p : Addr) : Amb := ⟨B, H, fun q => q = p, fun _ => True, fun _ _ _ _ => trivial⟩
def SpP {α β : Type} (w : Rw α) (r : Rp β) (m : α → Option β) : Sp := fun vs H Q _ => ∃ B a b, SzT H B ∧ Same B H ∧ w.rel B vs a ∧ m a = some b ∧ Rt (amb0 B H) (psi r) b Q
def SpS {α β γ : Type} (c : Cl γ) (w : Rw α) (r : Rp β) (m : γ → α → Option (β × γ)) : Sp := fun vs H Q _ => ∃ p vs' B o st a b, vs = .ref p :: vs' ∧ SzT H B ∧ Same B H ∧ HotP B p ∧ H p = some o ∧ c.ok B o st ∧ w.rel B vs' a ∧ m st a = some b ∧ Rt (ambS B H p) (psiS p c r) b Q
section
variable {α β γ : Type} {r : Rp β} {w : Rw α} {cc : Cl γ} {A : Amb} {σ : L2.St} {H H' B B' : Hp} {Γ Γ1 : List Sl} {i : Nat} {p : Addr} {st st' : γ}
theorem Post.after (F : Frm A σ H B Γ) (P : Post (amb0 B H) H' B') : Post A H' B' where
  bh := P.bh
  b0 := fun p o e => P.b0 p o (F.b0 p o e)
  keep := fun p o m nt e => P.keep p o (fun z => z) nt (F.keep p o m nt e)
  out := fun p n z => P.out p (F.alive p n) (F.out p n z)
  alive := fun p n => P.alive p (F.alive p n)
  sub := F.sub
  mh := F.mh
  ph := A.up _ _ P.b0 F.ph
  sz := P.sz
  tb := P.tb
theorem Frm.after (F : Frm A σ H B Γ) (P : Post (amb0 B H) H' B') : Frm A σ H' B' Γ :=
  F.move (Post.after F P) P.b0 fun p h => ⟨P.out p h.2.1 h.1, h.2.2, fun u e => P.keep p u (fun z => z) (h.nt F.mh) e⟩
theorem Frm.afterS (F : Frm A σ H B Γ) (hi : Γ[i]? = some (.cel p cc st)) (P : Post (ambS B H p) H' B') (k : ∃ o, H' p = some o ∧ cc.ok B' o st') : Frm A σ H' B' (Γ.set i (.cel p cc st')) := by
  obtain ⟨e1, n, m, _⟩ := F.sl i _ hi
  refine F.chg hi ⟨P.bh, fun p o e => P.b0 p o (F.b0 p o e), fun q o nm nt e => P.keep q o (fun z => ?_) nt (F.keep q o nm nt e), fun p n z => P.out p (F.alive p n) (F.out p n z), fun p n => P.alive p (F.alive p n), F.sub, F.mh, A.up _ _ P.b0 F.ph, P.sz, P.tb⟩ P.b0 fun ow hh so => ⟨ow, fun q z => .inl z, fun q z => ?_, fun q h nq => ⟨P.out q h.2.1 h.1, fun u hu => P.keep q u (fun (z : q = p) => nq (by rw [z]; exact so.2.1)) (h.nt F.mh) hu⟩, e1, so.2.1, k⟩
  · have z' : q = p := z
    subst z'
    rcases m with m | m
    · rw [m] at e; cases e
    · exact nm m
  · have h := hh q z
    exact ⟨P.out q h.2.1 h.1, P.alive q h.2.1, h.2.2⟩
theorem ev_call {m : α → Option β} {a : α} {b : β} {E : XK} {ta : TA} (h : EvW w ta Γ Γ1 a) (e : m a = some b) : EvX r (tCall (SpP w r m) [] E ta) Γ Γ1 b := fun A σ H B F Q q => h A σ H B F _ fun vs H1 B1 F1 s1 k1 => by
  rw [List.append_nil]
  exact ⟨B1, a, b, F1.szt, F1.bh, k1, e, fun H2 B2 v P k => q v H2 B2 (F1.after P) (s1.trans P.b0) k⟩
theorem ev_callS {m : γ → α → Option (β × γ)} {a : α} {b : β} {E : XK} {tr : TA} (h : EvW w tr Γ Γ1 a) (hi0 : Γ[i]?.bind celAt = some p) (hi : Γ1[i]? = some (.cel p cc st)) (e : m st a = some (b, st')) : EvX r (tCall (SpS cc w r m) [] E (tCons (tVar i) tr)) Γ (Γ1.set i (.cel p cc st')) b :=
  fun A σ H B F Q q => by
    have hv : σ[i]? = some (some (V.ref p)) := by
      cases e : Γ[i]? with
      | none => rw [e] at hi0; cases hi0
      | some s =>
        rw [e] at hi0
        have h := F.sl i s e
        cases s with
        | no => cases hi0
        | imm r a => cases hi0
        | cel q c a => cases hi0; exact h.1
        | tre v c a => cases hi0
    refine ⟨_, hv, ?_⟩
    refine h A σ H B F _ fun vs H1 B1 F1 s1 k1 => ?_
    show SpS cc w r m ((V.ref p :: vs) ++ []) H1 Q E
    rw [List.append_nil]
    obtain ⟨_, n, m, o, ho, ko⟩ := F1.sl i _ hi
    exact ⟨p, vs, B1, o, st, a, (b, st'), rfl, F1.szt, F1.bh, ⟨n, Hot.nt (F1.hot hi rfl) F1.mh⟩, ho, ko, k1, e, fun H2 B2 v P k => q v H2 B2 (F1.afterS hi P k.2) (s1.trans P.b0) k.1⟩
end

/-! ### a def -/
class WSl {α : Type} (w : Rw α) (f : outParam (α → List Sl)) : Prop where
  ok : ∀ {B vs a}, w.rel B vs a → (f a).length = vs.length ∧ ∀ (i : Nat) (s : Sl), (f a)[i]? = some s → plain s ∧ ∀ (σ : L2.St) (H : Hp) (o : Addr → Prop), (∀ v, vs[i]? = some v → σ[i]? = some (some v)) → SlO σ H B o i s
instance : WSl w0 (fun _ => []) := ⟨fun h => ⟨by rw [show _ = ([] : List V) from h]; rfl, fun i s e => by simp at e⟩⟩
instance {α : Type} (r : Rp α) : WSl (w1 r) (fun a => [.imm r a]) := ⟨fun {B vs a} ⟨v, e, k⟩ => ⟨by rw [e]; rfl, fun i s q => by
  cases i with
  | zero => cases q; exact ⟨trivial, fun σ H o h => ⟨v, h v (by rw [e]; rfl), k⟩⟩
  | succ i => simp at q⟩⟩
theorem slok_shift {σ σ' : L2.St} {H B : Hp} {o : Addr → Prop} {i j : Nat} {s : Sl} (h : SlO σ H B o i s) (e : σ[i]? = σ'[j]?) : SlO σ' H B o j s := by
  cases s with
  | no => trivial
  | imm r a => obtain ⟨v, q, k⟩ := h; exact ⟨v, by rw [← e]; exact q, k⟩
  | cel p c a => obtain ⟨q, k⟩ := h; exact ⟨by rw [← e]; exact q, k⟩
  | tre v c a => obtain ⟨q, k⟩ := h; exact ⟨by rw [← e]; exact q, k⟩
instance {α β : Type} (r : Rp α) (w : Rw β) {f : β → List Sl} [k : WSl w f] : WSl (wC r w) (fun a => .imm r a.1 :: f a.2) := ⟨fun {B vs a} ⟨v, t, e, k1, k2⟩ => by
  obtain ⟨hl, hs⟩ := k.ok k2
  refine ⟨by rw [e, List.length_cons, List.length_cons, hl], fun i s q => ?_⟩
  cases i with
  | zero => cases q; exact ⟨trivial, fun σ H o h => ⟨v, h v (by rw [e]; rfl), k1⟩⟩
  | succ i =>
    obtain ⟨h1, h2⟩ := hs i s (by simpa using q)
    refine ⟨h1, fun σ H o h => ?_⟩
    have g := h2 σ.tail H o (fun u hu => by
      have := h u (by rw [e]; simpa using hu)
      cases σ with
      | nil => simp at this
      | cons x y => simpa using this)
    exact slok_shift g (by cases σ <;> simp)⟩
theorem start_get {N : List Str} {vs : List V} {i : Nat} {v : V} (e : vs[i]? = some v) : (L2.start N vs)[i]? = some (some v) := by
  unfold L2.start
  have hl : i < (vs.map some).length := by rw [List.length_map]; exact (List.getElem?_eq_some_iff.mp e).1
  rw [List.getElem?_append_left hl, List.getElem?_map, e]; rfl
theorem start_len {N : List Str} {vs : List V} (h : vs.length ≤ N.length) : (L2.start N vs).length = N.length := by
  unfold L2.start
  rw [List.length_append, List.length_map, List.length_replicate]; omega
section
variable {α β γ : Type} {r : Rp β} {w : Rw α} {cc : Cl γ}
theorem rep_sp {l : List Sl} {n i : Nat} {s : Sl} (e : (l ++ List.replicate n .no)[i]? = some s) : l[i]? = some s ∨ s = .no := by
  by_cases hi : i < l.length
  · rw [List.getElem?_append_left hi] at e; exact .inl e
  · rw [List.getElem?_append_right (by omega), List.getElem?_replicate] at e
    split at e
    · cases e; exact .inr rfl
    · cases e
theorem frm_start {f : α → List Sl} [k : WSl w f] {B H : Hp} {vs : List V} {a : α} {N : List Str} {n : Nat} (z : SzT H B) (s : Same B H) (h : w.rel B vs a) (hN : N.length = vs.length + n) : Frm (amb0 B H) (L2.start N vs) H B (f a ++ List.replicate n .no) := by
  obtain ⟨hl, hs⟩ := k.ok h
  refine ⟨⟨s, Same.refl _, fun _ _ _ _ e => e, fun _ _ e => e, fun _ n => n, s, ⟨fun _ z => z.elim, fun _ z => z.elim, fun _ m n => z.tb.ne n m⟩, trivial, z.sz, z.tb⟩, ?_, fun _ _ => False, fun i s e => ?_, fun _ _ _ z => z.elim, fun _ _ z => z.elim⟩
  · rw [start_len (by omega), List.length_append, List.length_replicate, hl]; exact hN
  · rcases rep_sp e with e | rfl
    · exact (hs i s e).2 _ _ _ fun v hv => start_get hv
    · trivial
theorem start_cons {N : List Str} {vs : List V} {v : V} : ∃ N', (L2.start N (v :: vs)) = some v :: L2.start N' vs := ⟨N.drop 1, by
  unfold L2.start
  rw [List.map_cons, List.cons_append, List.length_cons, List.length_drop]
  congr 3; omega⟩
theorem frm_startS {f : α → List Sl} [k : WSl w f] {B H : Hp} {vs : List V} {a : α} {N : List Str} {n : Nat} {p : Addr} {o : HO} {st : γ} (z : SzT H B) (s : Same B H) (hB : HotP B p) (hp : H p = some o) (ko : cc.ok B o st) (h : w.rel B vs a) (hN : N.length = (vs.length + 1) + n) :
    Frm (ambS B H p) (L2.start N (.ref p :: vs)) H B (.cel p cc st :: (f a ++ List.replicate n .no)) := by
  obtain ⟨hl, hs⟩ := k.ok h
  refine ⟨⟨s, Same.refl _, fun _ _ _ _ e => e, fun _ _ e => e, fun _ n => n, s, ⟨fun q (z : q = p) => by show H q ≠ none; rw [z, hp]; simp, fun q (z : q = p) m => hB.2 (by rw [← z]; exact m), fun _ m n => z.tb.ne n m⟩, trivial, z.sz, z.tb⟩, ?_, fun i q => i = 0 ∧ q = p, fun i s e => ?_, fun i j q ei ej => by rw [ei.1, ej.1], fun i q e => ?_⟩
  · rw [start_len (by rw [List.length_cons]; omega), List.length_cons, List.length_append, List.length_replicate, hl, hN]; omega
  · cases i with
    | zero => cases e; exact ⟨start_get rfl, ⟨rfl, rfl⟩, o, hp, ko⟩
    | succ i =>
      rcases rep_sp (by simpa using e) with e | rfl
      · obtain ⟨N', e'⟩ := start_cons (N := N) (vs := vs) (v := .ref p)
        exact slok_shift ((hs i s e).2 (L2.start N' vs) H _ fun v hv => start_get hv) (by rw [e']; simp)
      · trivial
  · rw [e.2]; exact ⟨hB.1, by rw [hp]; simp, .inr rfl⟩
end
end G

set_option maxHeartbeats 4000000
/-! # G: loops -/
namespace G
variable [TabL]
open PySem PySem.Spec PyProof.Rows L2

/-! ### the mirrors of loops -/
inductive Step (ρ ς : Type) where
  | nx (s : ς)
  | brk (s : ς)
  | ret (b : ρ)
def forL {α ρ ς : Type} (f : α → ς → Option (Step ρ ς)) : List α → ς → Option (Step ρ ς)
  | [], s => some (.nx s)
  | x :: xs, s => match f x s with
    | none => none
    | some (.nx s') => forL f xs s'
    | some (.brk s') => some (.nx s')
    | some (.ret b) => some (.ret b)
def whL {ρ ς : Type} (c : ς → Option Bool) (f : ς → Option (Step ρ ς)) : Nat → ς → Option (Step ρ ς)
  | 0, _ => none
  | n + 1, s => match c s with
    | none => none
    | some false => some (.nx s)
    | some true => match f s with
      | none => none
      | some (.nx s') => whL c f n s'
      | some (.brk s') => some (.nx s')
      | some (.ret b) => some (.ret b)
def compL {α β : Type} (f : α → Option (Option β)) : List α → Option (List β)
  | [] => some []
  | x :: xs => match f x with
    | none => none
    | some none => compL f xs
    | some (some y) => match compL f xs with
      | none => none
      | some ys => some (y :: ys)
def compS {α β ς : Type} (f : α → ς → Option (Option β × ς)) : List α → ς → Option (List β × ς)
  | [], s => some ([], s)
  | x :: xs, s => match f x s with
    | none => none
    | some (none, s') => compS f xs s'
    | some (some y, s') => match compS f xs s' with
      | none => none
      | some (ys, s'') => some (y :: ys, s'')

/-! ### what is walked -/
structure Yl {α : Type} (Bx : Hp) (J : It) (r : Rp α) (xs : List α) : Prop where
  len : xs.length ≤ sizeLine
  stop : ∀ H B, Same Bx B → Same B H → J.stop xs.length H
  go : ∀ i H B, Same Bx B → Same B H → i < xs.length → J.go i H
  yld : ∀ (i : Nat) (x : α) H B v H', Same Bx B → Same B H → xs[i]? = some x → J.yld i H v H' → ∀ (A : Amb) (σ : L2.St) (Γ : List Sl), Frm A σ H B Γ → ∃ B', Frm A σ H' B' Γ ∧ Same B B' ∧ r.rel B' v x
def ItX {α : Type} (r : Rp α) (wi : TI) (Γ Γ' : List Sl) (xs : List α) : Prop := ∀ (A : Amb) (σ : L2.St) (H B : Hp), Frm A σ H B Γ → ∀ R : It → Hp → Prop, (∀ J H' B', Frm A σ H' B' Γ' → Same B B' → Yl B' J r xs → R J H') → wi σ H R
/-- the target of a store -/
def TgX {α : Type} (g : TG) (r : Rp α) (vs : List Nat) (Γ : List Sl) (Γf : α → List Sl) : Prop := ∀ (A : Amb) (σ : L2.St) (H B : Hp) (v : V) (x : α), Frm A σ H B Γ → r.rel B v x → ∀ Q : L2.St → Hp → Prop,
  (∀ σ', Frm A σ' H B (Γf x) → σ'.length = σ.length → (∀ k, k ∉ vs → σ'[k]? = σ[k]?) → Q σ' H) → g v σ H Q
section
variable {α β γ ρ ς : Type} {r ra : Rp α} {rb : Rp β} {te ta tb : TE} {Γ Γ1 Γ2 : List Sl} {xs : List α} {K : PySem.W.Frag}
theorem it_list (h : EvX (rLst r) te Γ Γ1 xs) : ItX r (iList K te) Γ Γ1 xs := fun A σ H B F R q => h A σ H B F _ fun v H' B' F' s k => by
  obtain ⟨p, o, rfl, hp, vs, rfl, kp⟩ := k
  refine ⟨p, rfl, ⟨vs, SqL.of (F'.bh _ _ hp)⟩, q _ H' B' F' s ⟨by rw [← Paired.len kp]; exact F'.sz _ _ (F'.bh _ _ hp), fun H2 B2 s1 s2 => ?_, fun i H2 B2 s1 s2 hi => ?_, fun i x H2 B2 v H3 s1 s2 hx hy A σ Γ F => ?_⟩⟩
  · exact ⟨vs, SqL.of (s2 _ _ (s1 _ _ hp)), by rw [Paired.len kp]; exact Nat.le_refl _⟩
  · obtain ⟨y, hy⟩ : ∃ y, vs[i]? = some y := ⟨_, List.getElem?_eq_getElem (by rw [Paired.len kp]; exact hi)⟩
    exact ⟨vs, y, SqL.of (s2 _ _ (s1 _ _ hp)), hy⟩
  · obtain ⟨rfl, hv⟩ := hy
    obtain ⟨y, hy, ky⟩ := Paired.getR kp hx
    have e := hv vs (SqL.of (s2 _ _ (s1 _ _ hp)))
    rw [hy] at e; cases e
    exact ⟨B2, F, Same.refl _, r.mono s1 ky⟩
theorem it_tpl (h : EvX (rTpl r) te Γ Γ1 xs) : ItX r (iTup K te) Γ Γ1 xs := fun A σ H B F R q => h A σ H B F _ fun v H' B' F' s k => by
  obtain ⟨p, o, rfl, hp, vs, rfl, kp⟩ := k
  refine ⟨p, rfl, ⟨vs, SqT.of (F'.bh _ _ hp)⟩, q _ H' B' F' s ⟨by rw [← Paired.len kp]; exact F'.sz _ _ (F'.bh _ _ hp), fun H2 B2 s1 s2 => ?_, fun i H2 B2 s1 s2 hi => ?_, fun i x H2 B2 v H3 s1 s2 hx hy A σ Γ F => ?_⟩⟩
  · exact ⟨vs, SqT.of (s2 _ _ (s1 _ _ hp)), by rw [Paired.len kp]; exact Nat.le_refl _⟩
  · obtain ⟨y, hy⟩ : ∃ y, vs[i]? = some y := ⟨_, List.getElem?_eq_getElem (by rw [Paired.len kp]; exact hi)⟩
    exact ⟨vs, y, SqT.of (s2 _ _ (s1 _ _ hp)), hy⟩
  · obtain ⟨rfl, hv⟩ := hy
    obtain ⟨y, hy, ky⟩ := Paired.getR kp hx
    have e := hv vs (SqT.of (s2 _ _ (s1 _ _ hp)))
    rw [hy] at e; cases e
    exact ⟨B2, F, Same.refl _, r.mono s1 ky⟩
/-- lo, lo + 1, .. -/
def rng (lo : Int) (n : Nat) : List Int := (List.range n).map fun (i : Nat) => lo + (i : Int)
theorem rng_len (lo : Int) (n : Nat) : (rng lo n).length = n := by unfold rng; rw [List.length_map, List.length_range]
theorem rng_get {lo : Int} {n i : Nat} {x : Int} (h : (rng lo n)[i]? = some x) : i < n ∧ x = lo + (i : Int) := by
  unfold rng at h
  rw [List.getElem?_map] at h
  cases e : (List.range n)[i]? with
  | none => rw [e] at h; cases h
  | some j =>
    rw [e] at h
    have hl : i < n := by have := (List.getElem?_eq_some_iff.mp e).1; rwa [List.length_range] at this
    rw [List.getElem?_range hl] at e
    cases e; cases h
    exact ⟨hl, rfl⟩
theorem yl_rng {Bx : Hp} {lo : Int} {n : Nat} (hn : n ≤ 1000000) : Yl Bx (Itr lo n) rInt (rng lo n) := ⟨by rw [rng_len]; exact Nat.le_trans hn (by decide), fun H B _ _ => by rw [rng_len]; exact Nat.le_refl _, fun i H B _ _ hi => by rw [rng_len] at hi; exact hi, fun i x H B v H' _ _ hx hy A σ Γ F => by
  obtain ⟨rfl, e⟩ := hy
  exact ⟨B, F, Same.refl _, by rw [(rng_get hx).2]; exact e⟩⟩
/-- range(j) -/
def pyRng (j : Int) : Option (List Int) := if -(2 ^ 62) ≤ j ∧ j ≤ 1000000 then some (rng 0 j.toNat) else none
def pyRng2 (i j : Int) : Option (List Int) := if (-(2 ^ 62) ≤ i ∧ i < 2 ^ 62 ∧ -(2 ^ 62) ≤ j ∧ j < 2 ^ 62) ∧ j - i ≤ 1000000 then some (rng i (j - i).toNat) else none
theorem it_rng1 {ta : TA} {j : Int} {l : List Int} (h : EvW (w1 rInt) ta Γ Γ1 j) (e : pyRng j = some l) : ItX rInt (iRng1 ta) Γ Γ1 l := fun A σ H B F R q => h A σ H B F _ fun vs H' B' F' s k => by
  obtain ⟨v, rfl, rfl⟩ := k
  unfold pyRng at e
  split at e
  · rename_i hj
    cases e
    exact ⟨j, rfl, hj.1, by omega, q _ H' B' F' s (yl_rng (by omega))⟩
  · cases e
theorem it_rng2 {ta : TA} {i j : Int} {l : List Int} (h : EvW (wC rInt (w1 rInt)) ta Γ Γ1 (i, j)) (e : pyRng2 i j = some l) : ItX rInt (iRng2 ta) Γ Γ1 l := fun A σ H B F R q => h A σ H B F _ fun vs H' B' F' s k => by
  obtain ⟨v, t, rfl, rfl, u, rfl, rfl⟩ := k
  unfold pyRng2 at e
  split at e
  · rename_i hj
    cases e
    exact ⟨i, j, rfl, hj.1, q _ H' B' F' s (yl_rng (by omega))⟩
  · cases e
/-- a text's signs -/
def sgn (z : Str) : List Str := z.cps.toList.map fun c => (⟨#[c]⟩ : Str)
def pySgn (z : Str) : Option (List Str) := if z.length ≤ 1000000 then some (sgn z) else none
theorem it_str {z : Str} {l : List Str} (h : EvX rStr te Γ Γ1 z) (e : pySgn z = some l) : ItX rStr (iStr te) Γ Γ1 l := fun A σ H B F R q => h A σ H B F _ fun v H' B' F' s k => by
  unfold pySgn at e
  split at e <;> cases e
  rename_i hz
  refine ⟨z, k, q _ H' B' F' s ⟨by unfold sgn; rw [List.length_map, Array.length_toList]; exact Nat.le_trans hz (by decide), fun H2 B2 _ _ => ?_, fun i H2 B2 _ _ hi => ?_, fun i x H2 B2 v H3 _ _ hx hy A σ Γ F => ?_⟩⟩
  · unfold sgn; rw [List.length_map]; first | exact rfl | exact Nat.le_refl _ | (simp [Its, Str.length])
  · unfold sgn at hi; rw [List.length_map] at hi; simpa [Its, Str.length] using hi
  · unfold sgn at hx
    rw [List.getElem?_map] at hx
    obtain ⟨rfl, hv⟩ := hy
    obtain ⟨c, hc, ev⟩ := hv
    have hc' : z.cps.toList[i]? = some c := by first | exact hc | simpa using hc
    rw [hc'] at hx
    cases hx
    exact ⟨B2, F, Same.refl _, ev⟩
/-! ### targets -/
theorem tg_name {j : Nat} : TgX (gName j) r [j] Γ (fun x => Γ.set j (.imm r x)) := fun A σ H B v x F k Q q => q _ (F.set k) (by rw [List.length_set]) fun n hn => by
  rw [List.getElem?_set_ne (fun e => hn (by rw [e]; exact List.mem_singleton.mpr rfl))]
/-- a tuple's parts -/
def TgW {α : Type} (g : TGs) (w : Rw α) (vs : List Nat) (Γ : List Sl) (Γf : α → List Sl) : Prop := ∀ (A : Amb) (σ : L2.St) (H B : Hp) (us : List V) (x : α), Frm A σ H B Γ → w.rel B us x → ∀ Q : L2.St → Hp → Prop,
  (∀ σ', Frm A σ' H B (Γf x) → σ'.length = σ.length → (∀ k, k ∉ vs → σ'[k]? = σ[k]?) → Q σ' H) → g us σ H Q
theorem tw_1 {g : TG} {vs : List Nat} {Γf : α → List Sl} (h : TgX g r vs Γ Γf) : TgW (gCons g gNil) (w1 r) vs Γ Γf := fun A σ H B us x F k Q q => by
  obtain ⟨v, rfl, k⟩ := k
  exact ⟨v, [], rfl, h A σ H B v x F k _ fun σ' F' l d => ⟨rfl, q σ' F' l d⟩⟩
theorem tw_C {g : TG} {gs : TGs} {w : Rw β} {vs ws : List Nat} {Γf : α → List Sl} {Γg : α → β → List Sl} (h : TgX g r vs Γ Γf) (hr : ∀ x, TgW gs w ws (Γf x) (Γg x)) : TgW (gCons g gs) (wC r w) (vs ++ ws) Γ (fun x => Γg x.1 x.2) := fun A σ H B us x F k Q q => by
  obtain ⟨v, t, rfl, k1, k2⟩ := k
  exact ⟨v, t, rfl, h A σ H B v x.1 F k1 _ fun σ' F' l d => hr x.1 A σ' H B t x.2 F' k2 _ fun σ2 F2 l2 d2 => q σ2 F2 (l2.trans l) fun k hk =>
    (d2 k fun z => hk (List.mem_append_right _ z)).trans (d k fun z => hk (List.mem_append_left _ z))⟩
theorem tg_tup {g : TGs} {n m : Nat} {w : Rw α} [i : WLen w m] {vs : List Nat} {Γf : α → List Sl} (h : TgW g w vs Γ Γf) (e : m = n := by rfl) : TgX (gTup K n g) (rTup w) vs Γ Γf := fun A σ H B v x F k Q q => by
  obtain ⟨p, us, rfl, hp, kw⟩ := ob_tup F.bh k
  exact ⟨p, us, rfl, SqT.of hp, (i.len kw).trans e, h A σ H B us x F kw Q q⟩
theorem nx_asgT {A : Amb} {D : Ends} {g : TG} {vs : List Nat} {Γf : α → List Sl} {a : α} (h : EvX r te Γ Γ1 a) (hg : TgX g r vs Γ1 Γf) (k : Nx A D.nx (Γf a)) : Nx A (tAsg te g D) Γ := fun σ H B F => h A σ H B F _ fun v H' B' F' _ q =>
  hg A σ H' B' v a F' q _ fun σ' F2 _ _ => k σ' H' B' F2

/-! ### for -/
def Amb.and (A : Amb) (Bx : Hp) : Amb := ⟨A.B0, A.H0, A.m, fun B => A.φ B ∧ Same Bx B, fun B B' s h => ⟨A.up B B' s h.1, h.2.trans s⟩⟩
theorem MH.and {A : Amb} {Bx : Hp} (h : MH A) : MH (A.and Bx) := ⟨h.al, h.nt, h.tb⟩
theorem Post.and {A : Amb} {H B Bx : Hp} (P : Post A H B) (s : Same Bx B) : Post (A.and Bx) H B := ⟨P.bh, P.b0, P.keep, P.out, P.alive, P.sub, P.mh.and, ⟨P.ph, s⟩, P.sz, P.tb⟩
theorem Post.unand {A : Amb} {H B Bx : Hp} (P : Post (A.and Bx) H B) : Post A H B := ⟨P.bh, P.b0, P.keep, P.out, P.alive, P.sub, ⟨P.mh.al, P.mh.nt, P.mh.tb⟩, P.ph.1, P.sz, P.tb⟩
theorem Frm.and {A : Amb} {σ : L2.St} {H B Bx : Hp} {Γ : List Sl} (F : Frm A σ H B Γ) (s : Same Bx B) : Frm (A.and Bx) σ H B Γ := by obtain ⟨ow, W⟩ := F.own; exact ⟨F.post.and s, F.len, ow, W.so, W.dj, W.ht⟩
theorem Frm.unand {A : Amb} {σ : L2.St} {H B Bx : Hp} {Γ : List Sl} (F : Frm (A.and Bx) σ H B Γ) : Frm A σ H B Γ := by obtain ⟨ow, W⟩ := F.own; exact ⟨F.post.unand, F.len, ow, W.so, W.dj, W.ht⟩
/-- what a body must do: from s with the step st -/
structure Conts {ρ ς : Type} (A : Amb) (ψ : ρ → Hp → Hp → V → Prop) (D : Ends) (mk : ς → List Sl) (st : Step ρ ς) : Prop where
  nx : ∀ s, st = .nx s → Nx A D.nx (mk s)
  ct : ∀ s, st = .nx s → Nx A D.ct (mk s)
  bk : ∀ s, st = .brk s → Nx A D.bk (mk s)
  rt : ∀ b, st = .ret b → Rt A ψ b D.rt
theorem nx_for {A : Amb} {ψ : ρ → Hp → Hp → V → Prop} {wi : TI} {g : TG} {tb : TS} {D : Ends} {vs : List Nat} (f : α → ς → Option (Step ρ ς)) (mk : ς → List Sl) {Γf : α → ς → List Sl} {s0 : ς} {R0 : Step ρ ς}
    (hi : ItX r wi Γ Γ1 xs) (e : forL f xs s0 = some R0) (h0 : ∀ A' : Amb, A'.m = A.m ∧ A'.H0 = A.H0 → Nx A' (Fin A' (mk s0)) Γ1)
    (hg : ∀ s, TgX g r vs (mk s) (fun x => Γf x s))
    (hb : ∀ (A' : Amb) (D' : Ends) (x : α) (s : ς) (st : Step ρ ς), A'.m = A.m ∧ A'.H0 = A.H0 → f x s = some st → Conts A' ψ D' mk st → Nx A' (tb D') (Γf x s))
    (hr : ∀ b, R0 = .ret b → Rt A ψ b D.rt) (hd : ∀ s, R0 = .nx s → Nx A D.nx (mk s)) : Nx A (tFor wi g tb D) Γ := fun σ H B F => by
  refine hi A σ H B F _ fun J H1 B1 F1 s1 Y => ?_
  refine ⟨fun i m σ H => m = xs.length - i ∧ i ≤ xs.length ∧ ∃ B s, Frm (A.and B1) σ H B (mk s) ∧ forL f (xs.drop i) s = some R0, ?_, ?_⟩
  · obtain ⟨B2, F2⟩ := h0 (A.and B1) ⟨rfl, rfl⟩ σ H1 B1 (F1.and (Same.refl _))
    exact ⟨_, rfl, Nat.zero_le _, B2, s0, F2, by rw [List.drop_zero]; exact e⟩
  · rintro i m σ2 H2 ⟨rfl, hi, B2, s2, F2, e2⟩
    by_cases hlt : i < xs.length
    · right
      have hx : xs[i]? = some xs[i] := List.getElem?_eq_getElem hlt
      rw [List.drop_eq_getElem_cons hlt] at e2
      refine ⟨Y.go i H2 B2 F2.ph.2 F2.bh hlt, fun σ3 H3 => ∃ s3, Fin (A.and B1) (mk s3) σ3 H3 ∧ forL f (xs.drop (i + 1)) s3 = some R0, fun σ3 H3 ⟨s3, ⟨B3, F3⟩, e3⟩ => ⟨_, by omega, rfl, by omega, B3, s3, F3, e3⟩, fun v H3 hy => ?_⟩
      obtain ⟨B3, F3, s3, k3⟩ := Y.yld i _ H2 B2 v H3 F2.ph.2 F2.bh hx hy (A.and B1) σ2 (mk s2) F2
      refine hg s2 (A.and B1) σ2 H3 B3 v xs[i] F3 k3 _ fun σ4 F4 _ _ => ?_
      unfold forL at e2
      cases q : f xs[i] s2 with
      | none => rw [q] at e2; cases e2
      | some st =>
        rw [q] at e2
        refine hb (A.and B1) _ xs[i] s2 st ⟨rfl, rfl⟩ q ⟨fun s5 z => ?_, fun s5 z => ?_, fun s5 z => ?_, fun b z => ?_⟩ σ4 H3 B3 F4
        · subst z
          exact fun σ5 H5 B5 F5 => ⟨s5, ⟨B5, F5⟩, e2⟩
        · subst z
          exact fun σ5 H5 B5 F5 => ⟨s5, ⟨B5, F5⟩, e2⟩
        · subst z
          exact fun σ5 H5 B5 F5 => hd s5 (Option.some.inj e2).symm σ5 H5 B5 F5.unand
        · subst z
          exact fun H5 B5 v5 P5 k5 => hr b (Option.some.inj e2).symm H5 B5 v5 P5.unand k5
    · left
      have hil : i = xs.length := by omega
      subst hil
      refine ⟨Y.stop H2 B2 F2.ph.2 F2.bh, ?_⟩
      rw [List.drop_length] at e2
      unfold forL at e2
      exact hd s2 (Option.some.inj e2).symm σ2 H2 B2 F2.unand
/-- while, by how many turns are left at most -/
theorem nx_while {A : Amb} {ψ : ρ → Hp → Hp → V → Prop} {tt : TT} {tb : TS} {D : Ends} (c : ς → Option Bool) (f : ς → Option (Step ρ ς)) (mk : ς → List Sl) {s0 : ς} {R0 : Step ρ ς} {n : Nat}
    (e : whL c f n s0 = some R0) (h0 : Nx A (Fin A (mk s0)) Γ) (ht : ∀ s b, c s = some b → EvT tt (mk s) (mk s) b)
    (hb : ∀ (D' : Ends) (s : ς) (st : Step ρ ς), c s = some true → f s = some st → Conts A ψ D' mk st → Nx A (tb D') (mk s))
    (hr : ∀ b, R0 = .ret b → Rt A ψ b D.rt) (hd : ∀ s, R0 = .nx s → Nx A D.nx (mk s)) : Nx A (tWhile tt tb D) Γ := fun σ H B F => by
  refine ⟨fun m σ H => ∃ B s, Frm A σ H B (mk s) ∧ whL c f m s = some R0, ?_, ?_⟩
  · obtain ⟨B1, F1⟩ := h0 σ H B F
    exact ⟨n, B1, s0, F1, e⟩
  · rintro m σ1 H1 ⟨B1, s1, F1, e1⟩
    cases m with
    | zero => cases e1
    | succ m =>
      unfold whL at e1
      cases q : c s1 with
      | none => rw [q] at e1; cases e1
      | some b =>
        rw [q] at e1
        refine ht s1 b q A σ1 H1 B1 F1 _ fun H2 B2 F2 s2 => ?_
        cases b with
        | false => exact hd s1 (Option.some.inj e1).symm σ1 H2 B2 F2
        | true =>
          refine ⟨fun σ3 H3 => ∃ s3, Fin A (mk s3) σ3 H3 ∧ whL c f m s3 = some R0, fun σ3 H3 ⟨s3, ⟨B3, F3⟩, e3⟩ => ⟨m, Nat.lt_succ_self m, B3, s3, F3, e3⟩, ?_⟩
          cases q2 : f s1 with
          | none => rw [q2] at e1; cases e1
          | some st =>
            rw [q2] at e1
            refine hb _ s1 st q q2 ⟨fun s5 z => ?_, fun s5 z => ?_, fun s5 z => ?_, fun b z => ?_⟩ σ1 H2 B2 F2
            · subst z
              exact fun σ5 H5 B5 F5 => ⟨s5, ⟨B5, F5⟩, e1⟩
            · subst z
              exact fun σ5 H5 B5 F5 => ⟨s5, ⟨B5, F5⟩, e1⟩
            · subst z
              exact hd s5 (Option.some.inj e1).symm
            · subst z
              exact hr b (Option.some.inj e1).symm

/-! ### comprehensions -/
theorem Frm.hidset {A : Amb} {σ : L2.St} {H B : Hp} {Γ : List Sl} {p : Addr} {o o' : HO} (F : Frm (A.add p o) σ H B Γ) (h0 : A.H0 p = none) (mh : MH A) (sub : Same A.B0 A.H0) (ho : szO o') : Frm (A.add p o') σ (upd H p o') B Γ := by
  have hBp : B p = none := F.hidB h0 sub
  have hm : ¬ A.m p := fun m => mh.al p m h0
  have nT : ¬ isTab p := fun m => mh.tb p m h0
  refine F.move ⟨fun b u e => ?_, F.b0, fun b u m nt e => ?_, fun b n z => ?_, fun b n => ?_, fun b u e => ?_, ⟨fun b m => ?_, mh.nt, fun b m => ?_⟩, F.ph, F.sz.upd ho, F.tb.upd nT⟩ (Same.refl _) fun q h => ⟨h.1, ?_, fun u hu => by rw [upd_ne (h.ne hm)]; exact hu⟩
  · have hb : b ≠ p := fun z => by rw [z, hBp] at e; cases e
    rw [upd_ne hb]; exact F.bh b u e
  · by_cases hb : b = p
    · subst hb
      have e' : upd A.H0 b o' b = some u := e
      rw [upd_same] at e'; rw [upd_same]; exact e'
    · have e' : upd A.H0 p o' b = some u := e
      rw [upd_ne hb] at e'; rw [upd_ne hb]
      exact F.keep b u m nt (by show upd A.H0 p o b = some u; rw [upd_ne hb]; exact e')
  · by_cases hb : b = p
    · rw [hb]; exact hBp
    · have n' : upd A.H0 p o' b ≠ none := n
      rw [upd_ne hb] at n'
      exact F.out b (by show upd A.H0 p o b ≠ none; rw [upd_ne hb]; exact n') z
  · by_cases hb : b = p
    · subst hb; rw [upd_same]; simp
    · have n' : upd A.H0 p o' b ≠ none := n
      rw [upd_ne hb] at n'; rw [upd_ne hb]
      exact F.alive b (by show upd A.H0 p o b ≠ none; rw [upd_ne hb]; exact n')
  · have hb : b ≠ p := fun z => by rw [z] at e; exact absurd (sub p u e) (by rw [h0]; simp)
    show upd A.H0 p o' b = some u
    rw [upd_ne hb]; exact sub b u e
  · have hb : b ≠ p := fun z => by rw [z] at m; exact hm m
    show upd A.H0 p o' b ≠ none
    rw [upd_ne hb]
    exact mh.al b m
  · by_cases hb : b = p
    · exact absurd (hb ▸ m) nT
    · show upd A.H0 p o' b ≠ none
      rw [upd_ne hb]; exact mh.tb b m
  · have hq := h.ne hm
    rcases h.2.2 with m | m
    · left
      have m' : upd A.H0 p o q = none := m
      rw [upd_ne hq] at m'
      show upd A.H0 p o' q = none
      rw [upd_ne hq]; exact m'
    · exact .inr m
/-- slots emptied -/
def wipeG (Γ : List Sl) : List Nat → List Sl
  | [] => Γ
  | v :: vs => (wipeG Γ vs).set v .no
theorem Frm.wipe {A : Amb} {σ : L2.St} {H B : Hp} {Γ : List Sl} (F : Frm A σ H B Γ) : ∀ vs : List Nat, Frm A (L2.wipe σ vs) H B (wipeG Γ vs)
  | [] => F
  | v :: vs => (F.wipe vs).put (σ' := (L2.wipe σ vs).set v none) (List.length_set) (fun j ne => by rw [List.getElem?_set_ne ne]) fun _ _ _ => trivial
theorem wipe_get (σ : L2.St) : ∀ (vs : List Nat) (k : Nat), (L2.wipe σ vs)[k]? = if k ∈ vs then (if k < σ.length then some none else none) else σ[k]?
  | [], k => by simp [L2.wipe]
  | v :: vs, k => by
    show ((L2.wipe σ vs).set v none)[k]? = _
    by_cases e : v = k
    · subst e
      rw [List.getElem?_set, if_pos rfl, if_pos (List.mem_cons_self), L2.wipe_length]
    · rw [List.getElem?_set_ne e, wipe_get σ vs k]
      have : (k ∈ v :: vs) ↔ k ∈ vs := by
        rw [List.mem_cons]; exact ⟨fun h => h.resolve_left fun z => e z.symm, .inr⟩
      simp only [this]
theorem wipe_same {σ σ' : L2.St} {vs : List Nat} (hl : σ'.length = σ.length) (h : ∀ k, k ∉ vs → σ'[k]? = σ[k]?) : L2.wipe σ' vs = L2.wipe σ vs := by
  apply List.ext_getElem?
  intro k
  rw [wipe_get, wipe_get, hl]
  by_cases hk : k ∈ vs
  · rw [if_pos hk, if_pos hk]
  · rw [if_neg hk, if_neg hk]; exact h k hk
theorem wipe_wipe {σ σ' : L2.St} {vs : List Nat} (hl : σ'.length = (L2.wipe σ vs).length) (h : ∀ k, k ∉ vs → σ'[k]? = (L2.wipe σ vs)[k]?) : L2.wipe σ' vs = L2.wipe σ vs :=
  wipe_same (by rw [hl, L2.wipe_length]) fun k hk => by rw [h k hk, wipe_get, if_neg hk]
theorem Frm.unwipe {A : Amb} {σ : L2.St} {H B : Hp} {Γ : List Sl} {vs : List Nat} (F : Frm A (L2.wipe σ vs) H B Γ) (hv : wipeG Γ vs = Γ) : Frm A σ H B Γ := by
  have no : ∀ (ws : List Nat) (k : Nat) (s : Sl), k ∈ ws → (wipeG Γ ws)[k]? = some s → s = .no := by
    intro ws
    induction ws with
    | nil => intro k s hk; cases hk
    | cons v ws ih =>
      intro k s hk e
      unfold wipeG at e
      rcases getset e with ⟨rfl, rfl, _⟩ | ⟨ne, e⟩
      · rfl
      · exact ih k s ((List.mem_cons.mp hk).resolve_left fun z => ne z.symm) e
  obtain ⟨ow, W⟩ := F.own
  refine ⟨F.post, by rw [← F.len, L2.wipe_length], ow, fun i s e => ?_, W.dj, W.ht⟩
  by_cases hi : i ∈ vs
  · have := no vs i s hi (by rw [hv]; exact e)
    subst this; trivial
  · exact slok_shift (W.so i s e) (by rw [wipe_get, if_neg hi])
/-- [e for x in xs if t], the state of the frame's own objects threaded -/
theorem ec_lcS {wi : TI} {g : TG} {tt : TT} {te : TE} {ws vs : List Nat} (f : α → ς → Option (Option β × ς)) (mk : ς → List Sl) {Γf : α → ς → List Sl} {s0 s1 : ς} {ys : List β}
    (hi : ItX r wi Γ Γ1 xs) (e : compS f xs s0 = some (ys, s1)) (h0 : ∀ A' : Amb, Nx A' (Fin A' (mk s0)) Γ1) (hv : ∀ s, wipeG (mk s) vs = mk s) (hg : ∀ s, TgX g r ws (mk s) (fun x => Γf x s)) (hw : ∀ k, k ∈ ws → k ∈ vs) (hm : ∀ x s, wipeG (Γf x s) vs = mk s)
    (hb : ∀ (x : α) (s : ς) (o : Option β) (s' : ς), f x s = some (o, s') → ∃ s2, EvT tt (Γf x s) (Γf x s2) o.isSome ∧ (∀ y, o = some y → EvX rb te (Γf x s2) (Γf x s') y) ∧ (o = none → s2 = s')) :
    EvC (cLst rb) (tLc wi g tt te vs) Γ (mk s1) ys := fun A σ H B F Q q => by
  refine hi A σ H B F _ fun J H1 B1 F1 sB1 Y => fun D hD => ?_
  obtain ⟨B2, F2⟩ := h0 (A.and B1) σ H1 B1 (F1.and (Same.refl _))
  have h0D : A.H0 D = none := F1.H0none hD
  have hmD : ¬ A.m D := fun m => F.mh.al D m h0D
  have F3 := F2.wipe vs
  rw [hv] at F3
  have F4 := F3.fresh (o := .lst []) hD (Nat.zero_le _)
  refine ⟨fun i m H => m = xs.length - i ∧ i ≤ xs.length ∧ ∃ B s acc dn rest, Frm ((A.and B1).add D (.lst acc)) (L2.wipe σ vs) H B (mk s) ∧ Paired (rb.rel B) acc dn ∧ acc.length ≤ i ∧ compS f (xs.drop i) s = some (rest, s1) ∧ dn ++ rest = ys, ?_, ?_⟩
  · exact ⟨_, rfl, Nat.zero_le _, B2, s0, [], [], ys, F4, .nil, Nat.le_refl _, by rw [List.drop_zero]; exact e, rfl⟩
  · rintro i m H2 ⟨rfl, hil, B3, s2, acc, dn, rest, F5, pa, hacc, e2, ed⟩
    by_cases hlt : i < xs.length
    · right
      have hx : xs[i]? = some xs[i] := List.getElem?_eq_getElem hlt
      rw [List.drop_eq_getElem_cons hlt] at e2
      refine ⟨Y.go i H2 B3 F5.ph.2 F5.bh hlt, fun H3 => ∃ B s acc dn rest, Frm ((A.and B1).add D (.lst acc)) (L2.wipe σ vs) H3 B (mk s) ∧ Paired (rb.rel B) acc dn ∧ acc.length ≤ i + 1 ∧ compS f (xs.drop (i + 1)) s = some (rest, s1) ∧ dn ++ rest = ys, fun H3 h3 => ⟨_, by omega, rfl, by omega, h3⟩, fun v H3 hy => ?_⟩
      obtain ⟨B4, F6, sB4, k4⟩ := Y.yld i _ H2 B3 v H3 F5.ph.2 F5.bh hx hy _ _ _ F5
      refine hg s2 _ _ H3 B4 v xs[i] F6 k4 _ fun σ4 F7 hl4 d4 => ⟨wipe_wipe hl4 fun k hk => d4 k fun z => hk (hw k z), ?_⟩
      have hwp := wipe_wipe hl4 fun k hk => d4 k fun z => hk (hw k z)
      unfold compS at e2
      cases q2 : f xs[i] s2 with
      | none => rw [q2] at e2; cases e2
      | some os =>
        obtain ⟨o, s'⟩ := os
        rw [q2] at e2
        obtain ⟨s3, hT, hE, hN⟩ := hb _ _ _ _ q2
        refine hT _ _ _ _ F7 _ fun H5 B5 F8 sB5 => ?_
        cases o with
        | none =>
          have F9 := F8.wipe vs
          rw [hm, hwp] at F9
          exact ⟨B5, s3, acc, dn, rest, F9, Paired.monoR (sB4.trans sB5) pa, by omega, by rw [hN rfl]; exact e2, ed⟩
        | some y =>
          refine hE y rfl _ _ _ _ F8 _ fun u H6 B6 F9 sB6 k6 => ?_
          have hid := F9.hid (A := A.and B1) h0D F.mh.and
          refine ⟨acc, hid, Nat.lt_of_lt_of_le (Nat.lt_of_le_of_lt hacc hlt) Y.len, ?_⟩
          have F10 := F9.wipe vs
          rw [hm, hwp] at F10
          have hlen : (acc ++ [u]).length ≤ sizeLine := by rw [List.length_append, List.length_singleton]; exact Nat.le_trans (by omega) Y.len
          have F11 := F10.hidset (A := A.and B1) (o' := .lst (acc ++ [u])) h0D F.mh.and F.sub hlen
          dsimp only at e2
          cases q3 : compS f (xs.drop (i + 1)) s' with
          | none => rw [q3] at e2; cases e2
          | some z =>
            obtain ⟨r3, s4⟩ := z
            rw [q3] at e2
            cases e2
            exact ⟨B6, s', acc ++ [u], dn ++ [y], r3, F11, Paired.app (Paired.monoR ((sB4.trans sB5).trans sB6) pa) (.cons k6 .nil), by rw [List.length_append, List.length_singleton]; omega, q3, by rw [← ed, List.append_assoc]; rfl⟩
    · left
      have hil : i = xs.length := by omega
      subst hil
      refine ⟨Y.stop H2 B3 F5.ph.2 F5.bh, ?_⟩
      rw [List.drop_length] at e2
      unfold compS at e2
      cases e2
      have F6 := F5.unwipe (hv _)
      have F7 : Frm ((A.add D (.lst acc)).and B1) σ H2 B3 _ := F6
      refine q D (.lst acc) H2 B3 F7.unand h0D (sB1.trans F5.ph.2) ⟨acc, rfl, ?_⟩
      rw [List.append_nil] at ed
      rw [← ed]; exact pa
theorem compS_L (f : α → Option (Option β)) : ∀ {xs : List α} {ys : List β}, compL f xs = some ys → compS (fun x (_ : Unit) => (f x).map fun o => (o, ())) xs () = some (ys, ())
  | [], ys, h => by unfold compL at h; cases h; rfl
  | x :: xs, ys, h => by
    unfold compL at h
    unfold compS
    cases q : f x with
    | none => rw [q] at h; cases h
    | some o =>
      rw [q] at h
      cases o with
      | none => exact compS_L f h
      | some y =>
        cases q2 : compL f xs with
        | none => rw [q2] at h; cases h
        | some zs =>
          rw [q2] at h
          cases h
          have := compS_L f q2
          dsimp only [Option.map_some]
          rw [this]
theorem ec_lc {wi : TI} {g : TG} {tt : TT} {te : TE} {ws vs : List Nat} (f : α → Option (Option β)) {Γf : α → List Sl} {ys : List β}
    (hi : ItX r wi Γ Γ1 xs) (e : compL f xs = some ys) (hg : TgX g r ws (wipeG Γ1 vs) Γf) (hw : ∀ k, k ∈ ws → k ∈ vs) (hv : wipeG Γ1 vs = Γ1) (hm : ∀ x, wipeG (Γf x) vs = Γ1)
    (hb : ∀ (x : α) (o : Option β), f x = some o → EvT tt (Γf x) (Γf x) o.isSome ∧ (∀ y, o = some y → EvX rb te (Γf x) (Γf x) y)) : EvC (cLst rb) (tLc wi g tt te vs) Γ Γ1 ys :=
  ec_lcS (ς := Unit) _ (fun _ => Γ1) (Γf := fun x _ => Γf x) hi (compS_L f e) (fun A' => nx_fin) (fun _ => hv) (fun _ => by rw [hv] at hg; exact hg) hw (fun x _ => hm x) fun x s o s' h => by
    cases q : f x with
    | none => simp [q] at h
    | some o' =>
      simp [q] at h
      subst h
      exact ⟨s, (hb x o' q).1, fun y hy => (hb x o' q).2 y hy, fun _ => rfl⟩
/-- no test -/
theorem et_yes {Γ : List Sl} : EvT tYes Γ Γ true := fun A σ H B F Q q => q H B F (Same.refl _)
end
end G

set_option maxHeartbeats 4000000
/-! # G: built-ins, the frame's own objects -/
namespace G
variable [TabL]
open PySem PySem.Spec PyProof.Rows L2
section
variable {α β γ ρ ς : Type} {r ra : Rp α} {rb : Rp β} {c : Cl α} {te ta tb : TE} {Γ Γ1 Γ2 Γ3 : List Sl} {xs : List α} {K : PySem.W.Frag} {a : α} {b : β} {w : Rw α} {p : Addr} {i : Nat}
/-- a list that the program was handed -/
def rScr (K : PySem.W.Frag) : Rp (List Int) := ⟨fun H v ns => ∃ a, v = .ref a ∧ SqL K H a (ns.map V.int), fun s ⟨a, e, h⟩ => ⟨a, e, s.seq h⟩⟩
/-! ### partial operations -/
def pyMod (i j : Int) : Option Int := if 0 < j then some (i % j) else none
def pyDiv (i j : Int) : Option Int := if 0 < j ∧ j.natAbs.log2 < 9000 then some (i / j) else none
def pyMul (i j : Int) : Option Int := if (-(2 ^ 64) < i ∧ i < 2 ^ 64) ∨ (-(2 ^ 64) < j ∧ j < 2 ^ 64) then some (i * j) else none
def pyPow (i j : Int) : Option Int := if 0 ≤ j ∧ j ≤ 1000000 ∧ i.natAbs < 2 ^ 64 then some (i ^ j.toNat) else none
def pyLenS (z : Str) : Option Int := if z.length ≤ sizeLine then some (z.length : Int) else none
def pyAddS (x y : Str) : Option Str := if x.length + y.length ≤ sizeLine then some (x ++ y) else none
def pyIxS (z : Str) (i : Int) : Option Str := if z.length ≤ sizeLine then (atI z.cps.toList i).map fun c => (⟨#[c]⟩ : Str) else none
def pySlS (z : Str) (lo hi : Option Int) : Option Str := if z.length ≤ sizeLine then some (Txt.slice z lo hi) else none
def pyInSg (x z : Str) : Option Bool := match x.cps.toList with
  | [c] => some (decide (c ∈ z.cps.toList))
  | _ => none
theorem ev_modP {i j k : Int} (ha : EvX rInt ta Γ Γ1 i) (hb : EvX rInt tb Γ1 Γ2 j) (e : pyMod i j = some k) : EvX rInt (tOp (rI (fun _ j => 0 < j) fun i j => .int (i % j)) ta tb) Γ Γ2 k := by
  unfold pyMod at e; split at e <;> cases e
  exact ev_mod ha hb (by assumption)
theorem ev_divP {i j k : Int} (ha : EvX rInt ta Γ Γ1 i) (hb : EvX rInt tb Γ1 Γ2 j) (e : pyDiv i j = some k) : EvX rInt (tOp (rI CDivW fun i j => .int (i / j)) ta tb) Γ Γ2 k := by
  unfold pyDiv at e; split at e <;> cases e
  exact ev_divW ha hb (by assumption)
theorem ev_mulP {i j k : Int} (ha : EvX rInt ta Γ Γ1 i) (hb : EvX rInt tb Γ1 Γ2 j) (e : pyMul i j = some k) : EvX rInt (tOp (rI CMul fun i j => .int (i * j)) ta tb) Γ Γ2 k := by
  unfold pyMul at e; split at e <;> cases e
  exact ev_mul ha hb (by assumption)
theorem ev_powP {i j k : Int} (ha : EvX rInt ta Γ Γ1 i) (hb : EvX rInt tb Γ1 Γ2 j) (e : pyPow i j = some k) : EvX rInt (tOp (rI CPow fun i j => .int (i ^ j.toNat)) ta tb) Γ Γ2 k := by
  unfold pyPow at e; split at e <;> cases e
  exact ev_pow ha hb (by assumption)
theorem ev_addS {x y z : Str} (ha : EvX rStr ta Γ Γ1 x) (hb : EvX rStr tb Γ1 Γ2 y) (e : pyAddS x y = some z) : EvX rStr (tOp (fun x y H Q => ∃ i j, x = .str i ∧ y = .str j ∧ i.length + j.length ≤ sizeLine ∧ Q (.str (i ++ j)) H) ta tb) Γ Γ2 z := by
  unfold pyAddS at e; split at e <;> cases e
  exact ev_op ha hb fun H B u v _ ku kv Q q => ⟨x, y, ku, kv, by assumption, q _ rfl⟩
theorem ev_ixS {z c : Str} {i : Int} (ha : EvX rStr ta Γ Γ1 z) (hb : EvX rInt tb Γ1 Γ2 i) (e : pyIxS z i = some c) : EvX rStr (tOp rIxS ta tb) Γ Γ2 c := by
  unfold pyIxS at e; split at e
  · rename_i hz
    cases q : atI z.cps.toList i with
    | none => rw [q] at e; cases e
    | some n =>
      rw [q] at e; cases e
      exact ev_op ha hb fun H B u v _ ku kv Q k => ⟨z, i, n, ku, kv, hz, q, k _ rfl⟩
  · cases e
theorem sg_of {x : Str} {c : Nat} (h : x.cps.toList = [c]) : x = ⟨#[c]⟩ := by
  cases x with
  | mk cps => simp only at h; congr 1; exact Array.toList_inj.mp h
theorem ev_inSg {x z : Str} {b : Bool} (ha : EvX rStr ta Γ Γ1 x) (hb : EvX rStr tb Γ1 Γ2 z) (e : pyInSg x z = some b) : EvX rBool (tOp (fun x y H Q => ∃ (c : Nat) (z : Str), x = .str ⟨#[c]⟩ ∧ y = .str z ∧ Q (.bl (decide (c ∈ z.cps.toList))) H) ta tb) Γ Γ2 b := by
  unfold pyInSg at e; split at e
  · rename_i c hc
    cases e
    exact ev_op ha hb fun H B u v _ ku kv Q k => ⟨c, z, by rw [ku, sg_of hc], kv, k _ rfl⟩
  · cases e
theorem ev_ninSg {x z : Str} {b : Bool} (ha : EvX rStr ta Γ Γ1 x) (hb : EvX rStr tb Γ1 Γ2 z) (e : pyInSg x z = some b) : EvX rBool (tOp (fun x y H Q => ∃ (c : Nat) (z : Str), x = .str ⟨#[c]⟩ ∧ y = .str z ∧ Q (.bl (!decide (c ∈ z.cps.toList))) H) ta tb) Γ Γ2 (!b) := by
  unfold pyInSg at e; split at e
  · rename_i c hc
    cases e
    exact ev_op ha hb fun H B u v _ ku kv Q k => ⟨c, z, by rw [ku, sg_of hc], kv, k _ rfl⟩
  · cases e
/-! ### slices -/
def EvO (t : TO) (Γ Γ' : List Sl) (o : Option Int) : Prop := ∀ (A : Amb) (σ : L2.St) (H B : Hp), Frm A σ H B Γ → ∀ Q : Option Int → Hp → Prop, (∀ H' B', Frm A σ H' B' Γ' → Same B B' → Q o H') → t σ H Q
theorem eo_none : EvO tNoPart Γ Γ none := fun A σ H B F Q q => q H B F (Same.refl _)
theorem eo_some {j : Int} (h : EvX rInt te Γ Γ1 j) : EvO (tPart te) Γ Γ1 (some j) := fun A σ H B F Q q => h A σ H B F _ fun v H' B' F' s k => ⟨j, k, q H' B' F' s⟩
theorem ev_slS {z y : Str} {lo hi : Option Int} {tl th : TO} (h : EvX rStr te Γ Γ1 z) (hl : EvO tl Γ1 Γ2 lo) (hh : EvO th Γ2 Γ3 hi) (e : pySlS z lo hi = some y) : EvX rStr (L2.tSl C8.rSlX te tl th) Γ Γ3 y := by
  unfold pySlS at e; split at e <;> cases e
  exact fun A σ H B F Q q => h A σ H B F _ fun v H1 B1 F1 s1 k1 => hl A σ H1 B1 F1 _ fun H2 B2 F2 s2 => hh A σ H2 B2 F2 _ fun H3 B3 F3 s3 => ⟨z, k1, by assumption, q _ H3 B3 F3 ((s1.trans s2).trans s3) rfl⟩
def cut {α : Type} (xs : List α) (lo hi : Option Int) : List α := (xs.drop (HT.sIx xs.length 0 lo)).take (HT.sIx xs.length xs.length hi - HT.sIx xs.length 0 lo)
theorem paired_cut {F : V → α → Prop} {vs : List V} {lo hi : Option Int} (h : Paired F vs xs) : Paired F (cutV vs lo hi) (cut xs lo hi) := by
  unfold cutV cut
  rw [Paired.len h]
  exact Paired.takeN _ (Paired.dropN _ h)
theorem cut_len (lo hi : Option Int) (vs : List V) : (cutV vs lo hi).length ≤ vs.length := by
  unfold cutV
  rw [List.length_take, List.length_drop]; omega
theorem ec_slL {lo hi : Option Int} {tl th : TO} (h : EvX (rLst r) te Γ Γ1 xs) (hl : EvO tl Γ1 Γ2 lo) (hh : EvO th Γ2 Γ3 hi) : EvC (cLst r) (L2.tSl (rSlL K) te tl th) Γ Γ3 (cut xs lo hi) :=
  fun A σ H B F Q q => h A σ H B F _ fun v H1 B1 F1 s1 k1 => hl A σ H1 B1 F1 _ fun H2 B2 F2 s2 => hh A σ H2 B2 F2 _ fun H3 B3 F3 s3 => by
    obtain ⟨a, vs, rfl, ha, pv⟩ := ob_lst F3.bh ((rLst r).mono (s2.trans s3) k1)
    exact ⟨a, vs, rfl, SqL.of ha, fun l hl => ec_fresh (c := cLst r) (o := .lst (cutV vs lo hi)) F3 hl (Nat.le_trans (cut_len lo hi vs) (F3.sz _ _ ha)) (fun p o H2 B2 F2 n2 s4 k2 => q p o H2 B2 F2 n2 (((s1.trans s2).trans s3).trans s4) k2) ⟨_, rfl, paired_cut pv⟩⟩
/-! ### built-ins of one argument -/
theorem ev_B1 {R : List V → Hp → VK → Prop} (h : EvX ra ta Γ Γ1 a) (k : ∀ (H B : Hp) (u : V), Sz H → Same B H → ra.rel B u a → ∀ Q : VK, (∀ o, rb.rel B o b → Q o H) → R [u] H Q) : EvX rb (tCB R (tCons ta tNil)) Γ Γ1 b := fun A σ H B F Q q =>
  h A σ H B F _ fun v H1 B1 F1 s1 k1 => k H1 B1 v F1.sz F1.bh k1 Q fun o ko => q o H1 B1 F1 s1 ko
theorem ec_B1 {R : List V → Hp → VK → Prop} {cb : Cl β} (h : EvX ra ta Γ Γ1 a) (k : ∀ (H B : Hp) (u : V), Sz H → Same B H → ra.rel B u a → ∀ Q : VK, (∀ p o, H p = none → szO o → cb.ok B o b → Q (.ref p) (upd H p o)) → R [u] H Q) : EvC cb (tCB R (tCons ta tNil)) Γ Γ1 b := fun A σ H B F Q q =>
  h A σ H B F _ fun v H1 B1 F1 s1 k1 => k H1 B1 v F1.sz F1.bh k1 Q fun p o hp ho ko => q p o _ B1 (F1.fresh hp ho) (F1.H0none hp) s1 ko
abbrev RLen (K : PySem.W.Frag) : List V → Hp → VK → Prop := fun xs H Q => ∃ p ys, xs = [.ref p] ∧ (SqL K H p ys ∨ SqT K H p ys) ∧ Q (.int ys.length) H
theorem ev_lenL (h : EvX (rLst r) ta Γ Γ1 xs) : EvX rInt (tCB (RLen K) (tCons ta tNil)) Γ Γ1 (xs.length : Int) := ev_B1 h fun H B u _ s k Q q => by
  obtain ⟨p, vs, rfl, hp, kv⟩ := ob_lst s k
  exact ⟨p, vs, rfl, .inl (SqL.of hp), q _ (by rw [Paired.len kv]; rfl)⟩
theorem ev_lenT (h : EvX (rTpl r) ta Γ Γ1 xs) : EvX rInt (tCB (RLen K) (tCons ta tNil)) Γ Γ1 (xs.length : Int) := ev_B1 h fun H B u _ s k Q q => by
  obtain ⟨p, vs, rfl, hp, kv⟩ := ob_tpl s k
  exact ⟨p, vs, rfl, .inr (SqT.of hp), q _ (by rw [Paired.len kv]; rfl)⟩
theorem ev_lenC {ns : List Int} (h : EvX (rScr K) ta Γ Γ1 ns) : EvX rInt (tCB (RLen K) (tCons ta tNil)) Γ Γ1 (ns.length : Int) := ev_B1 h fun H B u _ s k Q q => by
  obtain ⟨p, rfl, hp⟩ := k
  exact ⟨p, _, rfl, .inl (s.seq hp), q _ (by rw [List.length_map]; rfl)⟩
theorem ev_lenS {z : Str} {n : Int} (h : EvX rStr ta Γ Γ1 z) (e : pyLenS z = some n) : EvX rInt (tCB (fun xs H Q => ∃ z, xs = [.str z] ∧ z.length ≤ sizeLine ∧ Q (.int z.length) H) (tCons ta tNil)) Γ Γ1 n := by
  unfold pyLenS at e; split at e <;> cases e
  exact ev_B1 h fun H B u _ s k Q q => ⟨z, by rw [k], by assumption, q _ rfl⟩
theorem ev_int1 {j : Int} (h : EvX rInt ta Γ Γ1 j) : EvX rInt (tCB (fun xs H Q => (∃ i, xs = [.int i] ∧ Q (.int i) H) ∨ ∃ k, xs = [.bl k] ∧ Q (.int (if k then 1 else 0)) H) (tCons ta tNil)) Γ Γ1 j := ev_B1 h fun H B u _ s k Q q => .inl ⟨j, by rw [k], q _ rfl⟩
abbrev RList (K : PySem.W.Frag) : List V → Hp → VK → Prop := fun xs H Q => ∃ p ys, xs = [.ref p] ∧ (SqL K H p ys ∨ SqT K H p ys) ∧ ∀ l, H l = none → Q (.ref l) (upd H l (.lst ys))
theorem ec_listL (h : EvX (rLst r) ta Γ Γ1 xs) : EvC (cLst r) (tCB (RList K) (tCons ta tNil)) Γ Γ1 xs := ec_B1 h fun H B u z s k Q q => by
  obtain ⟨p, vs, rfl, hp, kv⟩ := ob_lst s k
  exact ⟨p, vs, rfl, .inl (SqL.of hp), fun l hl => q l _ hl (show vs.length ≤ sizeLine from z p _ hp) ⟨vs, rfl, kv⟩⟩
theorem ec_listT (h : EvX (rTpl r) ta Γ Γ1 xs) : EvC (cLst r) (tCB (RList K) (tCons ta tNil)) Γ Γ1 xs := ec_B1 h fun H B u z s k Q q => by
  obtain ⟨p, vs, rfl, hp, kv⟩ := ob_tpl s k
  exact ⟨p, vs, rfl, .inr (SqT.of hp), fun l hl => q l _ hl (show vs.length ≤ sizeLine from z p _ hp) ⟨vs, rfl, kv⟩⟩
theorem paired_ints : ∀ (ns : List Int) (B : Hp), Paired (rInt.rel B) (ns.map V.int) ns
  | [], _ => .nil
  | n :: ns, B => .cons rfl (paired_ints ns B)
def pyScr (ns : List Int) : Option (List Int) := if ns.length ≤ 100000 then some ns else none
theorem ec_listC {ns l : List Int} (h : EvX (rScr K) ta Γ Γ1 ns) (e : pyScr ns = some l) : EvC (cLst rInt) (tCB (RList K) (tCons ta tNil)) Γ Γ1 l := by
  unfold pyScr at e; split at e <;> cases e
  rename_i hl
  exact ec_B1 h fun H B u z s k Q q => by
    obtain ⟨p, rfl, hp⟩ := k
    exact ⟨p, _, rfl, .inl (s.seq hp), fun l hl => q l _ hl (by show (ns.map V.int).length ≤ _; rw [List.length_map]; exact Nat.le_trans (by assumption) (by decide)) ⟨_, rfl, paired_ints ns B⟩⟩
theorem ev_ixC {ns : List Int} {j v : Int} (ha : EvX (rScr K) ta Γ Γ1 ns) (hb : EvX rInt tb Γ1 Γ2 j) (e : atI ns j = some v) : EvX rInt (tOp (rIxL K) ta tb) Γ Γ2 v :=
  ev_op ha hb fun H B u w s ku kw Q q => by
    obtain ⟨p, rfl, hp⟩ := ku
    obtain ⟨o, ho, ko⟩ := atI_rel (paired_ints ns B) e
    exact ⟨p, _, j, o, rfl, kw, s.seq hp, ho, q o ko⟩
theorem ec_tupL (h : EvX (rLst r) ta Γ Γ1 xs) : EvC (cTpl r) (tCB (fun xs H Q => ∃ p ys, xs = [.ref p] ∧ ((SqL K H p ys ∧ ∀ l, H l = none → Q (.ref l) (upd H l (.tup ys))) ∨ (SqT K H p ys ∧ Q (.ref p) H))) (tCons ta tNil)) Γ Γ1 xs := ec_B1 h fun H B u z s k Q q => by
  obtain ⟨p, vs, rfl, hp, kv⟩ := ob_lst s k
  exact ⟨p, vs, rfl, .inl ⟨SqL.of hp, fun l hl => q l _ hl (show vs.length ≤ sizeLine from z p _ hp) ⟨vs, rfl, kv⟩⟩⟩
theorem ev_tupT (h : EvX (rTpl r) ta Γ Γ1 xs) : EvX (rTpl r) (tCB (fun xs H Q => ∃ p ys, xs = [.ref p] ∧ ((SqL K H p ys ∧ ∀ l, H l = none → Q (.ref l) (upd H l (.tup ys))) ∨ (SqT K H p ys ∧ Q (.ref p) H))) (tCons ta tNil)) Γ Γ1 xs := ev_B1 h fun H B u _ s k Q q => by
  obtain ⟨p, vs, e, hp, kv⟩ := ob_tpl s k
  exact ⟨p, vs, by rw [e], .inr ⟨SqT.of hp, by rw [← e]; exact q _ k⟩⟩
theorem ev_allL {bs : List Bool} (h : EvX (rLst rBool) ta Γ Γ1 bs) : EvX rBool (tCB (rAll K) (tCons ta tNil)) Γ Γ1 (bs.all id) := ev_B1 h fun H B u _ s k Q q => by
  obtain ⟨p, vs, rfl, hp, kv⟩ := ob_lst s k
  exact ⟨p, bs, rfl, by rw [← Paired.mapEq (fun a b h => h) kv]; exact SqL.of hp, q _ rfl⟩
/-! ### the frame's own objects -/
theorem cel_at {A : Amb} {σ : L2.St} {H B : Hp} (F : Frm A σ H B Γ) (h : Γ[i]? = some (.cel p c a)) : σ[i]? = some (some (V.ref p)) ∧ ∃ o, H p = some o ∧ c.ok B o a := by
  obtain ⟨e, _, _, o, ho, k⟩ := F.sl i _ h
  exact ⟨e, o, ho, k⟩
/-- an item of the frame's own list of known form -/
theorem ev_celR {k : Nat} {f : α → β} (h : Γ[i]? = some (.cel p (cHls w) a)) (g : Acc w k rb f) : EvX rb (tOp (rIxL K) (tVar i) (tC (.int (k : Int)))) Γ Γ (f a) := fun A σ H B F Q q => by
  obtain ⟨e, o, ho, vs, rfl, kw⟩ := cel_at F h
  obtain ⟨u, hu, ku⟩ := g B vs a kw
  exact ⟨_, e, p, vs, (k : Int), u, rfl, rfl, SqL.of ho, atI_nat hu, q u H B F (Same.refl _) ku⟩
/-- such an item is stored -/
def Upd {α β : Type} (w : Rw α) (k : Nat) (r : Rp β) (f : α → β → α) : Prop := ∀ B vs a v b, w.rel B vs a → r.rel B v b → k < vs.length ∧ w.rel B (vs.set k v) (f a b)
theorem upd1 : Upd (w1 ra) 0 ra (fun _ b => b) := fun B vs a v b ⟨u, e, _⟩ k => ⟨by rw [e]; exact Nat.zero_lt_one, v, by rw [e]; rfl, k⟩
theorem upd0 {w : Rw β} : Upd (wC ra w) 0 ra (fun a b => (b, a.2)) := fun B vs a v b ⟨u, t, e, _, q⟩ k => ⟨by rw [e, List.length_cons]; omega, v, t, by rw [e]; rfl, k, q⟩
theorem updS {w : Rw β} {rc : Rp γ} {k : Nat} {f : β → γ → β} (h : Upd w k rc f) : Upd (wC ra w) (k + 1) rc (fun a b => (a.1, f a.2 b)) := fun B vs a v b ⟨u, t, e, q1, q2⟩ kv => by
  obtain ⟨h1, h2⟩ := h B t a.2 v b q2 kv
  exact ⟨by rw [e, List.length_cons]; omega, u, t.set k v, by rw [e]; rfl, q1, h2⟩
theorem nx_setR {A : Amb} {D : Ends} {k : Nat} {f : α → β → α} (h : EvX rb te Γ Γ1 b) (hi : Γ1[i]? = some (.cel p (cHls w) a)) (g : Upd w k rb f) (n : Nx A D.nx (Γ1.set i (.cel p (cHls w) (f a b)))) : Nx A (tAsg te (gSub (tVar i) (tC (.int (k : Int))) rSetL) D) Γ := fun σ H B F =>
  h A σ H B F _ fun v H1 B1 F1 s1 k1 => by
    obtain ⟨e, o, ho, vs, rfl, kw⟩ := cel_at F1 hi
    obtain ⟨hk, kw'⟩ := g B1 vs a v b kw k1
    refine ⟨_, e, p, vs, (k : Int), k, rfl, rfl, ho, ?_, ?_⟩
    · unfold ixN; rw [if_pos (by omega), if_pos (by omega)]; simp
    · exact n σ _ B1 (F1.write hi (c' := cHls w) (o' := .lst (vs.set k v)) ⟨_, rfl, kw'⟩ (by show (vs.set k v).length ≤ _; rw [List.length_set]; exact F1.sz _ _ ho))
end
end G

set_option maxHeartbeats 4000000
/-! # G: how mirrors are written; small words -/
namespace G
variable [TabL]
open PySem PySem.Spec PyProof.Rows L2
section
variable {α β γ ρ ς τ : Type}
def bindO (e : Option α) (k : α → Option β) : Option β := match e with
  | none => none
  | some x => k x
def letO (e : α) (k : α → Option β) : Option β := k e
def iteO (c : Bool) (x y : Option β) : Option β := match c with
  | true => x
  | false => y
def stepO (R : Step ρ ς) (k : ς → Option ρ) : Option ρ := match R with
  | .ret b => some b
  | .nx s => k s
  | .brk _ => none
def stepL (R : Step ρ ς) (k : ς → Option (Step ρ τ)) : Option (Step ρ τ) := match R with
  | .ret b => some (.ret b)
  | .nx s => k s
  | .brk _ => none
theorem bindO_some {e : Option α} {k : α → Option β} {b : β} (h : bindO e k = some b) : ∃ x, e = some x ∧ k x = some b := by
  cases e with
  | none => cases h
  | some x => exact ⟨x, rfl, h⟩
theorem letO_some {e : α} {k : α → Option β} {b : β} (h : letO e k = some b) : ∃ x, x = e ∧ k x = some b := ⟨e, rfl, h⟩
theorem iteO_t {c : Bool} {x y : Option β} {b : Option β} (hc : c = true) (h : iteO c x y = b) : x = b := by subst hc; exact h
theorem iteO_f {c : Bool} {x y : Option β} {b : Option β} (hc : c = false) (h : iteO c x y = b) : y = b := by subst hc; exact h
theorem stepO_ret {b b' : ρ} {k : ς → Option ρ} (h : stepO (.ret b) k = some b') : b = b' := Option.some.inj h
theorem stepO_nx {s : ς} {k : ς → Option ρ} {b : Option ρ} (h : stepO (.nx s) k = b) : k s = b := h
theorem stepL_ret {b : ρ} {k : ς → Option (Step ρ τ)} {st : Step ρ τ} (h : stepL (.ret b) k = some st) : st = .ret b := (Option.some.inj h).symm
theorem stepL_nx {s : ς} {k : ς → Option (Step ρ τ)} {b : Option (Step ρ τ)} (h : stepL (.nx s) k = b) : k s = b := h
@[simp] theorem bindO_s (x : α) (k : α → Option β) : bindO (some x) k = k x := rfl
@[simp] theorem bindO_n (k : α → Option β) : bindO none k = none := rfl
@[simp] theorem letO_s (x : α) (k : α → Option β) : letO x k = k x := rfl
@[simp] theorem iteO_T (x y : Option β) : iteO true x y = x := rfl
@[simp] theorem iteO_F (x y : Option β) : iteO false x y = y := rfl
@[simp] theorem stepO_N (s : ς) (k : ς → Option ρ) : stepO (.nx s) k = k s := rfl
@[simp] theorem stepO_R (b : ρ) (k : ς → Option ρ) : stepO (.ret b) k = some b := rfl
@[simp] theorem stepL_N (s : ς) (k : ς → Option (Step ρ τ)) : stepL (.nx s) k = k s := rfl
@[simp] theorem stepL_R (b : ρ) (k : ς → Option (Step ρ τ)) : stepL (.ret b) k = some (.ret b) := rfl
end
section
variable {α β γ ρ ς : Type} {r : Rp α} {rb : Rp β} {c : Cl α} {te ta : TE} {tt : TT} {Γ Γ1 : List Sl} {a a' : α} {b b' : Bool} {A : Amb} {P : L2.St → Hp → Prop} {D : Ends} {i : Nat} {p : Addr} {K : PySem.W.Frag} {xs : List α}
theorem et_to (h : EvT tt Γ Γ1 b) (e : b = b') : EvT tt Γ Γ1 b' := e ▸ h
theorem ec_to (h : EvC c te Γ Γ1 a) (e : a = a') : EvC c te Γ Γ1 a' := e ▸ h
theorem nx_go {σ : L2.St} {H B : Hp} (F : Frm A σ H B Γ) (h : Nx A P Γ) : P σ H := h σ H B F
/-- the datum of the frame's own object by another name -/
theorem nx_cel (h : Γ[i]? = some (.cel p c a)) (e : a = a') (k : Nx A P (Γ.set i (.cel p c a'))) : Nx A P Γ := by
  subst e
  have : Γ.set i (.cel p c a) = Γ := by
    obtain ⟨hi, q⟩ := List.getElem?_eq_some_iff.mp h
    rw [← q, List.set_getElem_self]
  rw [this] at k; exact k
theorem Frm.recast {σ : L2.St} {H B : Hp} (F : Frm A σ H B Γ) (i : Nat) {s s' : Sl} (h : Γ[i]? = some s) (k : ∀ o, SlO σ H B o i s → SlO σ H B o i s') : Frm A σ H B (Γ.set i s') :=
  F.put rfl (fun _ _ => rfl) fun o _ q => k o (q s h)
theorem nx_toOpt (i : Nat) (n : NN r) (h : Γ[i]? = some (.imm r a)) (k : Nx A P (Γ.set i (.imm (rOpt r) (some a)))) : Nx A P Γ := fun σ H B F => k σ H B (F.recast i h fun o ⟨v, e, q⟩ => ⟨v, e, q, n _ _ _ q⟩)
theorem nx_toNone {u : Unit} (i : Nat) (h : Γ[i]? = some (.imm rNon u)) (k : Nx A P (Γ.set i (.imm (rOpt r) none))) : Nx A P Γ := fun σ H B F => k σ H B (F.recast i h fun o ⟨v, e, q⟩ => ⟨v, e, q⟩)
/-- a script's walk -/
theorem it_scr {ns : List Int} (h : EvX (rScr K) te Γ Γ1 ns) (hz : ns.length ≤ 100000) : ItX rInt (iList K te) Γ Γ1 ns := fun A σ H B F R q => h A σ H B F _ fun v H' B' F' s k => by
  obtain ⟨p, rfl, hp⟩ := k
  refine ⟨p, rfl, ⟨_, F'.bh.seq hp⟩, q _ H' B' F' s ⟨Nat.le_trans hz (by decide), fun H2 B2 s1 s2 => ?_, fun i H2 B2 s1 s2 hi => ?_, fun i x H2 B2 v H3 s1 s2 hx hy A σ Γ F => ?_⟩⟩
  · exact ⟨_, s2.seq (s1.seq hp), by rw [List.length_map]; exact Nat.le_refl _⟩
  · exact ⟨_, .int ns[i], s2.seq (s1.seq hp), by rw [List.getElem?_map, List.getElem?_eq_getElem hi]; rfl⟩
  · obtain ⟨rfl, hv⟩ := hy
    have e := hv _ (s2.seq (s1.seq hp))
    rw [List.getElem?_map, hx] at e
    cases e
    exact ⟨B2, F, Same.refl _, rfl⟩
end
/-! ### a new object handed back -/
def SpC {α β : Type} (w : Rw α) (c : Cl β) (m : α → Option β) : Sp := fun vs H Q _ => ∃ B a b, SzT H B ∧ Same B H ∧ w.rel B vs a ∧ m a = some b ∧ ∀ p o H' B', Post ((amb0 B H).add p o) H' B' → H p = none → c.ok B' o b → Q (.ref p) H'
section
variable {α β γ : Type} {w : Rw α} {c : Cl β} {A : Amb} {Γ Γ1 : List Sl} {te : TE} {D : Ends} {K : PySem.W.Frag}
/-- what the caller knows of a new object -/
def RtC (A : Amb) (c : Cl β) (b : β) (rt : VK) : Prop := ∀ p o H' B', Post (A.add p o) H' B' → A.H0 p = none → c.ok B' o b → rt (.ref p) H'
theorem nx_retC {a b : β} (h : EvC c te Γ Γ1 a) (e : some a = some b) (k : RtC A c b D.rt) : Nx A (tRet te D) Γ := fun σ H B F => h A σ H B F _ fun p o H' B' F' n _ q => k p o H' B' F'.post n (by cases e; exact q)
theorem Frm.afterC {σ : L2.St} {H H' B B' : Hp} {p : Addr} {o : HO} (F : Frm A σ H B Γ) (P : Post ((amb0 B H).add p o) H' B') (hp : H p = none) : Frm (A.add p o) σ H' B' Γ := by
  have kp : ∀ q u, ¬ isTab q → H q = some u → H' q = some u := fun q u nt e => P.keep q u (fun z => z) nt (by show upd H p o q = some u; rw [upd_ne (ne_of_none e hp)]; exact e)
  have al : ∀ q, H q ≠ none → H' q ≠ none := fun q n => P.alive q (by
    have hq : q ≠ p := fun z => n (by rw [z]; exact hp)
    show upd H p o q ≠ none
    rw [upd_ne hq]; exact n)
  have nT : ¬ isTab p := F.tb.ne hp
  have ou : ∀ q, H q ≠ none → B q = none → B' q = none := fun q n z => P.out q (by
    have hq : q ≠ p := fun e => n (by rw [e]; exact hp)
    show upd H p o q ≠ none; rw [upd_ne hq]; exact n) z
  have bb : Same B B' := P.b0
  have h0 := F.H0none hp
  refine F.move ⟨P.bh, fun q u e => bb q u (F.b0 q u e), fun q u m nt e => ?_, fun q n z => ?_, fun q n => ?_, fun q u e => ?_, ⟨fun q m => ?_, F.mh.nt, fun q m => ?_⟩, A.up _ _ bb F.ph, P.sz, P.tb⟩ bb fun q h => ⟨ou q h.2.1 h.1, ?_, fun u => kp q u (h.nt F.mh)⟩
  · by_cases hq : q = p
    · subst hq
      have e' : upd A.H0 q o q = some u := e
      rw [upd_same] at e'
      cases e'
      exact P.keep q o (fun z => z) nT upd_same
    · have e' : upd A.H0 p o q = some u := e
      rw [upd_ne hq] at e'
      exact kp q u nt (F.keep q u m nt e')
  · by_cases hq : q = p
    · subst hq
      refine P.out q (by show upd H q o q ≠ none; rw [upd_same]; simp) ?_
      show B q = none
      cases e : B q with
      | none => rfl
      | some u => have := F.bh q u e; rw [hp] at this; cases this
    · have n' : upd A.H0 p o q ≠ none := n
      rw [upd_ne hq] at n'
      exact ou q (F.alive q n') (F.out q n' z)
  · by_cases hq : q = p
    · subst hq
      rw [P.keep q o (fun z => z) nT upd_same]; simp
    · have n' : upd A.H0 p o q ≠ none := n
      rw [upd_ne hq] at n'
      exact al q (F.alive q n')
  · have hq : q ≠ p := fun z => by rw [z] at e; exact absurd (F.sub p u e) (by rw [h0]; simp)
    show upd A.H0 p o q = some u
    rw [upd_ne hq]; exact F.sub q u e
  · have := F.mh.al q m
    have hq : q ≠ p := fun z => this (by rw [z]; exact h0)
    show upd A.H0 p o q ≠ none
    rw [upd_ne hq]; exact this
  · have hq : q ≠ p := fun z => nT (by rw [← z]; exact m)
    show upd A.H0 p o q ≠ none
    rw [upd_ne hq]; exact F.mh.tb q m
  · have hq : q ≠ p := fun z => h.2.1 (by rw [z]; exact hp)
    rcases h.2.2 with m | m
    · exact .inl (by show upd A.H0 p o q = none; rw [upd_ne hq]; exact m)
    · exact .inr m
theorem ec_call {m : α → Option β} {a : α} {b : β} {E : XK} {ta : TA} (h : EvW w ta Γ Γ1 a) (e : m a = some b) : EvC c (tCall (SpC w c m) [] E ta) Γ Γ1 b := fun A σ H B F Q q => h A σ H B F _ fun vs H1 B1 F1 s1 k1 => by
  rw [List.append_nil]
  exact ⟨B1, a, b, F1.szt, F1.bh, k1, e, fun p o H2 B2 P hp k => q p o H2 B2 (F1.afterC P hp) (F1.H0none hp) (s1.trans P.b0) k⟩
end
/-- the sizes of what is tracked are known to whoever runs -/
theorem sz_of_hok {P : Program} {w : World} {H : Hp} {h : Heap} (x : HOk P w H h) : Sz H := fun p o e => by
  have k := x p o e
  cases o with
  | lst xs => exact k.1
  | tup xs => exact k.1
  | dK kvs => exact k.1
  | dT kvs => exact k.1
  | _ => trivial
theorem pss_sz {X : Cx} {st : List Stmt} {t : TS} (h : PSs X st t) : PSs X st (fun D σ H => Sz H → t D σ H) := ⟨fun pins s σ H D I q => h.run pins s σ H D I (q (sz_of_hok I.hok))⟩
/-- as SpP, the sizes not asked for -/
def SpL {α β : Type} (w : Rw α) (r : Rp β) (m : α → Option β) : Sp := fun vs H Q _ => ∃ B a b, (Same B H ∧ TabOk H B) ∧ w.rel B vs a ∧ m a = some b ∧ Rt (amb0 B H) (psi r) b Q
end G

set_option maxHeartbeats 4000000
/-! # G: a statement with more behind it -/
namespace G
variable [TabL]
open PySem PySem.Spec PyProof.Rows L2
section
variable {α β γ ρ ς : Type} {r ra : Rp α} {rb : Rp β} {c : Cl α} {cc : Cl γ} {w : Rw α} {te : TE} {tt : TT} {t t' u : TS} {D : Ends} {A : Amb} {Γ Γ1 Γ2 M : List Sl} {a : α} {b : β} {i : Nat} {K : PySem.W.Frag} {P : L2.St → Hp → Prop} {ψ : ρ → Hp → Hp → V → Prop} {p : Addr}
theorem sq_next (h : Nx A (u D) Γ) : Nx A (tSeq tNext u D) Γ := h
theorem sq_brk (h : Nx A D.bk Γ) : Nx A (tSeq tBreak u D) Γ := h
theorem sq_cont (h : Nx A D.ct Γ) : Nx A (tSeq tCont u D) Γ := h
theorem sq_asg (h : EvX r te Γ Γ1 a) (k : Nx A (u D) (Γ1.set i (.imm r a))) : Nx A (tSeq (tAsg te (gName i)) u D) Γ := nx_asg (D := { D with nx := u D }) h k
theorem sq_asgC (h : EvC c te Γ Γ1 a) (k : ∀ p, ¬ A.m p → Nx A (u D) (Γ1.set i (.cel p c a))) : Nx A (tSeq (tAsg te (gName i)) u D) Γ := nx_asgC (D := { D with nx := u D }) h k
theorem sq_if {b : Bool} (h : EvT tt Γ Γ1 b) (h1 : b = true → Nx A (t { D with nx := u D }) Γ1) (h2 : b = false → Nx A (t' { D with nx := u D }) Γ1) : Nx A (tSeq (tIfS tt t t') u D) Γ := nx_if (D := { D with nx := u D }) h h1 h2
theorem sq_drop (h : EvX r te Γ Γ1 a) (k : Nx A (u D) Γ1) : Nx A (tSeq (tDrop te) u D) Γ := nx_drop (D := { D with nx := u D }) h k
theorem sq_ret {b : α} (h : EvX r te Γ Γ1 a) (e : some a = some b) (k : Rt A (psi r) b D.rt) : Nx A (tSeq (tRet te) u D) Γ := nx_ret (D := { D with nx := u D }) h e k
theorem sq_retS {st : γ} {b : α × γ} (h : EvX r te Γ Γ1 a) (hi : Γ1[i]? = some (.cel p cc st)) (e : some (a, st) = some b) (k : Rt A (psiS p cc r) b D.rt) : Nx A (tSeq (tRet te) u D) Γ := nx_retS (D := { D with nx := u D }) h hi e k
theorem sq_retC {a b : α} (h : EvC c te Γ Γ1 a) (e : some a = some b) (k : RtC A c b D.rt) : Nx A (tSeq (tRet te) u D) Γ := nx_retC (D := { D with nx := u D }) h e k
theorem sq_asgT {g : TG} {vs : List Nat} {Γf : α → List Sl} (h : EvX r te Γ Γ1 a) (hg : TgX g r vs Γ1 Γf) (k : Nx A (u D) (Γf a)) : Nx A (tSeq (tAsg te g) u D) Γ := nx_asgT (D := { D with nx := u D }) h hg k
theorem sq_setR {k : Nat} {f : α → β → α} (h : EvX rb te Γ Γ1 b) (hi : Γ1[i]? = some (.cel p (cHls w) a)) (g : Upd w k rb f) (n : Nx A (u D) (Γ1.set i (.cel p (cHls w) (f a b)))) : Nx A (tSeq (tAsg te (gSub (tVar i) (tC (.int (k : Int))) rSetL)) u D) Γ := nx_setR (D := { D with nx := u D }) h hi g n
theorem sq_for {wi : TI} {g : TG} {tb : TS} {vs : List Nat} {xs : List α} (f : α → ς → Option (Step ρ ς)) (mk : ς → List Sl) {Γf : α → ς → List Sl} {s0 : ς} {R0 : Step ρ ς}
    (hi : ItX r wi Γ Γ1 xs) (e : forL f xs s0 = some R0) (h0 : ∀ A' : Amb, A'.m = A.m ∧ A'.H0 = A.H0 → Nx A' (Fin A' (mk s0)) Γ1)
    (hg : ∀ s, TgX g r vs (mk s) (fun x => Γf x s))
    (hb : ∀ (A' : Amb) (D' : Ends) (x : α) (s : ς) (st : Step ρ ς), A'.m = A.m ∧ A'.H0 = A.H0 → f x s = some st → Conts A' ψ D' mk st → Nx A' (tb D') (Γf x s))
    (hr : ∀ b, R0 = .ret b → Rt A ψ b D.rt) (hd : ∀ s, R0 = .nx s → Nx A (u D) (mk s)) : Nx A (tSeq (tFor wi g tb) u D) Γ := nx_for (D := { D with nx := u D }) f mk hi e h0 hg hb hr hd
end
end G

set_option maxHeartbeats 4000000
/-! # G: objects of own classes, errors -/
namespace G
variable [TabL]
open PySem PySem.Spec PyProof.Rows L2
section
variable {α β γ ρ ς ε : Type} {r ra : Rp α} {rb : Rp β} {rc : Rp γ} {te ta tb : TE} {Γ Γ1 Γ2 : List Sl} {K : PySem.W.Frag} {a : α} {b : β} {w : Rw α} {C : Addr} {names : List Str}
/-- an instance of the class at C, its attributes in the order of their storing -/
def cIns {α : Type} (C : Addr) (names : List Str) (w : Rw α) : Cl α := ⟨fun H o a => ∃ dx vs, o = .ins C dx (names.zip vs) ∧ vs.length = names.length ∧ w.rel H vs a, fun s ⟨dx, vs, e, l, h⟩ => ⟨dx, vs, e, l, w.mono s h⟩⟩
def rIns {α : Type} (C : Addr) (names : List Str) (w : Rw α) : Rp α := rOb (cIns C names w)
theorem zip_lookup : ∀ {names : List Str} {vs : List V} {k : Nat} {nm : Str} {v : V}, names.Nodup → names[k]? = some nm → vs[k]? = some v → (names.zip vs).lookup nm = some v
  | [], _, _, _, _, _, h, _ => by simp at h
  | _ :: _, [], _, _, _, _, _, h => by simp at h
  | n :: ns, u :: us, 0, nm, v, _, h1, h2 => by
    simp at h1 h2; subst h1; subst h2
    simp [List.lookup]
  | n :: ns, u :: us, k + 1, nm, v, nd, h1, h2 => by
    have h1' : ns[k]? = some nm := by simpa using h1
    have h2' : us[k]? = some v := by simpa using h2
    have hne : nm ≠ n := fun e => (List.nodup_cons.mp nd).1 (by rw [← e]; exact List.mem_of_getElem? h1')
    show List.lookup nm ((n, u) :: ns.zip us) = some v
    have e : (nm == n) = false := beq_eq_false_iff_ne.mpr hne
    simp only [List.lookup, e]
    exact zip_lookup (List.nodup_cons.mp nd).2 h1' h2'
theorem zip_none : ∀ {names : List Str} {vs : List V} {nm : Str}, nm ∉ names → (names.zip vs).lookup nm = none
  | [], _, _, _ => by simp
  | _ :: _, [], _, _ => by simp
  | n :: ns, u :: us, nm, h => by
    show List.lookup nm ((n, u) :: ns.zip us) = none
    have e : (nm == n) = false := beq_eq_false_iff_ne.mpr fun e => h (by rw [e]; exact List.mem_cons_self)
    simp only [List.lookup, e]
    exact zip_none fun z => h (List.mem_cons_of_mem _ z)
theorem putF_zip : ∀ {names : List Str} {vs : List V} {nm : Str} {v : V}, nm ∉ names → vs.length = names.length → putF nm v (names.zip vs) = (names ++ [nm]).zip (vs ++ [v])
  | [], [], _, _, _, _ => rfl
  | [], _ :: _, _, _, _, h => by cases h
  | _ :: _, [], _, _, _, h => by cases h
  | n :: ns, u :: us, nm, v, h, l => by
    show (if n = nm then (n, v) :: ns.zip us else (n, u) :: putF nm v (ns.zip us)) = (n, u) :: (ns ++ [nm]).zip (us ++ [v])
    rw [if_neg fun e => h (by rw [e]; exact List.mem_cons_self), putF_zip (fun z => h (List.mem_cons_of_mem _ z)) (by simpa using l)]
theorem ob_ins {B H : Hp} {u : V} (s : Same B H) (h : (rIns C names w).rel B u a) : ∃ p dx vs, u = .ref p ∧ H p = some (.ins C dx (names.zip vs)) ∧ vs.length = names.length ∧ w.rel B vs a := by
  obtain ⟨p, o, e, hp, dx, vs, rfl, l, k⟩ := h
  exact ⟨p, dx, vs, e, s _ _ hp, l, k⟩
theorem ev_fld {k : Nat} {nm : Str} {f : α → β} (h : EvX (rIns C names w) te Γ Γ1 a) (g : Acc w k rb f) (hk : names[k]? = some nm) (nd : names.Nodup) (c : Cls K C) (na : NoAttr K C nm) : EvX rb (tFld K te nm) Γ Γ1 (f a) := fun A σ H B F Q q =>
  h A σ H B F _ fun v H1 B1 F1 s1 k1 => by
    obtain ⟨p, dx, vs, rfl, hp, l, kw⟩ := ob_ins F1.bh k1
    obtain ⟨u, hu, ku⟩ := g B1 vs a kw
    exact ⟨p, C, dx, _, u, rfl, hp, c, na, zip_lookup nd hk hu, q u H1 B1 F1 s1 ku⟩
theorem ev_celFld {i : Nat} {p : Addr} {k : Nat} {nm : Str} {f : α → β} (h : Γ[i]? = some (.cel p (cIns C names w) a)) (g : Acc w k rb f) (hk : names[k]? = some nm) (nd : names.Nodup) (c : Cls K C) (na : NoAttr K C nm) : EvX rb (tFld K (tVar i) nm) Γ Γ (f a) := fun A σ H B F Q q => by
  obtain ⟨e, o, ho, dx, vs, rfl, l, kw⟩ := cel_at F h
  obtain ⟨u, hu, ku⟩ := g B vs a kw
  exact ⟨_, e, p, C, dx, _, u, rfl, ho, c, na, zip_lookup nd hk hu, q u H B F (Same.refl _) ku⟩
/-- one attribute more -/
def Snoc {α β γ : Type} (w : Rw α) (r : Rp β) (w' : Rw γ) (f : α → β → γ) : Prop := ∀ B vs a v b, w.rel B vs a → r.rel B v b → w'.rel B (vs ++ [v]) (f a b)
theorem snoc0 : Snoc w0 ra (w1 ra) (fun _ b => b) := fun B vs a v b h k => ⟨v, by rw [show vs = [] from h]; rfl, k⟩
theorem snoc1 : Snoc (w1 ra) rb (wC ra (w1 rb)) (fun a b => (a, b)) := fun B vs a v b ⟨u, e, h⟩ k => ⟨u, [v], by rw [e]; rfl, h, v, rfl, k⟩
theorem snocC {w : Rw β} {w' : Rw ς} {f : β → γ → ς} (s : Snoc w rc w' f) : Snoc (wC ra w) rc (wC ra w') (fun a b => (a.1, f a.2 b)) := fun B vs a v b ⟨u, t, e, h, g⟩ k => ⟨u, t ++ [v], by rw [e]; rfl, h, s B t a.2 v b g k⟩
theorem sq_fld {A : Amb} {D : Ends} {u : TS} {i : Nat} {p : Addr} {nm : Str} {w' : Rw γ} {f : α → β → γ} (h : EvX rb te Γ Γ1 b) (hi : Γ1[i]? = some (.cel p (cIns C names w) a)) (sn : Snoc w rb w' f) (nn : nm ∉ names) (hl : names.length < 900) (c : Cls K C) (na : NoAttr K C nm)
    (k : Nx A (u D) (Γ1.set i (.cel p (cIns C (names ++ [nm]) w') (f a b)))) : Nx A (tSeq (sFld K (tVar i) te nm) u D) Γ := fun σ H B F => h A σ H B F _ fun v H1 B1 F1 s1 k1 => by
  obtain ⟨e, o, ho, dx, vs, rfl, l, kw⟩ := cel_at F1 hi
  refine ⟨_, e, p, C, dx, _, rfl, ho, c, na, by rw [List.length_zip]; omega, ?_⟩
  exact k σ _ B1 (F1.write hi (c' := cIns C (names ++ [nm]) w') (o' := .ins C dx (putF nm v (names.zip vs))) ⟨dx, vs ++ [v], by rw [putF_zip nn l], by rw [List.length_append, List.length_append, l]; rfl, sn B1 vs a v b kw k1⟩ trivial)
end

/-! ### errors -/
inductive Res (ε β : Type) where
  | ok (b : β)
  | er (e : ε)
def resO {ε β γ : Type} (x : Res ε β) (k : β → Option (Res ε γ)) : Option (Res ε γ) := match x with
  | .ok b => k b
  | .er e => some (.er e)
@[simp] theorem resO_ok {ε β γ : Type} (b : β) (k : β → Option (Res ε γ)) : resO (.ok b) k = k b := rfl
@[simp] theorem resO_er {ε β γ : Type} (e : ε) (k : β → Option (Res ε γ)) : resO (.er e) k = some (.er e) := rfl
/-- how an error of ε lies: its class, its dict's address -/
abbrev ER (ε : Type) := Hp → Value → Option Addr → ε → Prop
def ErAt {α : Type} (H : Hp) (cls : Value) (d : Option Addr) (C : Addr) (names : List Str) (w : Rw α) (a : α) : Prop :=
  cls = .ref C ∧ ∃ dd fs vs, d = some dd ∧ H dd = some (.xd fs) ∧ w.rel H vs a ∧ ∀ (k : Nat) (nm : Str), names[k]? = some nm → fs.lookup nm = vs[k]?
def RtE {ε : Type} (A : Amb) (R : ER ε) (e : ε) (E : XK) : Prop := ∀ cls d H' B', Post A H' B' → R B' cls d e → E cls d H'
def SpX {ε α β : Type} (R : ER ε) (w : Rw α) (r : Rp β) (m : α → Option (Res ε β)) : Sp := fun vs H Q E => ∃ B a x, SzT H B ∧ Same B H ∧ w.rel B vs a ∧ m a = some x ∧ (∀ b, x = .ok b → Rt (amb0 B H) (psi r) b Q) ∧ ∀ e, x = .er e → RtE (amb0 B H) R e E
/-- what an __init__ leaves -/
def RtI {β : Type} (A : Amb) (p : Addr) (c : Cl β) (b : β) (Q : VK) : Prop := ∀ H' B', Post A H' B' → (∃ o, H' p = some o ∧ c.ok B' o b) → Q .non H'
def SpI {ε α β : Type} (R : ER ε) (C : Addr) (w : Rw α) (c : Cl β) (m : α → Option (Res ε β)) : Sp := fun vs H Q E => ∃ p dx vs' B a x, vs = .ref p :: vs' ∧ H p = some (.ins C dx []) ∧ HotP B p ∧ SzT H B ∧ Same B H ∧ w.rel B vs' a ∧ m a = some x ∧
  (∀ b, x = .ok b → RtI (ambS B H p) p c b Q) ∧ ∀ e, x = .er e → RtE (ambS B H p) R e E
/-- an error's __init__: its arguments are stored, one or two -/
def SpE1 (C : Addr) (nm : Str) : Sp := fun vs H Q _ => ∃ a v, vs = [.ref a, v] ∧ H a = some (exo a C none) ∧ ∀ dx, H dx = none → dx ≠ a → Q .non (upd (upd H dx (exd dx [(nm, v)])) a (exo a C (some dx)))
def SpE2 (C : Addr) (n1 n2 : Str) : Sp := fun vs H Q _ => ∃ a v u, vs = [.ref a, v, u] ∧ H a = some (exo a C none) ∧ ∀ dx, H dx = none → dx ≠ a → Q .non (upd (upd H dx (exd dx [(n2, u), (n1, v)])) a (exo a C (some dx)))
section
variable {P : Program} {w : World} {K : PySem.W.Frag} {mg : Str → Option Value} {base : Heap}
/-- the body «self.nm = nm» -/
theorem okE1 {f C : Addr} {fd : FuncData} {st : Stmt} {N : List Str} {qual nm p1 : Str} {pos1 pos2 pos3 pos4 : Pos} (F : Fun K "__init__" qual st f fd) (S : FnScope N ["self", p1] (defScope st)) (T : OexC K C) (na : PySem.W.findIn K (.ref C) nm = some none)
    (hb : defBody st = [.Assign [.Attribute (.Name "self" pos1) nm pos2] (.Name p1 pos3) pos4]) (h0 : N[0]? = some ("self" : Str)) (h1 : N[1]? = some p1) (v0 : Vis (defScope st) ("self" : Str)) (v1 : Vis (defScope st) p1)
    (d0 : (p1 == ("__debug__" : Str)) = false) (d1 : (p1 == ("__classdict__" : Str)) = false) (hl : N.length = 2) : FnOk P w K mg base CX0 1 f fd ["self", p1] (SpE1 C nm) := by
  refine F.ok S (fun vs H Q E h => ?_) (fun cdv A outer s H vs Q E hr h => ?_)
  · obtain ⟨a, v, rfl, _⟩ := h; rfl
  · obtain ⟨a, v, rfl, ha, k⟩ := h
    rw [hb]
    refine ⟨_, pss_one (ps_ost (pe_var (i := 0) h0 v0) (pe_var (i := 1) h1 v1 d0 d1)), ?_⟩
    have hN : L2.start N [.ref a, v] = [some (.ref a), some v] := by
      unfold L2.start; simp [hl]
    rw [hN]
    exact ⟨v, rfl, _, rfl, a, C, rfl, T, na, .inl ⟨ha, fun dx n ne => k dx n ne⟩⟩
end
theorem upd_comm {H : Hp} {a b : Addr} {o u : HO} (h : a ≠ b) : upd (upd H a o) b u = upd (upd H b u) a o := by
  funext c; unfold upd
  by_cases h1 : c = b
  · by_cases h2 : c = a
    · exact absurd (h2.symm.trans h1) h
    · rw [if_pos h1, if_neg h2, if_pos h1]
  · rw [if_neg h1]
    by_cases h2 : c = a
    · rw [if_pos h2, if_pos h2]
    · rw [if_neg h2, if_neg h2, if_neg h1]
theorem del_made {H : Hp} {a dx : Addr} {o1 o2 o3 o4 : HO} (ha : H a = none) (ne : dx ≠ a) : upd (del (upd (upd (upd H a o1) dx o2) a o3) a) dx o4 = upd H dx o4 := by
  funext c
  by_cases h1 : c = dx
  · rw [h1, upd_same, upd_same]
  · rw [upd_ne h1, upd_ne h1]
    by_cases h2 : c = a
    · rw [h2, del_same, ha]
    · rw [del_ne h2, upd_ne h2, upd_ne h1, upd_ne h2]
section
variable {α β γ ρ ς ε : Type} {r ra : Rp α} {rb : Rp β} {te : TE} {ta : TA} {Γ Γ1 Γ2 : List Sl} {K : PySem.W.Frag} {a : α} {b : β} {w : Rw α} {C : Addr} {A : Amb} {D : Ends} {u : TS} {R : ER ε} {E : XK}
theorem Frm.plus {σ : L2.St} {H B : Hp} {p : Addr} {o : HO} (F : Frm A σ H B Γ) (hp : H p = none) (ho : szO o) : Frm A σ (upd H p o) (upd B p o) Γ := (F.fresh hp ho).adopt (F.H0none hp) F.sub F.mh
/-- raise C(x): one argument -/
theorem sq_raise1 {nm : Str} {W : WX} {e : ε} (h : EvX r te Γ Γ1 a) (k : RtE A R e E) (hR : ∀ B cls d, ErAt B cls d C [nm] (w1 r) a → R B cls d e) (hW : ∀ cls d σ H, E cls d H → W cls d σ H) :
    Nx A (tSeq (fun _ σ H => tMkO C (SpE1 C nm) [] (tCons te tNil) σ H fun cls d H' => W cls d σ H') u D) Γ := fun σ H B F => h A σ H B F _ fun v H1 B1 F1 s1 k1 => by
  refine ⟨by show 1 ≤ 1000; decide, fun x hx => ⟨x, v, rfl, upd_same, fun dx n ne => ⟨rfl, dx, [(nm, v)], upd_same, ?_, ?_, ?_⟩⟩⟩
  · rw [upd_ne ne, upd_same]
  · rw [upd_ne ne] at n; exact n
  · have n1 : H1 dx = none := by rw [upd_ne ne] at n; exact n
    rw [del_made hx ne]
    refine hW _ _ _ _ (k _ _ _ _ (F1.plus (o := .xd [(nm, v)]) n1 trivial).post (hR _ _ _ ⟨rfl, dx, [(nm, v)], [v], rfl, upd_same, ⟨v, rfl, ?_⟩, fun j m hj => ?_⟩))
    · exact r.mono (fun b o q => by rw [upd_ne (ne_of_none (F1.bh b o q) n1)]; exact q) k1
    · cases j with
      | zero => simp at hj; subst hj; simp [List.lookup]
      | succ j => simp at hj
end
/-! ### a call that may raise -/
/-- an expression with two ends; W is what is wished of an error -/
def EvR {ε α : Type} (R : ER ε) (r : Rp α) (te : (L2.St → XK) → TE) (Γ Γ' : List Sl) (x : Res ε α) : Prop := ∀ (A : Amb) (σ : L2.St) (H B : Hp), Frm A σ H B Γ → ∀ (E : L2.St → XK) (Q : VK),
  (∀ b, x = .ok b → ∀ v H' B', Frm A σ H' B' Γ' → Same B B' → r.rel B' v b → Q v H') → (∀ e, x = .er e → ∀ cls d H' B', Frm A σ H' B' Γ' → Same B B' → R B' cls d e → E σ cls d H') → te E σ H Q
/-- C(e, ..) whose __init__ may raise, within a try -/
def tMakeS (C : Addr) (sp : Sp) (E : L2.St → XK) (t : TA) : TE := fun σ H Q => t σ H fun vs H1 => ∀ x dx, H1 x = none → H1 dx = none → dx ≠ x →
  sp (.ref x :: vs) (upd (upd H1 dx (.own x)) x (.ins C dx [])) (fun v H2 => v = .non ∧ Q (.ref x) H2) (E σ)
section
variable {X : Cx} {CX : CXT} {k : Nat} {f C : Addr} {fd : FuncData} {ps : List Str} {sp : Sp} {E : L2.St → XK} {x : Str} {p pos : Pos} {e : Expr} {es : List Expr} {t : TA}
theorem run_makeS {pins : List (Addr × Obj)} {σ : L2.St} {H : Hp} {s : Shared} {Q : VK} {us : List Value} {vs : List V} (M : Mk X.K C f) (F : FnOk X.prog X.w X.K X.mg X.base CX k f fd ps sp) (hr : Room (k + 1) X.A) (hb : Binds X.K fd ps [])
    (hx : ∀ (pins : List (Addr × Obj)) (H' : Hp) (s : Shared) (e : Value) (s' : Shared), Inv X pins σ H' s → CX X.stack H' s (E σ) e s' → X.xe e s') (I : Inv X pins σ H s) (r : Vals vs us)
    (h : ∀ x dx, H x = none → H dx = none → dx ≠ x → sp (.ref x :: vs) (upd (upd H dx (.own x)) x (.ins C dx [])) (fun v H2 => v = .non ∧ Q (.ref x) H2) (E σ)) :
    wpAny (model X.prog X.w) X.A (call (.ref C) us) (EP X pins σ Q) X.xe s := by
  have hq := h (s.heap.objs.size + 1) s.heap.objs.size (I.hok.fresh (Nat.le_succ _)) (I.hok.fresh (Nat.le_refl _)) (Nat.ne_of_lt (Nat.lt_succ_self _))
  have I2 := Inv.made (C := C) I
  have r2 : Vals (V.ref (s.heap.objs.size + 1) :: vs) (Value.ref (s.heap.objs.size + 1) :: us) := .cons rfl r
  have hl : (Value.ref (s.heap.objs.size + 1) :: us).length = ps.length := by
    have e := r2.length
    rw [F.len _ _ _ _ hq] at e
    exact e.symm
  have bb := hb _ (Value.ref (s.heap.objs.size + 1) :: us) I2.kIn (by rw [List.append_nil]; exact hl)
  rw [List.append_nil] at bb
  refine wpAny_call (make_map (f := f) I.kIn M.makes M.init (beq_iff_eq.mp M.fn) (codeAny_mono (F.run _ X.stack _ _ ⟨Value.ref (s.heap.objs.size + 1) :: us, []⟩ (Value.ref (s.heap.objs.size + 1) :: us) _ _ (E σ) (hr.make C us [])
    (I2.env0.make C us []) bb r2 hq) fun r s' hq' => ?_))
  cases r with
  | error e => exact hx pins _ _ e s' I2 hq'
  | ok fl =>
    cases fl with
    | ret u =>
      obtain ⟨v, H2, os2, bare2, un2, hok2, rv, ev, q2⟩ := hq'
      subst ev
      exact ⟨rv, .ref (s.heap.objs.size + 1), H2, I2.call' (ch := []) os2 un2 hok2 bare2 (fun b z => absurd z (by simp)), rfl, q2⟩
    | next => exact False.elim hq'
    | brk => exact False.elim hq'
    | cont => exact False.elim hq'
theorem pe_makeS (M : Mk X.K C f) (F : FnOk X.prog X.w X.K X.mg X.base CX k f fd ps sp) (hr : Room (k + 1) X.A) (hg : Gl X x) (hm : X.mg x = some (.ref C)) (hb : Binds X.K fd ps [])
    (hx : ∀ σ, PassesAt CX X σ (E σ)) (ha : PA X (e :: es) t) (hdb : (x == ("__debug__" : Str)) = false := by decide) (he : starEach (e :: es) X.env = (false, eval e X.env) :: starEach es X.env := by rfl) (hpl : (backTo pos (starEach es X.env)).any (·.1) = false := by rfl) :
    PE X (.Call (.Name x p) (e :: es) [] pos) (tMakeS C sp E t) := by
  refine ⟨fun pins s σ H Q I h => ?_⟩
  refine wpAny_Call_Name_kw (ld_glob I hg hm ?_ hdb)
  refine PySem.W.callWith_K (h₀ := X.base) I.ok.mod.kin M.kp (thn (ha.run pos pins s σ H _ I h) fun us s1 ⟨vs, H1, I1, r, q⟩ => ⟨I1.kIn, ?_⟩) he hpl
  exact run_makeS M F hr hb (fun pins H' s e s' I' c => hx σ pins H' s e s' I' c) I1 r q
end
section
variable {α β γ ρ ς ε : Type} {r ra : Rp α} {rb : Rp β} {ta : TA} {Γ Γ1 Γ2 : List Sl} {K : PySem.W.Frag} {a : α} {b : β} {w : Rw α} {C : Addr} {names : List Str} {A : Amb} {D : Ends} {u : TS} {R : ER ε}
/-- what an object is, behind its making -/
theorem made_frame {σ : L2.St} {H B : Hp} {x dx : Addr} (F : Frm A σ H B Γ) (hx : H x = none) (hd : H dx = none) (ne : dx ≠ x) {H' B' : Hp}
    (P : Post (ambS (upd B dx (.own x)) (upd (upd H dx (.own x)) x (.ins C dx [])) x) H' B') {o : HO} (ho : H' x = some o) : Frm (A.add x o) σ H' B' Γ := by
  have kp : ∀ q u, ¬ isTab q → H q = some u → H' q = some u := fun q u nt e => P.keep q u (fun (z : q = x) => by rw [z, hx] at e; cases e) nt (by
    show upd (upd H dx (.own x)) x (.ins C dx []) q = some u
    rw [upd_ne (ne_of_none e hx), upd_ne (ne_of_none e hd)]; exact e)
  have bdx : B dx = none := by
    cases e : B dx with
    | none => rfl
    | some u => have := F.bh dx u e; rw [hd] at this; cases this
  have bb : Same B B' := fun q u e => P.b0 q u (by show upd B dx (.own x) q = some u; rw [upd_ne (ne_of_none e bdx)]; exact e)
  have nout : ∀ q, H q ≠ none → B q = none → B' q = none := fun q n z => by
    have q1 : q ≠ x := fun e => n (by rw [e]; exact hx)
    have q2 : q ≠ dx := fun e => n (by rw [e]; exact hd)
    exact P.out q (by show upd (upd H dx (.own x)) x (.ins C dx []) q ≠ none; rw [upd_ne q1, upd_ne q2]; exact n) (by show upd B dx (.own x) q = none; rw [upd_ne q2]; exact z)
  have al : ∀ q, H q ≠ none → H' q ≠ none := fun q n => P.alive q (by
    have q1 : q ≠ x := fun e => n (by rw [e]; exact hx)
    have q2 : q ≠ dx := fun e => n (by rw [e]; exact hd)
    show upd (upd H dx (.own x)) x (.ins C dx []) q ≠ none
    rw [upd_ne q1, upd_ne q2]; exact n)
  have nT : ¬ isTab x := F.tb.ne hx
  have h0 := F.H0none hx
  have bx : B' x = none := P.out x (by show upd (upd H dx (.own x)) x (.ins C dx []) x ≠ none; rw [upd_same]; simp) (by
    show upd B dx (.own x) x = none
    rw [upd_ne (Ne.symm ne)]
    cases e : B x with
    | none => rfl
    | some u => have := F.bh x u e; rw [hx] at this; cases this)
  refine F.move ⟨P.bh, fun q u e => bb q u (F.b0 q u e), fun q u m nt e => ?_, fun q n z => ?_, fun q n => ?_, fun q u e => ?_, ⟨fun q m => ?_, F.mh.nt, fun q m => ?_⟩, A.up _ _ bb F.ph, P.sz, P.tb⟩ bb fun q h => ⟨nout q h.2.1 h.1, ?_, fun u => kp q u (h.nt F.mh)⟩
  · by_cases hq : q = x
    · subst hq
      have e' : upd A.H0 q o q = some u := e
      rw [upd_same] at e'
      cases e'; exact ho
    · have e' : upd A.H0 x o q = some u := e
      rw [upd_ne hq] at e'
      exact kp q u nt (F.keep q u m nt e')
  · by_cases hq : q = x
    · rw [hq]; exact bx
    · have n' : upd A.H0 x o q ≠ none := n
      rw [upd_ne hq] at n'
      exact nout q (F.alive q n') (F.out q n' z)
  · by_cases hq : q = x
    · rw [hq, ho]; simp
    · have n' : upd A.H0 x o q ≠ none := n
      rw [upd_ne hq] at n'
      exact al q (F.alive q n')
  · have hq : q ≠ x := fun z => by rw [z] at e; exact absurd (F.sub x u e) (by rw [h0]; simp)
    show upd A.H0 x o q = some u
    rw [upd_ne hq]; exact F.sub q u e
  · have := F.mh.al q m
    have hq : q ≠ x := fun z => this (by rw [z]; exact h0)
    show upd A.H0 x o q ≠ none
    rw [upd_ne hq]; exact this
  · have hq : q ≠ x := fun z => nT (by rw [← z]; exact m)
    show upd A.H0 x o q ≠ none
    rw [upd_ne hq]; exact F.mh.tb q m
  · have hq : q ≠ x := fun z => h.2.1 (by rw [z]; exact hx)
    rcases h.2.2 with m | m
    · exact .inl (by show upd A.H0 x o q = none; rw [upd_ne hq]; exact m)
    · exact .inr m
theorem made_pre {σ : L2.St} {H B : Hp} {x dx : Addr} (F : Frm A σ H B Γ) (hx : H x = none) (hd : H dx = none) (ne : dx ≠ x) :
    SzT (upd (upd H dx (.own x)) x (.ins C dx [])) (upd B dx (.own x)) ∧ Same (upd B dx (.own x)) (upd (upd H dx (.own x)) x (.ins C dx [])) ∧ HotP (upd B dx (.own x)) x ∧ Same B (upd B dx (.own x)) := by
  have bx : B x = none := by
    cases e : B x with
    | none => rfl
    | some u => have := F.bh x u e; rw [hx] at this; cases this
  have bdx : B dx = none := by
    cases e : B dx with
    | none => rfl
    | some u => have := F.bh dx u e; rw [hd] at this; cases this
  have bb : Same B (upd B dx (.own x)) := fun q u e => by rw [upd_ne (ne_of_none e bdx)]; exact e
  refine ⟨⟨(F.sz.upd (o := .own x) trivial).upd (o := .ins C dx []) trivial, ((F.tb.upd (F.tb.ne hd)).upd (F.tb.ne hx)).to (fun _ _ => rfl) bb fun q m => by rw [upd_ne (show q ≠ dx from fun z => F.tb.ne hd (by rw [← z]; exact m))]; exact F.tb.no q m⟩, fun q u e => ?_, ⟨by rw [upd_ne (Ne.symm ne)]; exact bx, F.tb.ne hx⟩, fun q u e => by rw [upd_ne (ne_of_none e bdx)]; exact e⟩
  by_cases hq : q = dx
  · subst hq
    rw [upd_same] at e; cases e
    rw [upd_ne ne, upd_same]
  · rw [upd_ne hq] at e
    rw [upd_ne (ne_of_none (F.bh q u e) hx), upd_ne hq]; exact F.bh q u e
/-- a class is called; its __init__ may raise -/
theorem er_make {wb : Rw β} {m : α → Option (Res ε β)} {x : Res ε β} (hmono : ∀ {H H' cls d e}, Same H H' → R H cls d e → R H' cls d e) (h : EvW w ta Γ Γ1 a) (e : m a = some x) :
    EvR R (rIns C names wb) (fun E => tMakeS C (SpI R C w (cIns C names wb) m) E ta) Γ Γ1 x := fun A σ H B F E Q qo qe => h A σ H B F _ fun vs H1 B1 F1 s1 k1 => by
  intro y dy hy hd ne
  obtain ⟨p1, p2, p3, p4⟩ := made_pre (C := C) F1 hy hd ne
  refine ⟨y, dy, vs, upd B1 dy (.own y), a, x, rfl, upd_same, p3, p1, p2, w.mono p4 k1, e, fun b hb H2 B2 P ⟨o, ho, k⟩ => ⟨rfl, ?_⟩, fun er he cls d H2 B2 P k => ?_⟩
  · have F2 := made_frame (A := A) F1 hy hd ne P ho
    have n0 := F1.H0none hy
    have F3 := F2.adopt n0 F1.sub F1.mh
    have hB2 : B2 y = none := P.out y (by show upd (upd H1 dy (.own y)) y (.ins C dy []) y ≠ none; rw [upd_same]; simp) p3.1
    have s3 : Same B2 (upd B2 y o) := fun q u e => by rw [upd_ne (ne_of_none e hB2)]; exact e
    exact qo b hb _ _ _ F3 (s1.trans (p4.trans (P.b0.trans s3))) ⟨y, o, rfl, upd_same, (cIns C names wb).mono s3 k⟩
  · -- the object is let go: it is forgotten among what is hidden
    have hox : ∃ o, H2 y = some o := by
      cases q : H2 y with
      | none => exact absurd q (P.alive y (by show upd (upd H1 dy (.own y)) y (.ins C dy []) y ≠ none; rw [upd_same]; simp))
      | some o => exact ⟨o, rfl⟩
    obtain ⟨o, ho⟩ := hox
    exact qe er he cls d _ _ ((made_frame (A := A) F1 hy hd ne P ho).drop (F1.H0none hy) F1.sub F1.mh) (s1.trans (p4.trans P.b0)) k
end
end G

set_option maxHeartbeats 4000000
/-! # G: more words: in, ==, +, append, enumerate -/
namespace G
variable [TabL]
open PySem PySem.Spec PyProof.Rows L2
section
variable {α β γ ρ ς ε : Type} {r ra : Rp α} {rb : Rp β} {c : Cl α} {te ta tb : TE} {Γ Γ1 Γ2 : List Sl} {K : PySem.W.Frag} {a x : α} {b : β} {w : Rw α} {xs ys zs : List α} {i : Nat} {p : Addr} {A : Amb} {D : Ends} {u : TS}
/-! ### in -/
structure Fl {α : Type} [DecidableEq α] (r : Rp α) extends Sc r where
  fl : ∀ a, flatV (val a) = true
  eq : ∀ a b, eqV (val a) (val b) = decide (a = b)
theorem bq_int (i j : Int) : (i == j) = decide (i = j) := by by_cases h : i = j <;> simp [h]
theorem bq_str (i j : Str) : (i == j) = decide (i = j) := by by_cases h : i = j <;> simp [h]
theorem bq_bool (i j : Bool) : (i == j) = decide (i = j) := by cases i <;> cases j <;> rfl
def fl_int : Fl rInt := { scInt with fl := fun _ => rfl, eq := bq_int }
def fl_str : Fl rStr := { scStr with fl := fun _ => rfl, eq := bq_str }
def fl_bool : Fl rBool := { scBool with fl := fun _ => rfl, eq := bq_bool }
theorem Fl.vals [DecidableEq α] (f : Fl r) {B : Hp} {vs : List V} (h : Paired (r.rel B) vs xs) : vs = xs.map f.val := Paired.mapEq (fun _ _ k => f.ok k) h
theorem Fl.inv [DecidableEq α] (f : Fl r) (a : α) : ∀ xs : List α, inV (f.val a) (xs.map f.val) = decide (a ∈ xs)
  | [] => rfl
  | x :: xs => by
    have ih := f.inv a xs
    unfold inV at ih ⊢
    rw [List.map_cons, List.any_cons, ih, f.eq]
    by_cases h : x = a
    · subst h; simp
    · have h' : ¬ a = x := fun e => h e.symm
      by_cases h2 : a ∈ xs <;> simp [h, h', h2]
theorem Fl.allf [DecidableEq α] (f : Fl r) : ∀ xs : List α, (xs.map f.val).all flatV = true
  | [] => rfl
  | x :: xs => by rw [List.map_cons, List.all_cons, f.fl, f.allf xs]; rfl
theorem rin_of [DecidableEq α] (f : Fl r) {H B : Hp} {v : V} {vs : List V} {q : Addr} (neg : Bool) (hs : SqL K H q vs ∨ SqT K H q vs) (hv : r.rel B v a) (hp : Paired (r.rel B) vs xs) {Q : VK} (k : Q (.bl (if neg then !decide (a ∈ xs) else decide (a ∈ xs))) H) : rIn K neg v (.ref q) H Q := by
  rw [f.ok hv]
  refine ⟨q, vs, rfl, hs, f.fl a, by rw [f.vals hp]; exact f.allf xs, ?_⟩
  rw [f.vals hp, f.inv]; exact k
theorem ev_inL [DecidableEq α] (f : Fl r) (ha : EvX r ta Γ Γ1 a) (hb : EvX (rLst r) tb Γ1 Γ2 xs) : EvX rBool (tOp (rIn K false) ta tb) Γ Γ2 (decide (a ∈ xs)) := ev_op ha hb fun H B u v s ku kv Q q => by
  obtain ⟨p, vs, rfl, hp, k⟩ := ob_lst s kv
  exact rin_of f false (.inl (SqL.of hp)) ku k (q _ rfl)
theorem ev_ninL [DecidableEq α] (f : Fl r) (ha : EvX r ta Γ Γ1 a) (hb : EvX (rLst r) tb Γ1 Γ2 xs) : EvX rBool (tOp (rIn K true) ta tb) Γ Γ2 (!decide (a ∈ xs)) := ev_op ha hb fun H B u v s ku kv Q q => by
  obtain ⟨p, vs, rfl, hp, k⟩ := ob_lst s kv
  exact rin_of f true (.inl (SqL.of hp)) ku k (q _ rfl)
theorem ev_inT [DecidableEq α] (f : Fl r) (ha : EvX r ta Γ Γ1 a) (hb : EvX (rTpl r) tb Γ1 Γ2 xs) : EvX rBool (tOp (rIn K false) ta tb) Γ Γ2 (decide (a ∈ xs)) := ev_op ha hb fun H B u v s ku kv Q q => by
  obtain ⟨p, vs, rfl, hp, k⟩ := ob_tpl s kv
  exact rin_of f false (.inr (SqT.of hp)) ku k (q _ rfl)
theorem ev_ninT [DecidableEq α] (f : Fl r) (ha : EvX r ta Γ Γ1 a) (hb : EvX (rTpl r) tb Γ1 Γ2 xs) : EvX rBool (tOp (rIn K true) ta tb) Γ Γ2 (!decide (a ∈ xs)) := ev_op ha hb fun H B u v s ku kv Q q => by
  obtain ⟨p, vs, rfl, hp, k⟩ := ob_tpl s kv
  exact rin_of f true (.inr (SqT.of hp)) ku k (q _ rfl)
theorem cel_lst {A : Amb} {σ : L2.St} {H B : Hp} (F : Frm A σ H B Γ) (h : Γ[i]? = some (.cel p (cLst r) xs)) : σ[i]? = some (some (V.ref p)) ∧ ∃ vs, H p = some (.lst vs) ∧ Paired (r.rel B) vs xs := by
  obtain ⟨e, o, ho, vs, rfl, k⟩ := cel_at F h
  exact ⟨e, vs, ho, k⟩
theorem ev_inCel [DecidableEq α] (ha : EvX r ta Γ Γ1 a) (hi : Γ1[i]? = some (.cel p (cLst r) xs)) (f : Fl r) : EvX rBool (tOp (rIn K false) ta (tVar i)) Γ Γ1 (decide (a ∈ xs)) := fun A σ H B F Q q => ha A σ H B F _ fun v H' B' F' s k => by
  obtain ⟨e, vs, hp, kp⟩ := cel_lst F' hi
  exact ⟨_, e, rin_of f false (.inl (SqL.of hp)) k kp (q _ H' B' F' s rfl)⟩
theorem ev_ninCel [DecidableEq α] (ha : EvX r ta Γ Γ1 a) (hi : Γ1[i]? = some (.cel p (cLst r) xs)) (f : Fl r) : EvX rBool (tOp (rIn K true) ta (tVar i)) Γ Γ1 (!decide (a ∈ xs)) := fun A σ H B F Q q => ha A σ H B F _ fun v H' B' F' s k => by
  obtain ⟨e, vs, hp, kp⟩ := cel_lst F' hi
  exact ⟨_, e, rin_of f true (.inl (SqL.of hp)) k kp (q _ H' B' F' s rfl)⟩
/-! ### a list of the frame's own -/
theorem ev_lenCel (hi : Γ[i]? = some (.cel p (cLst r) xs)) : EvX rInt (tCB (RLen K) (tCons (tVar i) tNil)) Γ Γ (xs.length : Int) := fun A σ H B F Q q => by
  obtain ⟨e, vs, hp, kp⟩ := cel_lst F hi
  exact ⟨_, e, p, vs, rfl, .inl (SqL.of hp), by rw [Paired.len kp]; exact q _ H B F (Same.refl _) rfl⟩
theorem ev_ixCel {j : Int} (hi : Γ[i]? = some (.cel p (cLst r) xs)) (hi1 : Γ1[i]? = some (.cel p (cLst r) xs)) (hb : EvX rInt tb Γ Γ1 j) (e : atI xs j = some a) : EvX r (tOp (rIxL K) (tVar i) tb) Γ Γ1 a := fun A σ H B F Q q => by
  obtain ⟨e1, vs, hp, kp⟩ := cel_lst F hi
  refine ⟨_, e1, hb A σ H B F _ fun v H' B' F' s k => ?_⟩
  obtain ⟨e2, vs2, hp2, kp2⟩ := cel_lst F' hi1
  obtain ⟨o, ho, ko⟩ := atI_rel kp2 e
  exact ⟨p, vs2, j, o, rfl, k, SqL.of hp2, ho, q o H' B' F' s ko⟩
def pyApp (xs : List α) (a : α) : Option (List α) := if xs.length < 1000000 then some (xs ++ [a]) else none
theorem sq_app {rx : Rp γ} {x0 : List γ} (h : EvX r te Γ Γ1 a) (hi0 : Γ[i]? = some (.cel p (cLst rx) x0)) (hi : Γ1[i]? = some (.cel p (cLst r) xs)) (e : pyApp xs a = some ys) (k : Nx A (u D) (Γ1.set i (.cel p (cLst r) ys))) :
    Nx A (tSeq (tDrop (tBM K "list" rAppend (tVar i) (tCons te tNil))) u D) Γ := fun σ H B F => by
  unfold pyApp at e
  split at e
  · rename_i hl
    cases e
    obtain ⟨e1, vs, hp, kp⟩ := cel_lst F hi0
    refine ⟨_, e1, .inl ⟨rfl, vs, SqL.of hp⟩, h A σ H B F _ fun v H1 B1 F1 s1 k1 => ?_⟩
    obtain ⟨e2, vs2, hp2, kp2⟩ := cel_lst F1 hi
    have hz : vs2.length < sizeLine := by rw [Paired.len kp2]; exact Nat.lt_of_lt_of_le hl (by decide)
    refine ⟨p, vs2, v, rfl, rfl, hp2, hz, k σ _ B1 (F1.write hi (c' := cLst r) (o' := .lst (vs2 ++ [v])) ⟨_, rfl, Paired.app kp2 (.cons k1 .nil)⟩ (by show (vs2 ++ [v]).length ≤ sizeLine; rw [List.length_append, List.length_singleton]; omega))⟩
  · cases e
/-! ### + -/
def pyCat (xs ys : List α) : Option (List α) := if xs.length + ys.length ≤ 1000000 then some (xs ++ ys) else none
theorem ec_cat (ha : EvX (rLst r) ta Γ Γ1 xs) (hb : EvX (rLst r) tb Γ1 Γ2 ys) (e : pyCat xs ys = some zs) : EvC (cLst r) (tOp rCat ta tb) Γ Γ2 zs := by
  unfold pyCat at e
  split at e
  · rename_i hl
    cases e
    refine ev_opC ha hb fun H B u v z s ku kv Q q => ?_
    obtain ⟨p, vs, rfl, hp, k⟩ := ob_lst s ku
    obtain ⟨p2, ws, rfl, hp2, k2⟩ := ob_lst s kv
    have hz : vs.length + ws.length ≤ sizeLine := by rw [Paired.len k, Paired.len k2]; exact Nat.le_trans hl (by decide)
    exact ⟨p, p2, vs, ws, rfl, rfl, hp, hp2, hz, fun l hl => q l _ hl (by show (vs ++ ws).length ≤ sizeLine; rw [List.length_append]; exact hz) ⟨_, rfl, Paired.app k k2⟩⟩
  · cases e
/-! ### enumerate -/
def enumF {α : Type} (n : Nat) : List α → List (Int × α)
  | [] => []
  | a :: xs => (((n : Nat) : Int), a) :: enumF (n + 1) xs
def enumL {α : Type} (xs : List α) : List (Int × α) := enumF 0 xs
theorem enumF_len : ∀ (xs : List α) (n : Nat), (enumF n xs).length = xs.length
  | [], _ => rfl
  | _ :: xs, n => by show (enumF (n + 1) xs).length + 1 = _; rw [enumF_len xs]; rfl
theorem enumF_get : ∀ {xs : List α} {n i : Nat} {y : Int × α}, (enumF n xs)[i]? = some y → ∃ a, xs[i]? = some a ∧ y = (((n + i : Nat) : Int), a)
  | [], _, _, _, h => by cases h
  | a :: xs, n, 0, y, h => by
    have h' : (((n : Nat) : Int), a) = y := by simpa [enumF] using h
    exact ⟨a, rfl, h'.symm⟩
  | a :: xs, n, i + 1, y, h => by
    have h' : (enumF (n + 1) xs)[i]? = some y := by simpa [enumF] using h
    obtain ⟨b, h1, h2⟩ := enumF_get h'
    refine ⟨b, by simpa using h1, ?_⟩
    rw [h2, show n + 1 + i = n + (i + 1) by omega]
theorem enumL_len (xs : List α) : (enumL xs).length = xs.length := enumF_len xs 0
theorem it_enum (h : EvX (rLst r) te Γ Γ1 xs) : ItX (rTup (wC rInt (w1 r))) (iEnum K (tCons te tNil)) Γ Γ1 (enumL xs) := fun A σ H B F R q => h A σ H B F _ fun v H' B' F' s k => by
  obtain ⟨p, o, rfl, hp, vs, rfl, kp⟩ := k
  refine ⟨p, vs, rfl, SqL.of (F'.bh _ _ hp), q _ H' B' F' s ⟨by rw [enumL_len, ← Paired.len kp]; exact F'.sz _ _ (F'.bh _ _ hp), fun H2 B2 s1 s2 => ?_, fun i H2 B2 s1 s2 hi => ?_, fun i x H2 B2 v H3 s1 s2 hx hy A σ Γ F => ?_⟩⟩
  · exact ⟨vs, SqL.of (s2 _ _ (s1 _ _ hp)), by rw [enumL_len, Paired.len kp]; exact Nat.le_refl _⟩
  · rw [enumL_len] at hi
    obtain ⟨y, hy⟩ : ∃ y, vs[i]? = some y := ⟨_, List.getElem?_eq_getElem (by rw [Paired.len kp]; exact hi)⟩
    exact ⟨vs, y, SqL.of (s2 _ _ (s1 _ _ hp)), hy⟩
  · obtain ⟨T, y', rfl, hT, rfl, hv⟩ := hy
    obtain ⟨a, ha, rfl⟩ := enumF_get hx
    obtain ⟨y2, hy', ky⟩ := Paired.getR kp ha
    have e := (hv vs (SqL.of (s2 _ _ (s1 _ _ hp)))).symm
    rw [hy'] at e; obtain rfl := Option.some.inj e
    have hB : B2 T = none := by
      cases q : B2 T with
      | none => rfl
      | some u => have := F.bh T u q; rw [hT] at this; cases this
    have s' : Same B2 (upd B2 T (.tup [.int (i : Nat), y'])) := fun b u e => by rw [upd_ne (ne_of_none e hB)]; exact e
    refine ⟨_, F.plus (o := .tup [.int (i : Nat), y']) hT (by show 2 ≤ sizeLine; decide), s', T, _, rfl, upd_same, _, rfl, .int (i : Nat), [y'], rfl, ?_, y', rfl, r.mono s' (r.mono s1 ky)⟩
    show V.int (i : Nat) = V.int ((0 + i : Nat) : Int)
    rw [Nat.zero_add]
end
end G

set_option maxHeartbeats 4000000
/-! # G: try; classes that are made; methods; data that are compared -/
namespace G
variable [TabL]
open PySem PySem.Spec PyProof.Rows L2
/-! ### try -/
/-- the suite is told where its reading is told -/
def tSui (X : Cx) (st : List Stmt) : Addr → Value → Option Addr → TS := fun a cls d D σ H => ∃ t : TS, (∀ (oe : Obj) (pn : List (Addr × Obj)), Zc cls d oe → (∃ vs, oe.data = .fields vs) → PSs (X.suite a ((a, oe) :: pn)) st t) ∧ t D σ H
def tBod (X : Cx) (st : List Stmt) (W : WX) : TS := fun D σ H => ∃ t : TS, (∀ (pn : List (Addr × Obj)) (xe : Value → Shared → Prop), Takes (X.tr pn xe) W → PassesOwn (model X.prog X.w) X.A X.env xe → PSs (X.tr pn xe) st t) ∧ t D σ H
section
variable {X : Cx} {x n : Str} {c : Value} {i : Nat} {body suite : List Stmt} {b₀ : Stmt} {np pos pos' : Pos} {Wout : WX}
theorem ps_tryG (hs : X.stack = X.env :: X.outer) (hf : X.env.frame = some X.env.locals) (hN : X.N.Nodup) (hi : X.N[i]? = some n) (hln : X.env.kindOf n = some .local) (hc : Names X x c) (tk : Takes X Wout) :
    PS X (.Try body [.ExceptHandler (some (.Name x np)) (some n) (b₀ :: suite) pos'] [] [] pos) (fun D σ H => tBod X body (wAs X.K c i (tSui X (b₀ :: suite)) Wout D) D σ H) :=
  ps_try_as (tb := fun W => tBod X body W) (ts := tSui X (b₀ :: suite)) hs hf hN hi hln hc tk
    (fun W pn xe tk' po => ⟨fun pins s σ H D I ⟨t, ht, q⟩ => (ht pn xe tk' po).run pins s σ H D I q⟩)
    (fun a oe cls d pn hz hf' => ⟨fun pins s σ H D I ⟨t, ht, q⟩ => (ht oe pn hz hf').run pins s σ H D I q⟩)
end
section
variable {α β γ ρ ς ε ε' : Type} {r ra : Rp α} {rb : Rp β} {rc : Rp γ} {te tb : TE} {ta : TA} {Γ Γ1 Γ2 : List Sl} {K : PySem.W.Frag} {a : α} {b : β} {w : Rw α} {C : Addr} {names : List Str} {A : Amb} {D : Ends} {u : TS} {R : ER ε} {i : Nat}
def resX {ε β γ : Type} (x : Res ε β) (k : β → Option γ) (l : ε → Option γ) : Option γ := match x with
  | .ok b => k b
  | .er e => l e
@[simp] theorem resX_ok (b : β) (k : β → Option γ) (l : ε → Option γ) : resX (.ok b) k l = k b := rfl
@[simp] theorem resX_er (e : ε) (k : β → Option γ) (l : ε → Option γ) : resX (.er e) k l = l e := rfl
/-- what goes on with an error -/
def NxE (W : WX) (A : Amb) (Γ : List Sl) (R : ER ε) (e : ε) : Prop := ∀ cls d σ H B, Frm A σ H B Γ → R B cls d e → W cls d σ H
theorem sq_asgR {W : WX} {tf : (L2.St → XK) → TE} {x : Res ε α} {k : α → Option γ} {l : ε → Option γ} {z : γ} (h : EvR R r tf Γ Γ1 x) (e : resX x k l = some z)
    (ko : ∀ y, k y = some z → Nx A (u D) (Γ1.set i (.imm r y))) (ke : ∀ y, l y = some z → NxE W A Γ1 R y) : Nx A (tSeq (tAsg (tf (WE W)) (gName i)) u D) Γ := fun σ H B F =>
  h A σ H B F _ _ (fun b hb v H' B' F' _ q => ko b (by rw [hb] at e; exact e) _ _ _ (F'.set q)) (fun y hy cls d H' B' F' _ q => ke y (by rw [hy] at e; exact e) _ _ _ _ _ F' q)
theorem sq_dropR {W : WX} {tf : (L2.St → XK) → TE} {x : Res ε α} {k : α → Option γ} {l : ε → Option γ} {z : γ} (h : EvR R r tf Γ Γ1 x) (e : resX x k l = some z)
    (ko : ∀ y, k y = some z → Nx A (u D) Γ1) (ke : ∀ y, l y = some z → NxE W A Γ1 R y) : Nx A (tSeq (tDrop (tf (WE W))) u D) Γ := fun σ H B F =>
  h A σ H B F _ _ (fun b hb v H' B' F' _ q => ko b (by rw [hb] at e; exact e) _ _ _ F') (fun y hy cls d H' B' F' _ q => ke y (by rw [hy] at e; exact e) _ _ _ _ _ F' q)
theorem sq_try {X : Cx} {st : List Stmt} {W : Ends → WX} {t : TS} (hb : ∀ (pn : List (Addr × Obj)) (xe : Value → Shared → Prop), Takes (X.tr pn xe) (W { D with nx := u D }) → PassesOwn (model X.prog X.w) X.A X.env xe → PSs (X.tr pn xe) st t)
    (h : Nx A (t { D with nx := u D }) Γ) : Nx A (tSeq (fun D σ H => tBod X st (W D) D σ H) u D) Γ := fun σ H B F => ⟨t, hb, h σ H B F⟩
/-- the error in a suite -/
def rExc (p : Addr) (d : Option Addr) (C : Addr) (names : List Str) (w : Rw α) : Rp α := ⟨fun H v x => v = .ref p ∧ ErAt H (.ref C) d C names w x, fun s ⟨e, h1, dd, fs, vs, h2, h3, h4, h5⟩ => ⟨e, h1, dd, fs, vs, h2, s _ _ h3, w.mono s h4, h5⟩⟩
theorem ev_xf {p : Addr} {d : Option Addr} {k : Nat} {nm : Str} {f : α → β} (h : EvX (rExc p d C names w) te Γ Γ1 a) (g : Acc w k rb f) (hk : names[k]? = some nm) : EvX rb (tXf p (.ref C) d C nm te) Γ Γ1 (f a) := fun A σ H B F Q q =>
  h A σ H B F _ fun v H1 B1 F1 s1 ⟨e, _, dd, fs, vs, h2, h3, h4, h5⟩ => by
    obtain ⟨y, hy, ky⟩ := g B1 vs a h4
    exact ⟨e, rfl, dd, fs, y, h2, F1.bh _ _ h3, by rw [h5 k nm hk, hy], q y H1 B1 F1 s1 ky⟩
theorem Frm.unset {σ : L2.St} {H B : Hp} (F : Frm A σ H B Γ) (i : Nat) : Frm A (σ.set i none) H B (Γ.set i .no) :=
  F.put (List.length_set) (fun j ne => by rw [List.getElem?_set_ne ne]) fun _ _ _ => trivial
theorem nx_unset {P : L2.St → Hp → Prop} (h : Nx A P (Γ.set i .no)) : Nx A (fun σ H => P (σ.set i none) H) Γ := fun σ H B F => h _ _ _ (F.unset i)
theorem nx_unsetE {D : Ends} (h : Nx A D.nx (Γ.set i .no)) : Nx A ({ nx := fun σ' H' => D.nx (σ'.set i none) H', rt := D.rt, bk := fun σ' H' => D.bk (σ'.set i none) H', ct := fun σ' H' => D.ct (σ'.set i none) H' } : Ends).nx Γ := nx_unset h
/-- an error of the class at C reaches «except C as n» -/
theorem nxe_as {X : Cx} {st : List Stmt} {c : Value} {Wout : WX} {e : α} (hx : PySem.W.exmOne K (.ref C) c = some true)
    (k : ∀ (p : Addr) (d : Option Addr), ∃ t : TS, (∀ (oe : Obj) (pn : List (Addr × Obj)), Zc (.ref C) d oe → (∃ vs, oe.data = .fields vs) → PSs (X.suite p ((p, oe) :: pn)) st t) ∧
      Nx A (t { nx := fun σ' H' => D.nx (σ'.set i none) H', rt := D.rt, bk := fun σ' H' => D.bk (σ'.set i none) H', ct := fun σ' H' => D.ct (σ'.set i none) H' }) (Γ.set i (.imm (rExc p d C names w) e))) :
    NxE (wAs K c i (tSui X st) Wout D) A Γ (fun B cls d x => ErAt B cls d C names w x) e := fun cls d σ H B F he => by
  obtain ⟨rfl, h⟩ := id he
  refine ⟨true, hx, fun _ p hp => ?_, fun q => Bool.noConfusion q⟩
  obtain ⟨t, h1, h2⟩ := k p d
  exact ⟨t, h1, h2 _ _ _ (F.set ⟨rfl, he⟩)⟩
abbrev erC (C : Addr) (names : List Str) (w : Rw α) : ER α := fun B cls d x => ErAt B cls d C names w x
/-- one of two kinds of errors -/
abbrev erS (R1 : ER ε) (R2 : ER ε') : ER (ε ⊕ ε') := fun B cls d x => match x with
  | .inl a => R1 B cls d a
  | .inr b => R2 B cls d b
theorem erC_mono {H H' : Hp} {cls : Value} {d : Option Addr} {e : α} (s : Same H H') (h : erC C names w H cls d e) : erC C names w H' cls d e := by
  obtain ⟨h1, dd, fs, vs, h2, h3, h4, h5⟩ := h
  exact ⟨h1, dd, fs, vs, h2, s _ _ h3, w.mono s h4, h5⟩
theorem erS_mono {R1 : ER ε} {R2 : ER ε'} (h1 : ∀ {H H' : Hp} {cls d e}, Same H H' → R1 H cls d e → R1 H' cls d e) (h2 : ∀ {H H' : Hp} {cls d e}, Same H H' → R2 H cls d e → R2 H' cls d e) {H H' : Hp} {cls : Value} {d : Option Addr} {e : ε ⊕ ε'} (s : Same H H') (h : erS R1 R2 H cls d e) : erS R1 R2 H' cls d e := by
  cases e with
  | inl a => exact h1 s h
  | inr b => exact h2 s h
theorem sq_asgMk {W : WX} {wb : Rw β} {m : α → Option (Res ε β)} {x : Res ε β} {k : β → Option γ} {l : ε → Option γ} {z : γ} (hmono : ∀ {H H' : Hp} {cls d e}, Same H H' → R H cls d e → R H' cls d e) (h : EvW w ta Γ Γ1 a) (e : m a = some x) (q : resX x k l = some z)
    (ko : ∀ y, k y = some z → Nx A (u D) (Γ1.set i (.imm (rIns C names wb) y))) (ke : ∀ y, l y = some z → NxE W A Γ1 R y) : Nx A (tSeq (tAsg (tMakeS C (SpI R C w (cIns C names wb) m) (WE W) ta) (gName i)) u D) Γ :=
  sq_asgR (tf := fun E => tMakeS C (SpI R C w (cIns C names wb) m) E ta) (er_make hmono h e) q ko ke
/-! ### a class whose __init__ does not raise -/
def SpJ {α β : Type} (C : Addr) (w : Rw α) (c : Cl β) (m : α → Option β) : Sp := fun vs H Q E => ∃ p dx vs' B a b, vs = .ref p :: vs' ∧ H p = some (.ins C dx []) ∧ HotP B p ∧ SzT H B ∧ Same B H ∧ w.rel B vs' a ∧ m a = some b ∧ RtI (ambS B H p) p c b Q
theorem ev_make {wb : Rw β} {m : α → Option β} {E : XK} (h : EvW w ta Γ Γ1 a) (e : m a = some b) : EvX (rIns C names wb) (tMake C (SpJ C w (cIns C names wb) m) [] E ta) Γ Γ1 b := fun A σ H B F Q q => h A σ H B F _ fun vs H1 B1 F1 s1 k1 => by
  intro y dy hy hd ne
  obtain ⟨p1, p2, p3, p4⟩ := made_pre (C := C) F1 hy hd ne
  refine ⟨y, dy, vs, upd B1 dy (.own y), a, b, by rw [List.append_nil], upd_same, p3, p1, p2, w.mono p4 k1, e, fun H2 B2 P ⟨o, ho, k⟩ => ⟨rfl, ?_⟩⟩
  have F2 := made_frame (A := A) F1 hy hd ne P ho
  have F3 := F2.adopt (F1.H0none hy) F1.sub F1.mh
  have hB2 : B2 y = none := P.out y (by show upd (upd H1 dy (.own y)) y (.ins C dy []) y ≠ none; rw [upd_same]; simp) p3.1
  have s3 : Same B2 (upd B2 y o) := fun q u e => by rw [upd_ne (ne_of_none e hB2)]; exact e
  exact q _ _ _ F3 (s1.trans (p4.trans (P.b0.trans s3))) ⟨y, o, rfl, upd_same, (cIns C names wb).mono s3 k⟩
/-! ### methods -/
theorem ins_no {vs : List V} {nm : Str} (hn : nm ∉ names) : (names.zip vs).lookup nm = none := zip_none hn
theorem ev_meth {w' : Rw β} {m : α × β → Option γ} {E : XK} {nm : Str} {z : γ} (h : EvX (rIns C names w) te Γ Γ1 a) (hb : EvW w' ta Γ1 Γ2 b) (e : m (a, b) = some z) (hn : nm ∉ names) :
    EvX rc (tMeth C nm (SpP (wC (rIns C names w) w') rc m) [] E te ta) Γ Γ2 z := fun A σ H B F Q q => h A σ H B F _ fun v H1 B1 F1 s1 k1 => by
  obtain ⟨p, dx, vs, rfl, hp, l, kw⟩ := ob_ins F1.bh k1
  refine ⟨p, dx, _, rfl, hp, ins_no hn, hb A σ H1 B1 F1 _ fun us H2 B2 F2 s2 k2 => ?_⟩
  rw [List.append_nil]
  exact ⟨B2, (a, b), z, F2.szt, F2.bh, ⟨_, us, rfl, (rIns C names w).mono s2 k1, k2⟩, e, fun H3 B3 v3 P k3 => q v3 H3 B3 (F2.after P) ((s1.trans s2).trans P.b0) k3⟩
theorem ec_meth {w' : Rw β} {c : Cl γ} {m : α × β → Option γ} {E : XK} {nm : Str} {z : γ} (h : EvX (rIns C names w) te Γ Γ1 a) (hb : EvW w' ta Γ1 Γ2 b) (e : m (a, b) = some z) (hn : nm ∉ names) :
    EvC c (tMeth C nm (SpC (wC (rIns C names w) w') c m) [] E te ta) Γ Γ2 z := fun A σ H B F Q q => h A σ H B F _ fun v H1 B1 F1 s1 k1 => by
  obtain ⟨p, dx, vs, rfl, hp, l, kw⟩ := ob_ins F1.bh k1
  refine ⟨p, dx, _, rfl, hp, ins_no hn, hb A σ H1 B1 F1 _ fun us H2 B2 F2 s2 k2 => ?_⟩
  rw [List.append_nil]
  exact ⟨B2, (a, b), z, F2.szt, F2.bh, ⟨_, us, rfl, (rIns C names w).mono s2 k1, k2⟩, e, fun q2 o H3 B3 P hq k3 => q q2 o H3 B3 (F2.afterC P hq) (F2.H0none hq) ((s1.trans s2).trans P.b0) k3⟩
theorem ev_meth0 {m : α → Option γ} {E : XK} {nm : Str} {z : γ} (h : EvX (rIns C names w) te Γ Γ1 a) (e : m a = some z) (hn : nm ∉ names) :
    EvX rc (tMeth C nm (SpP (w1 (rIns C names w)) rc m) [] E te tNil) Γ Γ1 z := fun A σ H B F Q q => h A σ H B F _ fun v H1 B1 F1 s1 k1 => by
  obtain ⟨p, dx, vs, rfl, hp, l, kw⟩ := ob_ins F1.bh k1
  exact ⟨p, dx, _, rfl, hp, ins_no hn, B1, a, z, F1.szt, F1.bh, ⟨_, rfl, k1⟩, e, fun H3 B3 v3 P k3 => q v3 H3 B3 (F1.after P) (s1.trans P.b0) k3⟩
theorem ec_meth0 {c : Cl γ} {m : α → Option γ} {E : XK} {nm : Str} {z : γ} (h : EvX (rIns C names w) te Γ Γ1 a) (e : m a = some z) (hn : nm ∉ names) :
    EvC c (tMeth C nm (SpC (w1 (rIns C names w)) c m) [] E te tNil) Γ Γ1 z := fun A σ H B F Q q => h A σ H B F _ fun v H1 B1 F1 s1 k1 => by
  obtain ⟨p, dx, vs, rfl, hp, l, kw⟩ := ob_ins F1.bh k1
  exact ⟨p, dx, _, rfl, hp, ins_no hn, B1, a, z, F1.szt, F1.bh, ⟨_, rfl, k1⟩, e, fun q2 o H3 B3 P hq k3 => q q2 o H3 B3 (F1.afterC P hq) (F1.H0none hq) (s1.trans P.b0) k3⟩
/-! ### isinstance, the answer known -/
def TyR (K : PySem.W.Frag) (r : Rp α) (t : Value) : Prop := ∀ H v a, r.rel H v a → TyX K H v t
theorem ev_isi {t v : Value} {c : V} {k : Bool} (h : EvX r te Γ Γ1 a) (ty : TyR K r t) (hc : ClsV c v) (kit : PySem.W.kitOne K t v = some k) : EvX rBool (tCB (rIsi K) (tCons te (tCons (tC c) tNil))) Γ Γ1 k := fun A σ H B F Q q =>
  h A σ H B F _ fun x H1 B1 F1 s1 k1 => ⟨x, c, t, v, k, rfl, hc, ty _ _ _ (r.mono F1.bh k1), kit, q _ _ _ F1 s1 rfl⟩
theorem ty_bool : TyR K rBool (.type "bool") := fun H v a h => by rw [show v = _ from h]; exact .base (.bl _)
theorem ty_int : TyR K rInt (.type "int") := fun H v a h => by rw [show v = _ from h]; exact .base (.int _)
theorem ty_str : TyR K rStr (.type "str") := fun H v a h => by rw [show v = _ from h]; exact .base (.str _)
theorem ty_non : TyR K rNon (.type "NoneType") := fun H v a h => by rw [show v = _ from h]; exact .base .non
theorem ty_lst : TyR K (rOb (cLst r)) (.type "list") := fun H v a ⟨p, o, e, hp, vs, eo, k⟩ => by subst e; subst eo; exact .base (.lst hp)
theorem ty_hls : TyR K (rOb (cHls w)) (.type "list") := fun H v a ⟨p, o, e, hp, vs, eo, k⟩ => by subst e; subst eo; exact .base (.lst hp)
theorem ty_tpl : TyR K (rOb (cTpl r)) (.type "tuple") := fun H v a ⟨p, o, e, hp, vs, eo, k⟩ => by subst e; subst eo; exact .base (.tup hp)
theorem ty_tup : TyR K (rOb (cTup w)) (.type "tuple") := fun H v a ⟨p, o, e, hp, vs, eo, k⟩ => by subst e; subst eo; exact .base (.tup hp)
theorem nn_ins : NN (rIns C names w) := nn_ob
end
/-! ### data of any shape -/
theorem Same.seqT {K : PySem.W.Frag} {H H' : Hp} {a : Addr} {xs : List V} (e : Same H H') (h : SqT K H a xs) : SqT K H' a xs := by
  rcases h with (h | ⟨o, h⟩) | h
  · exact .inl (.inl (e _ _ h))
  · exact .inl (.inr ⟨o, e _ _ h⟩)
  · exact .inr h
mutual
theorem dp_mono {K : PySem.W.Frag} {H H' : Hp} (s : Same H H') : ∀ (d : PyData) (v : V), Dp K H v d → Dp K H' v d
  | .none, _, h => by cases h; exact .non
  | .bool b, _, h => by cases h; exact .bl b
  | .int i, _, h => by cases h; exact .int i
  | .str x, _, h => by cases h; exact .str x
  | .list ds, _, h => by
    cases h with
    | lst hs ha => exact .lst (s.seq hs) (dpAll_mono s ds _ ha)
  | .tuple ds, _, h => by
    cases h with
    | tup hs ha => exact .tup (Same.seqT s hs) (dpAll_mono s ds _ ha)
  | .dict _, _, h => by cases h
theorem dpAll_mono {K : PySem.W.Frag} {H H' : Hp} (s : Same H H') : ∀ (ds : List PyData) (vs : List V), DpAll K H vs ds → DpAll K H' vs ds
  | [], _, h => by cases h; exact .nil
  | d :: ds, _, h => by
    cases h with
    | cons h1 h2 => exact .cons (dp_mono s d _ h1) (dpAll_mono s ds _ h2)
end
def rDyn (K : PySem.W.Frag) : Rp PyData := ⟨fun H v d => Dp K H v d, fun s h => dp_mono s _ _ h⟩
def Da {α : Type} (K : PySem.W.Frag) (r : Rp α) (f : α → PyData) : Prop := ∀ H v a, r.rel H v a → Dp K H v (f a)
def DaW {α : Type} (K : PySem.W.Frag) (w : Rw α) (f : α → List PyData) : Prop := ∀ H vs a, w.rel H vs a → DpAll K H vs (f a)
def dOpt {α : Type} (f : α → PyData) : Option α → PyData
  | none => .none
  | some a => f a
def dLst {α : Type} (f : α → PyData) (xs : List α) : PyData := .list (xs.map f)
def dTpl {α : Type} (f : α → PyData) (xs : List α) : PyData := .tuple (xs.map f)
def dTup {α : Type} (f : α → List PyData) (a : α) : PyData := .tuple (f a)
def dHls {α : Type} (f : α → List PyData) (a : α) : PyData := .list (f a)
def dw0 : Unit → List PyData := fun _ => []
def dw1 {α : Type} (f : α → PyData) (a : α) : List PyData := [f a]
def dwC {α β : Type} (f : α → PyData) (g : β → List PyData) (a : α × β) : List PyData := f a.1 :: g a.2
def dNon : Unit → PyData := fun _ => .none
def dId : PyData → PyData := fun d => d
section
variable {α β γ : Type} {K : PySem.W.Frag} {r ra : Rp α} {rb : Rp β} {w : Rw α} {wb : Rw β} {f : α → PyData} {g : β → PyData} {fw : α → List PyData} {gw : β → List PyData} {Γ Γ1 Γ2 : List Sl} {te ta tb : TE} {x : α} {y : β}
theorem da_int : Da K rInt PyData.int := fun H v a h => by rw [show v = _ from h]; exact .int a
theorem da_str : Da K rStr PyData.str := fun H v a h => by rw [show v = _ from h]; exact .str a
theorem da_bool : Da K rBool PyData.bool := fun H v a h => by rw [show v = _ from h]; exact .bl a
theorem da_non : Da K rNon dNon := fun H v a h => by rw [show v = _ from h]; exact .non
theorem da_dyn : Da K (rDyn K) dId := fun H v a h => h
theorem da_opt (h : Da K r f) : Da K (rOpt r) (dOpt f) := fun H v a k => by
  cases a with
  | none => rw [show v = _ from k]; exact .non
  | some a => exact h H v a k.1
theorem dp_all (h : Da K r f) {H : Hp} : ∀ {vs : List V} {xs : List α}, Paired (r.rel H) vs xs → DpAll K H vs (xs.map f)
  | _, _, .nil => .nil
  | _, _, .cons q t => .cons (h _ _ _ q) (dp_all h t)
theorem da_lst (h : Da K r f) : Da K (rOb (cLst r)) (dLst f) := fun H v a ⟨p, o, e, hp, vs, eo, k⟩ => by
  subst e; subst eo
  exact .lst (SqL.of hp) (dp_all h k)
theorem da_tpl (h : Da K r f) : Da K (rOb (cTpl r)) (dTpl f) := fun H v a ⟨p, o, e, hp, vs, eo, k⟩ => by
  subst e; subst eo
  exact .tup (SqT.of hp) (dp_all h k)
theorem da_tup (h : DaW K w fw) : Da K (rOb (cTup w)) (dTup fw) := fun H v a ⟨p, o, e, hp, vs, eo, k⟩ => by
  subst e; subst eo
  exact .tup (SqT.of hp) (h _ _ _ k)
theorem da_hls (h : DaW K w fw) : Da K (rOb (cHls w)) (dHls fw) := fun H v a ⟨p, o, e, hp, vs, eo, k⟩ => by
  subst e; subst eo
  exact .lst (SqL.of hp) (h _ _ _ k)
theorem daw_0 : DaW K w0 dw0 := fun H vs a h => by rw [show vs = [] from h]; exact .nil
theorem daw_1 (h : Da K r f) : DaW K (w1 r) (dw1 f) := fun H vs a ⟨v, e, k⟩ => by rw [e]; exact .cons (h _ _ _ k) .nil
theorem daw_C (h : Da K r f) (hw : DaW K wb gw) : DaW K (wC r wb) (dwC f gw) := fun H vs a ⟨v, t, e, k, k2⟩ => by rw [e]; exact .cons (h _ _ _ k) (hw _ _ _ k2)
theorem ev_dyn (d : Da K r f) (h : EvX r te Γ Γ1 x) : EvX (rDyn K) te Γ Γ1 (f x) := fun A σ H B F Q q => h A σ H B F Q fun v H' B' F' s k => q v H' B' F' s (d _ _ _ k)
theorem nn_dyn_tup {K : PySem.W.Frag} : True := trivial
def pyEq (d e : PyData) : Option Bool := if SeqAt.shaped d = true ∧ SeqAt.shaped e = true then some (PyData.eqv d e) else none
theorem ev_eqD {b : Bool} (da : Da K ra f) (db : Da K rb g) (ha : EvX ra ta Γ Γ1 x) (hb : EvX rb tb Γ1 Γ2 y) (e : pyEq (f x) (g y) = some b) : EvX rBool (tOp (rEqD K) ta tb) Γ Γ2 b := by
  unfold pyEq at e
  split at e
  · rename_i hs
    cases e
    exact ev_op ha hb fun H B u v s ku kv Q q => ⟨_, _, dp_mono s _ _ (da _ _ _ ku), dp_mono s _ _ (db _ _ _ kv), hs.1, hs.2, q _ rfl⟩
  · cases e
theorem ev_neD {b : Bool} (da : Da K ra f) (db : Da K rb g) (ha : EvX ra ta Γ Γ1 x) (hb : EvX rb tb Γ1 Γ2 y) (e : pyEq (f x) (g y) = some b) : EvX rBool (tOp (rNeD K) ta tb) Γ Γ2 (!b) := by
  unfold pyEq at e
  split at e
  · rename_i hs
    cases e
    exact ev_op ha hb fun H B u v s ku kv Q q => ⟨_, _, dp_mono s _ _ (da _ _ _ ku), dp_mono s _ _ (db _ _ _ kv), hs.1, hs.2, q _ rfl⟩
  · cases e
end
end G

set_option maxHeartbeats 4000000
/-! # G: len(set(..)) -/
namespace G
variable [TabL]
open PySem PySem.Spec PyProof.Rows L2
/-- the different ones, in the order of coming -/
def dst {α : Type} [DecidableEq α] (xs : List α) : List α := xs.foldl (fun l x => if x ∈ l then l else l ++ [x]) []
section
variable {κ : Type} [DecidableEq κ]
theorem dst_app (xs : List κ) (x : κ) : dst (xs ++ [x]) = if x ∈ dst xs then dst xs else dst xs ++ [x] := by
  unfold dst
  rw [List.foldl_append]
  rfl
theorem mem_dstF {x : κ} : ∀ (xs l : List κ), x ∈ xs.foldl (fun l x => if x ∈ l then l else l ++ [x]) l ↔ x ∈ l ∨ x ∈ xs
  | [], l => by simp
  | y :: ys, l => by
    rw [List.foldl_cons, mem_dstF ys]
    by_cases h : y ∈ l
    · rw [if_pos h, List.mem_cons]
      exact ⟨fun q => q.elim .inl fun q => .inr (.inr q), fun q => q.elim .inl fun q => q.elim (fun e => .inl (e ▸ h)) .inr⟩
    · rw [if_neg h, List.mem_append, List.mem_singleton, List.mem_cons, or_assoc]
theorem mem_dst {x : κ} {xs : List κ} : x ∈ dst xs ↔ x ∈ xs := by
  unfold dst
  rw [mem_dstF]
  simp
theorem dst_le : ∀ xs : List κ, (dst xs).length ≤ xs.length := fun xs => by
  suffices h : ∀ (ys l : List κ), (ys.foldl (fun l x => if x ∈ l then l else l ++ [x]) l).length ≤ l.length + ys.length by simpa [dst] using h xs []
  intro ys
  induction ys with
  | nil => intro l; simp
  | cons y ys ih =>
    intro l
    rw [List.foldl_cons]
    refine Nat.le_trans (ih _) ?_
    rw [List.length_cons]
    split
    · omega
    · rw [List.length_append, List.length_singleton]; omega
variable {prog : Program} {w : World} {knd : KeyKind prog w κ} {A : Around} {R : Result → Shared → Prop} {E : Value → Shared → Prop} {it : Addr} {fp wr : List Addr} {Gg : Array GenState → Array GenState → Prop} {n : Nat} {P : Nat → Value → Prop} {St : Nat → Shared → Prop} {z : Shared}
/-- what is walked goes into the set at D -/
theorem fill_loop (W : WalksS prog w A.in1 it fp wr Gg n P St) (D : Addr) (hD : D ∉ fp) (ks : List κ) (hn : ks.length = n) (hb : n < 2000)
    (hv : ∀ (i : Nat) (v : Value), P i v → ∃ k, ks[i]? = some k ∧ knd.is k v = true ∧ v.scannable = true) : ∀ (m i : Nat) (z : Shared), n - i = m → i ≤ n → St i z →
      z.heap.SetOf knd D (fun x => decide (x ∈ ks.take i)) (dst (ks.take i)).length →
      (∀ z2, Moved (D :: wr) Gg z z2 → z2.heap.SetOf knd D (fun x => decide (x ∈ ks)) (dst ks).length → R (.ok (.ret .none)) z2) →
      codeAny (model prog w) A (.builtin "set.update.loop" ⟨[.ref D, .ref it], []⟩) R z := by
  have hw : D ∉ wr := fun q => hD (W.sub _ q)
  have up : ∀ b ∈ wr, b ∈ D :: wr := fun b q => List.mem_cons_of_mem D q
  have mv : ∀ {g g2 : Heap} {S : κ → Bool} {c : Nat}, (∀ o, g.get? D = some o → g2.get? D = some o) → g.SetOf knd D S c → g2.SetOf knd D S c := fun k ⟨o, es, ep, t, ho, r⟩ => ⟨o, es, ep, t, k o ho, r⟩
  intro m
  induction m with
  | zero =>
    intro i z e le st so fin
    have e2 : i = n := by omega
    subst e2
    refine codeAny_builtin PyProof.Rows.F.entry_set_update_loop ?_
    rw [Around.under_plainId (A := A) PyProof.Rows.F.plain_set_update_loop _]
    show wpAny _ A.in1 (pyNext (.ref it) >>= _) _ _ z
    refine wpAny_bind (W.done z _ _ st fun z2 m2 => ?_)
    show wpAny _ A.in1 (ret Value.none) _ _ z2
    have so2 := mv (m2.heap D · hw) so
    rw [List.take_of_length_le (by omega)] at so2
    exact wpAny_pure (fin z2 (m2.mono up) so2)
  | succ m ih =>
    intro i z e le st so fin
    have lt : i < n := by omega
    refine codeAny_builtin PyProof.Rows.F.entry_set_update_loop ?_
    rw [Around.under_plainId (A := A) PyProof.Rows.F.plain_set_update_loop _]
    show wpAny _ A.in1 (pyNext (.ref it) >>= _) _ _ z
    refine wpAny_bind (W.item i z _ _ lt st fun v z2 hP st2 m2 => ?_)
    obtain ⟨k, hk, hkv, hsc⟩ := hv i v hP
    have so2 := mv (m2.heap D · hw) so
    have tk : ks.take (i + 1) = ks.take i ++ [k] := by rw [List.take_add_one, hk]; rfl
    show wpAny _ A.in1 (holding [v] (setAdd D v) >>= _) _ _ z2
    refine wpAny_bind (wpAny_holding ?_)
    unfold setAdd
    refine wpAny_holding (wpAny_bind (knd.pyHash hkv ?_))
    have dl := dst_le (ks.take i)
    have tl : (ks.take i).length ≤ i := by rw [List.length_take]; omega
    refine wpAny_setAddHashed_of (s := { z2 with toks := z2.toks + 1 }) hkv hsc so2 (by unfold scanBound; omega) fun g sb so3 => ?_
    have so4 : g.SetOf knd D (fun x => decide (x ∈ ks.take (i + 1))) (dst (ks.take (i + 1))).length := by
      refine PyProof.Rows.SetOf_congr so3 (fun x => ?_) ?_
      · rw [tk]
        by_cases h1 : x ∈ ks.take i <;> by_cases h2 : x = k <;> simp [h1, h2, List.mem_append]
      · rw [tk, dst_app]
        by_cases h1 : k ∈ ks.take i
        · rw [if_pos (decide_eq_true h1), if_pos (mem_dst.mpr h1)]
        · rw [if_neg (by simpa using h1), if_neg (fun q => h1 (mem_dst.mp q)), List.length_append, List.length_singleton]
    refine wpAny_pure (And.intro (plainId_quiet PyProof.Rows.F.plain_set_update_loop _) (ih (i + 1) _ (by omega) lt (W.frame _ z2 _ _ st2 (Nat.le_succ _) fun b q o ho => (sb.2 b (fun h => hD (h ▸ q))).trans ho) so4 fun z3 m3 so5 => fin z3 ?_ so5))
    exact Moved.trans W.gtrans ((m2.mono up).then_heap (Nat.le_succ _) fun b o q ho => (sb.2 b (fun h => q (h ▸ List.mem_cons_self))).trans ho) m3

set_option maxHeartbeats 8000000 in
theorem set_of_list {p : Addr} {its : Array Value} {ks : List κ} {G : Value → Shared → Prop} (hd : A.handled = none) (hp : z.heap.IsList p its) (hn : ks.length = its.size) (hb : its.size < 2000)
    (hv : ∀ (i : Nat) (v : Value), its[i]? = some v → ∃ k, ks[i]? = some k ∧ knd.is k v = true ∧ v.scannable = true)
    (fin : ∀ (g : Heap) (tk : Nat), g.SetOf knd z.heap.objs.size (fun x => decide (x ∈ ks)) (dst ks).length → (∀ b o, z.heap.get? b = some o → g.get? b = some o) → G (.ref z.heap.objs.size) { z with heap := g, toks := tk }) :
    wpAny (model prog w) A (call (.type "set") [.ref p]) G E z := by
  obtain ⟨mc, mt, m0⟩ := PySem.F.called_set.mro
  have m1 := PySem.F.called_set.made
  have m2 := PySem.F.called_set.sub
  refine wpAny_call (codeAny_of_tree ?_)
  show wpAny _ _ (callAny (.type "set") (_ : Args)) _ _ z
  refine wpAny_pure (And.intro (Code.quiet_builtin _ (by decide +kernel)) (codeAny_builtin PySem.F.entry_type_call ?_))
  rw [Around.under_plain (weight_type_call_type "set" [Value.ref p] ([] : List (Str × Value))) (by rfl)]
  have m3 := PySem.F.called_set.notType
  have m4 := PySem.F.called_set.canCreate
  have m5 := PySem.F.typeCall_set_1 (Value.ref p)
  repeat (any_goals (first | assumption | wp_step))
  let ob : Bool → Obj := fun led => { cls := .type "set", dict := none, data := .set #[] 0 (.fresh 0 0 led) }
  refine codeAny_mono (code_set_new_1 (Value.ref p) (E := E) (Q₁ := fun v z1 => ∃ led : Bool, v = Value.ref z.heap.objs.size ∧ z1 = { z with heap := z.heap.push (ob led) }) fun led => ⟨led, rfl, rfl⟩) fun r0 z1 q0 => ?_
  cases r0 with
  | error e => exact q0
  | ok fl0 =>
    cases fl0 with
    | next => exact q0.elim
    | brk => exact q0.elim
    | cont => exact q0.elim
    | ret v0 =>
      obtain ⟨led, rfl, rfl⟩ := q0
      have at0 : (z.heap.push (ob led)).get? z.heap.objs.size = some (ob led) := Heap.get?_push_size _ rfl
      have ty0 : Shared.TypeIs { z with heap := z.heap.push (ob led) } (.ref z.heap.objs.size) "set" := ⟨_, at0, rfl⟩
      have i1 := PySem.F.called_set.init.lookup
      have i2 := PySem.F.called_set.init.bind (Value.ref z.heap.objs.size)
      repeat (any_goals (first | assumption | wp_step))
      refine codeAny_mono (codeAny_call_builtin (R := wants (fun v z2 => v = .none ∧ ∃ g tk, z2 = { z with heap := g, toks := tk } ∧ g.SetOf knd z.heap.objs.size (fun x => decide (x ∈ ks)) (dst ks).length ∧
          (∀ b o, z.heap.get? b = some o → g.get? b = some o)) E) PySem.F.called_set.init.plain PySem.F.entry_set_init (check_set_init_1 ty0 ?_)) fun r2 z2 q2 => ?_
      · obtain ⟨u0, a0, c0, n0, d0⟩ := hp
        obtain ⟨uc, ud, ux, us⟩ := u0
        simp only at c0 d0
        subst c0; subst d0
        have a1 : (z.heap.push (ob led)).get? p = some { cls := .type "list", dict := ud, data := .seq its n0, slots := us } := Heap.get?_push_of_some _ a0
        have s1 := PySem.F.sub_list_set
        have s2 := PySem.F.sub_list_frozenset
        have s3 : (Value.type "list" == Value.type "dict") = false := by decide
        have l1 : (z.heap.push (ob led)).IsList p its := ⟨_, a1, rfl, n0, rfl⟩
        unfold Builtin.«set.__init__» noKeywords Builtin.Frozenset.updateFrom
        generalize hit : pyIter = itf
        wp_walk
        subst hit
        refine wpAny_pyIter_list l1 (wpAny_bind (wpAny_runValue ?_))
        have pl : p < z.heap.objs.size := Heap.lt_size a0
        have h3 : A.in1.in1.in1.handled = none := by simp [hd]
        have sz1 : (z.heap.push (ob led)).objs.size = z.heap.objs.size + 1 := Heap.size_push ..
        have ne1 : p ≠ (z.heap.push (ob led)).objs.size := by rw [sz1]; exact Nat.ne_of_lt (Nat.lt_succ_of_lt pl)
        have sf : z.heap.objs.size ∉ [(z.heap.push (ob led)).objs.size, p] := fun hm => by
          rw [sz1] at hm
          rcases List.mem_cons.mp hm with e | hm
          · exact Nat.ne_of_lt (Nat.lt_succ_self _) e
          · exact Nat.ne_of_gt pl (List.mem_singleton.mp hm)
        refine fill_loop ((Walks.list h3 _ p ne1 its).toS) z.heap.objs.size sf ks hn hb hv (its.size - 0) 0 _ (by omega) (Nat.zero_le _) ⟨⟨_, Heap.get?_push_size _ rfl, rfl, rfl⟩, l1.push _⟩ ?w0 ?w1
        case w0 =>
          exact PyProof.Rows.SetOf_congr ((PyProof.Rows.setObjOf_fresh (knd := knd) led).setOf (Heap.get?_push_of_some _ at0) (by unfold scanBound; omega)) (fun x => by simp) (by simp [dst])
        case w1 =>
          intro z3 mv st3
          obtain ⟨g3, e3, d3, t3, o3⟩ := z3
          obtain rfl : e3 = z.gens := mv.gens
          obtain rfl : d3 = z.drawn := mv.drawn
          obtain rfl : o3 = z.os := mv.os
          show wpAny _ _ _ _ _ (_ : Shared)
          refine wpAny_pure ?_
          show wpAny _ _ (ret Value.none) _ _ (_ : Shared)
          refine wpAny_pure ⟨rfl, g3, t3, rfl, st3, fun b o hbo => mv.heap b o (fun hm => ?_) (Heap.get?_push_of_some _ (Heap.get?_push_of_some _ hbo))⟩
          have bl := Heap.lt_size hbo
          rcases List.mem_cons.mp hm with e | hm
          · exact Nat.ne_of_lt bl e
          · rw [List.mem_singleton, sz1] at hm; exact Nat.ne_of_lt (Nat.lt_succ_of_lt bl) hm
      · cases r2 with
        | error e => exact q2
        | ok fl2 =>
          cases fl2 with
          | next => exact q2.elim
          | brk => exact q2.elim
          | cont => exact q2.elim
          | ret v2 =>
            obtain ⟨rfl, g2, t2, rfl, st2, kp2⟩ := q2
            repeat (any_goals (first | assumption | wp_step))
            exact fin _ _ st2 kp2

set_option maxHeartbeats 8000000 in
theorem set_of_tuple {p : Addr} {its : Array Value} {ks : List κ} {G : Value → Shared → Prop} (hd : A.handled = none) (hp : z.heap.IsTuple p its) (hn : ks.length = its.size) (hb : its.size < 2000)
    (hv : ∀ (i : Nat) (v : Value), its[i]? = some v → ∃ k, ks[i]? = some k ∧ knd.is k v = true ∧ v.scannable = true)
    (fin : ∀ (g : Heap) (tk : Nat), g.SetOf knd z.heap.objs.size (fun x => decide (x ∈ ks)) (dst ks).length → (∀ b o, z.heap.get? b = some o → g.get? b = some o) → G (.ref z.heap.objs.size) { z with heap := g, toks := tk }) :
    wpAny (model prog w) A (call (.type "set") [.ref p]) G E z := by
  obtain ⟨mc, mt, m0⟩ := PySem.F.called_set.mro
  have m1 := PySem.F.called_set.made
  have m2 := PySem.F.called_set.sub
  refine wpAny_call (codeAny_of_tree ?_)
  show wpAny _ _ (callAny (.type "set") (_ : Args)) _ _ z
  refine wpAny_pure (And.intro (Code.quiet_builtin _ (by decide +kernel)) (codeAny_builtin PySem.F.entry_type_call ?_))
  rw [Around.under_plain (weight_type_call_type "set" [Value.ref p] ([] : List (Str × Value))) (by rfl)]
  have m3 := PySem.F.called_set.notType
  have m4 := PySem.F.called_set.canCreate
  have m5 := PySem.F.typeCall_set_1 (Value.ref p)
  repeat (any_goals (first | assumption | wp_step))
  let ob : Bool → Obj := fun led => { cls := .type "set", dict := none, data := .set #[] 0 (.fresh 0 0 led) }
  refine codeAny_mono (code_set_new_1 (Value.ref p) (E := E) (Q₁ := fun v z1 => ∃ led : Bool, v = Value.ref z.heap.objs.size ∧ z1 = { z with heap := z.heap.push (ob led) }) fun led => ⟨led, rfl, rfl⟩) fun r0 z1 q0 => ?_
  cases r0 with
  | error e => exact q0
  | ok fl0 =>
    cases fl0 with
    | next => exact q0.elim
    | brk => exact q0.elim
    | cont => exact q0.elim
    | ret v0 =>
      obtain ⟨led, rfl, rfl⟩ := q0
      have at0 : (z.heap.push (ob led)).get? z.heap.objs.size = some (ob led) := Heap.get?_push_size _ rfl
      have ty0 : Shared.TypeIs { z with heap := z.heap.push (ob led) } (.ref z.heap.objs.size) "set" := ⟨_, at0, rfl⟩
      have i1 := PySem.F.called_set.init.lookup
      have i2 := PySem.F.called_set.init.bind (Value.ref z.heap.objs.size)
      repeat (any_goals (first | assumption | wp_step))
      refine codeAny_mono (codeAny_call_builtin (R := wants (fun v z2 => v = .none ∧ ∃ g tk, z2 = { z with heap := g, toks := tk } ∧ g.SetOf knd z.heap.objs.size (fun x => decide (x ∈ ks)) (dst ks).length ∧
          (∀ b o, z.heap.get? b = some o → g.get? b = some o)) E) PySem.F.called_set.init.plain PySem.F.entry_set_init (check_set_init_1 ty0 ?_)) fun r2 z2 q2 => ?_
      · obtain ⟨u0, a0, c0, n0, d0⟩ := hp
        obtain ⟨uc, ud, ux, us⟩ := u0
        simp only at c0 d0
        subst c0; subst d0
        have a1 : (z.heap.push (ob led)).get? p = some { cls := .type "tuple", dict := ud, data := .seq its n0, slots := us } := Heap.get?_push_of_some _ a0
        have s1 := PySem.F.sub_tuple_set
        have s2 := PySem.F.sub_tuple_frozenset
        have s3 : (Value.type "tuple" == Value.type "dict") = false := by decide
        have l1 : (z.heap.push (ob led)).IsTuple p its := ⟨_, a1, rfl, n0, rfl⟩
        unfold Builtin.«set.__init__» noKeywords Builtin.Frozenset.updateFrom
        generalize hit : pyIter = itf
        wp_walk
        subst hit
        refine wpAny_pyIter_tuple l1 (wpAny_bind (wpAny_runValue ?_))
        have pl : p < z.heap.objs.size := Heap.lt_size a0
        have h3 : A.in1.in1.in1.handled = none := by simp [hd]
        have sz1 : (z.heap.push (ob led)).objs.size = z.heap.objs.size + 1 := Heap.size_push ..
        have ne1 : p ≠ (z.heap.push (ob led)).objs.size := by rw [sz1]; exact Nat.ne_of_lt (Nat.lt_succ_of_lt pl)
        have sf : z.heap.objs.size ∉ [(z.heap.push (ob led)).objs.size, p] := fun hm => by
          rw [sz1] at hm
          rcases List.mem_cons.mp hm with e | hm
          · exact Nat.ne_of_lt (Nat.lt_succ_self _) e
          · exact Nat.ne_of_gt pl (List.mem_singleton.mp hm)
        refine fill_loop ((Walks.tuple h3 _ p ne1 its).toS) z.heap.objs.size sf ks hn hb hv (its.size - 0) 0 _ (by omega) (Nat.zero_le _) ⟨⟨_, Heap.get?_push_size _ rfl, rfl, rfl⟩, l1.push _⟩ ?w0 ?w1
        case w0 =>
          exact PyProof.Rows.SetOf_congr ((PyProof.Rows.setObjOf_fresh (knd := knd) led).setOf (Heap.get?_push_of_some _ at0) (by unfold scanBound; omega)) (fun x => by simp) (by simp [dst])
        case w1 =>
          intro z3 mv st3
          obtain ⟨g3, e3, d3, t3, o3⟩ := z3
          obtain rfl : e3 = z.gens := mv.gens
          obtain rfl : d3 = z.drawn := mv.drawn
          obtain rfl : o3 = z.os := mv.os
          show wpAny _ _ _ _ _ (_ : Shared)
          refine wpAny_pure ?_
          show wpAny _ _ (ret Value.none) _ _ (_ : Shared)
          refine wpAny_pure ⟨rfl, g3, t3, rfl, st3, fun b o hbo => mv.heap b o (fun hm => ?_) (Heap.get?_push_of_some _ (Heap.get?_push_of_some _ hbo))⟩
          have bl := Heap.lt_size hbo
          rcases List.mem_cons.mp hm with e | hm
          · exact Nat.ne_of_lt bl e
          · rw [List.mem_singleton, sz1] at hm; exact Nat.ne_of_lt (Nat.lt_succ_of_lt bl) hm
      · cases r2 with
        | error e => exact q2
        | ok fl2 =>
          cases fl2 with
          | next => exact q2.elim
          | brk => exact q2.elim
          | cont => exact q2.elim
          | ret v2 =>
            obtain ⟨rfl, g2, t2, rfl, st2, kp2⟩ := q2
            repeat (any_goals (first | assumption | wp_step))
            exact fin _ _ st2 kp2

end
theorem val_str : ∀ {xs : List Str} {us : List Value}, Vals (xs.map V.str) us → ∀ (i : Nat) (v : Value), us[i]? = some v → ∃ x t, xs[i]? = some x ∧ v = .str x t
  | [], _, .nil, i, v, h => by simp at h
  | x :: xs, _, .cons ⟨t, e⟩ r, 0, v, h => ⟨x, t, rfl, by simp at h; rw [← h, e]⟩
  | x :: xs, _, .cons _ r, i + 1, v, h => by
    obtain ⟨y, t, h1, h2⟩ := val_str r i v (by simpa using h)
    exact ⟨y, t, by simpa using h1, h2⟩
/-- len(set(texts)), texts a list or a tuple -/
def tLenSt (K : PySem.W.Frag) (ta : TE) : TE := fun σ H Q => ta σ H fun x H1 => ∃ (l : Addr) (xs : List Str), x = .ref l ∧ (SqL K H1 l (xs.map V.str) ∨ SqT K H1 l (xs.map V.str)) ∧ xs.length ≤ 1000 ∧ Q (.int ((dst xs).length : Nat)) H1
theorem pe_lenSt {X : Cx} {a : Expr} {ta : TE} {p p2 q pos : Pos} (hc : X.calm = true) (hg : Gl X "len") (hm : X.mg "len" = none) (hg2 : Gl X "set") (hm2 : X.mg "set" = none) (ha : PE X a ta)
    (na : starEach [a] X.env = (false, eval a X.env) :: starEach [] X.env := by rfl) : PE X (.Call (.Name "len" p) [.Call (.Name "set" p2) [a] [] q] [] pos) (tLenSt X.K ta) := by
  refine ⟨fun pins s σ H Q I h => Call_ (ld_blt I hg hm boot_len ?_)⟩
  refine PyProof.Rows.callWith_builtin1 (PyProof.Rows.args_cons (Call_ (ld_blt I hg2 hm2 boot_set ?_)) rfl) rfl rfl
  refine PyProof.Rows.callWith_type1 (PyProof.Rows.args_cons (thn (ha.run pins s σ H _ I h) fun v s1 ⟨x, H1, I1, r1, q1⟩ => PyProof.Rows.args_nil ?_) na) na rfl
  obtain ⟨l, xs, rfl, hq, hl, q1⟩ := q1
  cases r1
  have fin : ∀ (g : Heap) (tk : Nat), g.SetOf (PySem.strKind X.prog X.w) s1.heap.objs.size (fun x => decide (x ∈ xs)) (dst xs).length → (∀ b o, s1.heap.get? b = some o → g.get? b = some o) →
      wpAny (model X.prog X.w) X.A (spliced (backTo pos (starEach [] X.env))) (fun vs s₂ => wpAny (model X.prog X.w) X.A (call (.builtin "len") (Value.ref s1.heap.objs.size :: vs)) (EP X pins σ Q) X.xe s₂) X.xe { s1 with heap := g, toks := tk } := fun g tk so kp => by
    refine PyProof.Rows.args_nil ?_
    have dl := dst_le xs
    obtain ⟨o, es, ep, t, ho, hex, hd, _, _, _, hf, hn⟩ := so
    have I2 : Inv X pins σ H1 { s1 with heap := g, toks := tk } := I1.kept fun b o e => kp b o e
    exact call_len_set ho hex hd hf (by rw [hn] <;> omega) ⟨.int ((dst xs).length : Nat), H1, I2.tok _, ⟨_, by rw [hn]⟩, q1⟩
  have hv : ∀ {its : List Value}, Vals (xs.map V.str) its → ∀ (i : Nat) (v : Value), its.toArray[i]? = some v → ∃ k, xs[i]? = some k ∧ (PySem.strKind X.prog X.w).is k v = true ∧ v.scannable = true := fun r i v e => by
    obtain ⟨x, t, h1, rfl⟩ := val_str r i v (by simpa using e)
    exact ⟨x, h1, strKind_is _ _ _ _, rfl⟩
  rcases hq with hq | hq
  · obtain ⟨its, r, pl, hz⟩ := I1.list hq
    have hs : its.toArray.size = xs.length := by rw [List.size_toArray, ← r.length, List.length_map]
    exact set_of_list (I1.ok.hd hc) pl.isList hs.symm (by rw [hs]; omega) (hv r) fin
  · obtain ⟨its, r, pl, hz⟩ := I1.tuple hq
    have hs : its.toArray.size = xs.length := by rw [List.size_toArray, ← r.length, List.length_map]
    exact set_of_tuple (I1.ok.hd hc) pl hs.symm (by rw [hs]; omega) (hv r) fin
section
variable {K : PySem.W.Frag} {te : TE} {Γ Γ1 : List Sl} {xs : List Str} {n : Int}
def pyLenSt (xs : List Str) : Option Int := if xs.length ≤ 1000 then some ((dst xs).length : Nat) else none
theorem ev_lenStL (h : EvX (rLst rStr) te Γ Γ1 xs) (e : pyLenSt xs = some n) : EvX rInt (tLenSt K te) Γ Γ1 n := by
  unfold pyLenSt at e
  split at e
  · rename_i hl
    cases e
    intro A σ H B F Q q
    refine h A σ H B F _ fun v H1 B1 F1 s1 k1 => ?_
    obtain ⟨p, vs, rfl, hp, k⟩ := ob_lst F1.bh k1
    exact ⟨p, xs, rfl, .inl (by rw [show xs.map V.str = vs from (fl_str.vals k).symm]; exact SqL.of hp), hl, q _ _ _ F1 s1 rfl⟩
  · cases e
theorem ev_lenStT (h : EvX (rTpl rStr) te Γ Γ1 xs) (e : pyLenSt xs = some n) : EvX rInt (tLenSt K te) Γ Γ1 n := by
  unfold pyLenSt at e
  split at e
  · rename_i hl
    cases e
    intro A σ H B F Q q
    refine h A σ H B F _ fun v H1 B1 F1 s1 k1 => ?_
    obtain ⟨p, vs, rfl, hp, k⟩ := ob_tpl F1.bh k1
    exact ⟨p, xs, rfl, .inr (by rw [show xs.map V.str = vs from (fl_str.vals k).symm]; exact SqT.of hp), hl, q _ _ _ F1 s1 rfl⟩
  · cases e
end
end G

set_option maxHeartbeats 4000000
/-! # G: rules whose reading names K, for use behind binders -/
namespace G
variable [TabL]
open PySem PySem.Spec PyProof.Rows L2
section
variable {X : Cx} {K : PySem.W.Frag}
theorem in_seqK (h : X.K = K) : OpR X (compareOp .In) (rIn K false) := by subst h; exact op_in_seq
theorem notIn_seqK (h : X.K = K) : OpR X (compareOp .NotIn) (rIn K true) := by subst h; exact op_notIn_seq
theorem eqDK (h : X.K = K) (hu : X.A.units + 64 < cLine) : OpR X (compareOp .Eq) (rEqD K) := by subst h; exact op_eqD hu
theorem neDK (h : X.K = K) (hu : X.A.units + 64 < cLine) : OpR X (compareOp .NotEq) (rNeD K) := by subst h; exact op_neD hu
theorem ix_listK (h : X.K = K) : IxR X (rIxL K) := by subst h; exact ix_list
theorem ix_tupK (h : X.K = K) : IxR X (rIxT K) := by subst h; exact ix_tup
theorem sl_listK (h : X.K = K) : SlR X (rSlL K) := by subst h; exact sl_list
theorem len_seqK (h : X.K = K) : CallR X (.builtin "len") (RLen K) := by subst h; exact call_len_seq
theorem list_ofK (h : X.K = K) : CallR X (.type "list") (RList K) := by subst h; exact call_list_of
theorem tuple_ofK (h : X.K = K) : CallR X (.type "tuple") (fun xs H Q => ∃ p ys, xs = [.ref p] ∧ ((SqL K H p ys ∧ ∀ l, H l = none → Q (.ref l) (upd H l (.tup ys))) ∨ (SqT K H p ys ∧ Q (.ref p) H))) := by subst h; exact call_tuple_of
theorem allK (h : X.K = K) (hc : X.calm = true) : CallR X (.builtin "all") (rAll K) := by subst h; exact cr_all hc
theorem isiK (h : X.K = K) : CallR X (.builtin "isinstance") (rIsi K) := by subst h; exact call_isi
theorem fldK {e : Expr} {ta : TE} {f : Str} {pos : Pos} (h : X.K = K) (he : PE X e ta) (hb : attributeBase e f X.env (eval e X.env) = eval e X.env) : PE X (.Attribute e f pos) (tFld K ta f) := by subst h; exact pe_fld he hb
theorem pg_tupK {es : List Expr} {k : Nat} {t : TGs} {pos : Pos} (h : X.K = K) (n : Nat) (hc : X.calm = true) (hp : PGs X es t) (hn : (assignEach es X.env).length = n := by rfl) (hst : (assignEach es X.env).findIdx? (·.1) = none := by rfl) : PG X (.Tuple es k pos) (gTup K n t) := by subst h; exact pg_tup hc hp hn hst
theorem lenStK {a : Expr} {ta : TE} {p p2 q pos : Pos} (h : X.K = K) (hc : X.calm = true) (hg : Gl X "len") (hm : X.mg "len" = none) (hg2 : Gl X "set") (hm2 : X.mg "set" = none) (ha : PE X a ta)
    (na : starEach [a] X.env = (false, eval a X.env) :: starEach [] X.env := by rfl) : PE X (.Call (.Name "len" p) [.Call (.Name "set" p2) [a] [] q] [] pos) (tLenSt K ta) := by subst h; exact pe_lenSt hc hg hm hg2 hm2 ha na
/-- an error of the class at S and «except B» -/
theorem exm_of {S B : Addr} {b : Bool} (h0 : PySem.W.subIn K (.ref B) (.type "BaseException") = some true) (h1 : PySem.W.isClsIn K B = true) (h2 : PySem.W.typeIn K (.ref B) = some (.type "type")) (h3 : PySem.W.subIn K (.ref S) (.ref B) = some b) : PySem.W.exmOne K (.ref S) (.ref B) = some b := by
  unfold PySem.W.exmOne PySem.W.kitCls
  have e1 : (PySem.W.subIn K (.ref B) (.type "BaseException") == some true) = true := by rw [h0]; rfl
  have e2 : ((PySem.W.clsIn K B).isSome && PySem.W.typeIn K (.ref B) == some (.type "type")) = true := by
    rw [h2, show (PySem.W.clsIn K B).isSome = true from h1]; rfl
  rw [if_pos e1]
  show (if ((PySem.W.clsIn K B).isSome && PySem.W.typeIn K (.ref B) == some (.type "type")) = true then PySem.W.subIn K (.ref S) (.ref B) else none) = some b
  rw [if_pos e2]
  exact h3
end
end G

set_option maxHeartbeats 4000000
/-! # G: the operators of own classes -/
namespace G
variable [TabL]
open PySem PySem.Spec PyProof.Rows L2
section
variable {X : Cx} {CX : CXT} {C f : Addr} {fd : FuncData} {ps : List Str} {n : Nat} {sp : Sp} {E : XK} {K : PySem.W.Frag}
theorem room_bool : True := trivial
/-- x in y, y of the class at C -/
def rInO (C : Addr) (sp : Sp) (neg : Bool) (E : XK) : R2 := fun x y H Q => ∃ a dx fs, y = .ref a ∧ H a = some (.ins C dx fs) ∧ sp [y, x] H (fun v H' => ∃ b, v = .bl b ∧ Q (.bl (if neg then !b else b)) H') E
theorem op_inO (hK : X.K = K) (hm : Meth K C "__contains__" f) (F : FnOk X.prog X.w X.K X.mg X.base CX n f fd ps sp) (hr : Room n X.A) (hb : Binds K fd ps []) (hx : Passes CX X E) : OpR X (compareOp .In) (rInO C sp false E) := by
  subst hK
  intro pins s σ H x y v u Q I rx ry h
  obtain ⟨a, dx, fs, rfl, ha, q⟩ := h
  cases (show u = Value.ref a from ry)
  obtain ⟨mA, J, _⟩ := ins_get I.hok ha
  obtain ⟨od, J, _⟩ := J.look
  obtain ⟨m, hF⟩ := I.fr
  refine PySem.W.in_K hF I.ok.mod.kin J hm.at_ hm.fn ?_
  refine wpAny_mono (run_fn (us := [.ref a, v]) (vs := [.ref a, x]) F hr hb .nil hx I (.cons rfl (.cons rx .nil)) (by rw [List.append_nil]; exact q)) (fun w s' z => ?_) fun _ _ e => e
  obtain ⟨z', H', I', rz, b, rfl, qz⟩ := z
  cases (show w = Value.bool b from rz)
  exact wpAny_truthy_bool ⟨.bl b, H', I', rfl, qz⟩
theorem op_ninO (hK : X.K = K) (hm : Meth K C "__contains__" f) (F : FnOk X.prog X.w X.K X.mg X.base CX n f fd ps sp) (hr : Room n X.A) (hb : Binds K fd ps []) (hx : Passes CX X E) : OpR X (compareOp .NotIn) (rInO C sp true E) := by
  subst hK
  intro pins s σ H x y v u Q I rx ry h
  obtain ⟨a, dx, fs, rfl, ha, q⟩ := h
  cases (show u = Value.ref a from ry)
  obtain ⟨mA, J, _⟩ := ins_get I.hok ha
  obtain ⟨od, J, _⟩ := J.look
  obtain ⟨m, hF⟩ := I.fr
  refine PySem.W.notIn_K hF I.ok.mod.kin J hm.at_ hm.fn ?_
  refine wpAny_mono (run_fn (us := [.ref a, v]) (vs := [.ref a, x]) F hr hb .nil hx I (.cons rfl (.cons rx .nil)) (by rw [List.append_nil]; exact q)) (fun w s' z => ?_) fun _ _ e => e
  obtain ⟨z', H', I', rz, b, rfl, qz⟩ := z
  cases (show w = Value.bool b from rz)
  exact wpAny_truthy_bool ⟨.bl (!b), H', I', rfl, qz⟩
/-- x == y, x of the class at C, whose __eq__ gives a bool; y of the type t -/
def rEqO (K : PySem.W.Frag) (C : Addr) (t : Value) (sp : Sp) (E : XK) : R2 := fun x y H Q => ∃ a dx fs, x = .ref a ∧ H a = some (.ins C dx fs) ∧ TyX K H y t ∧ PySem.W.notFirst K C t = true ∧ sp [x, y] H (fun v H' => ∃ b, v = .bl b ∧ Q v H') E
theorem op_eqO {t : Value} (hK : X.K = K) (hm : Meth K C "__eq__" f) (F : FnOk X.prog X.w X.K X.mg X.base CX n f fd ps sp) (hr : Room n X.A) (hb : Binds K fd ps []) (hx : Passes CX X E) : OpR X (compareOp .Eq) (rEqO K C t sp E) := by
  subst hK
  intro pins s σ H x y v u Q I rx ry h
  obtain ⟨a, dx, fs, rfl, ha, ty, nf, q⟩ := h
  cases (show v = Value.ref a from rx)
  obtain ⟨mA, J, _⟩ := ins_get I.hok ha
  obtain ⟨od, J, _⟩ := J.look
  obtain ⟨m, hF⟩ := I.fr
  obtain ⟨P, Z, hP, _⟩ := kit_of I ry ty
  show wpAny _ _ (richCompare .Eq (.ref a) u) _ _ _
  refine PySem.W.cmp_K (op := .Eq) (tb := t) hr.units0 hF I.ok.mod.kin J (Z.ty _ _ I.kIn hP) nf hm.at_ hm.fn ?_
  refine wpAny_mono (run_fn (us := [.ref a, u]) (vs := [.ref a, y]) F hr hb .nil hx I (.cons rfl (.cons ry .nil)) (by rw [List.append_nil]; exact q)) (fun w s' z => ?_) fun _ _ e => e
  obtain ⟨z', H', I', rz, b, rfl, qz⟩ := z
  cases (show w = Value.bool b from rz)
  exact ⟨.bl b, H', I', rfl, qz⟩
/-- x op y, both of the class at C -/
def rBinO (C : Addr) (sp : Sp) (E : XK) : R2 := fun x y H Q => ∃ a dx fs b dy gs, x = .ref a ∧ y = .ref b ∧ H a = some (.ins C dx fs) ∧ H b = some (.ins C dy gs) ∧ sp [x, y] H Q E
theorem op_binO {op : Operator} (hK : X.K = K) (hs : PySem.W.findIn K (.ref C) (PySem.dunder op.info.2) = some (some (.ref f))) (hf : PySem.W.isFn K (.ref f) = true) (sf : PySem.W.selfFirst K C = true) (F : FnOk X.prog X.w X.K X.mg X.base CX n f fd ps sp) (hr : Room n X.A) (hb : Binds K fd ps []) (hx : Passes CX X E) : OpR X (binaryOp op) (rBinO C sp E) := by
  subst hK
  intro pins s σ H x y v u Q I rx ry h
  obtain ⟨a, dx, fs, b, dy, gs, rfl, rfl, ha, hb2, q⟩ := h
  cases (show v = Value.ref a from rx)
  cases (show u = Value.ref b from ry)
  obtain ⟨mA, J, _⟩ := ins_get I.hok ha
  obtain ⟨od, J, _⟩ := J.look
  obtain ⟨mB, J', _⟩ := ins_get I.hok hb2
  obtain ⟨od', J', _⟩ := J'.look
  obtain ⟨m, hF⟩ := I.fr
  refine PySem.W.binop_K hF I.ok.mod.kin J J'.type sf hs hf ?_
  refine wpAny_mono (run_fn (us := [.ref a, .ref b]) (vs := [.ref a, .ref b]) F hr hb .nil hx I (.cons rfl (.cons rfl .nil)) (by rw [List.append_nil]; exact q)) (fun w s' z => ?_) fun _ _ e => e
  obtain ⟨z', H', I', rz, qz⟩ := z
  exact SlX.cmpback rz ⟨z', H', I', rz, qz⟩
end
section
variable {α β γ : Type} {r ra : Rp α} {rb : Rp β} {rc : Rp γ} {te ta tb : TE} {Γ Γ1 Γ2 : List Sl} {K : PySem.W.Frag} {w : Rw α} {C : Addr} {names : List Str} {x : α} {y : β} {E : XK}
theorem ev_inO {m : α × β → Option Bool} {b : Bool} (ha : EvX rb ta Γ Γ1 y) (hb : EvX (rIns C names w) tb Γ1 Γ2 x) (e : m (x, y) = some b) : EvX rBool (tOp (rInO C (SpP (wC (rIns C names w) (w1 rb)) rBool m) false E) ta tb) Γ Γ2 b := fun A σ H B F Q q =>
  ha A σ H B F _ fun u H1 B1 F1 s1 k1 => hb A σ H1 B1 F1 _ fun v H2 B2 F2 s2 k2 => by
    obtain ⟨p, dx, vs, rfl, hp, l, kw⟩ := ob_ins F2.bh k2
    exact ⟨p, dx, _, rfl, hp, B2, (x, y), b, F2.szt, F2.bh, ⟨_, _, rfl, k2, _, rfl, rb.mono s2 k1⟩, e, fun H3 B3 v3 P k3 => ⟨b, k3, q _ H3 B3 (F2.after P) ((s1.trans s2).trans P.b0) rfl⟩⟩
theorem ev_ninO {m : α × β → Option Bool} {b : Bool} (ha : EvX rb ta Γ Γ1 y) (hb : EvX (rIns C names w) tb Γ1 Γ2 x) (e : m (x, y) = some b) : EvX rBool (tOp (rInO C (SpP (wC (rIns C names w) (w1 rb)) rBool m) true E) ta tb) Γ Γ2 (!b) := fun A σ H B F Q q =>
  ha A σ H B F _ fun u H1 B1 F1 s1 k1 => hb A σ H1 B1 F1 _ fun v H2 B2 F2 s2 k2 => by
    obtain ⟨p, dx, vs, rfl, hp, l, kw⟩ := ob_ins F2.bh k2
    exact ⟨p, dx, _, rfl, hp, B2, (x, y), b, F2.szt, F2.bh, ⟨_, _, rfl, k2, _, rfl, rb.mono s2 k1⟩, e, fun H3 B3 v3 P k3 => ⟨b, k3, q _ H3 B3 (F2.after P) ((s1.trans s2).trans P.b0) rfl⟩⟩
theorem ev_eqO {t : Value} {m : α × β → Option Bool} {b : Bool} (ha : EvX (rIns C names w) ta Γ Γ1 x) (hb : EvX rb tb Γ1 Γ2 y) (ty : TyR K rb t) (nf : PySem.W.notFirst K C t = true) (e : m (x, y) = some b) : EvX rBool (tOp (rEqO K C t (SpP (wC (rIns C names w) (w1 rb)) rBool m) E) ta tb) Γ Γ2 b := fun A σ H B F Q q =>
  ha A σ H B F _ fun u H1 B1 F1 s1 k1 => hb A σ H1 B1 F1 _ fun v H2 B2 F2 s2 k2 => by
    have k1' := (rIns C names w).mono s2 k1
    obtain ⟨p, dx, vs, rfl, hp, l, kw⟩ := ob_ins F2.bh k1'
    exact ⟨p, dx, _, rfl, hp, ty _ _ _ (rb.mono F2.bh k2), nf, B2, (x, y), b, F2.szt, F2.bh, ⟨_, _, rfl, k1', _, rfl, k2⟩, e, fun H3 B3 v3 P k3 => ⟨b, k3, q _ H3 B3 (F2.after P) ((s1.trans s2).trans P.b0) k3⟩⟩
theorem ev_binO {m : α × α → Option γ} {z : γ} {x y : α} (ha : EvX (rIns C names w) ta Γ Γ1 x) (hb : EvX (rIns C names w) tb Γ1 Γ2 y) (e : m (x, y) = some z) : EvX rc (tOp (rBinO C (SpP (wC (rIns C names w) (w1 (rIns C names w))) rc m) E) ta tb) Γ Γ2 z := fun A σ H B F Q q =>
  ha A σ H B F _ fun u H1 B1 F1 s1 k1 => hb A σ H1 B1 F1 _ fun v H2 B2 F2 s2 k2 => by
    have k1' := (rIns C names w).mono s2 k1
    obtain ⟨p, dx, vs, rfl, hp, l, kw⟩ := ob_ins F2.bh k1'
    obtain ⟨p2, dx2, vs2, rfl, hp2, l2, kw2⟩ := ob_ins F2.bh k2
    exact ⟨p, dx, _, p2, dx2, _, rfl, rfl, hp, hp2, B2, (x, y), z, F2.szt, F2.bh, ⟨_, _, rfl, k1', _, rfl, k2⟩, e, fun H3 B3 v3 P k3 => q _ H3 B3 (F2.after P) ((s1.trans s2).trans P.b0) k3⟩
end
end G

set_option maxHeartbeats 4000000
/-! # G: sorted(set(..)) of ints -/
namespace G
variable [TabL]
open PySem PySem.Spec PyProof.Rows L2
section
variable {prog : Program} {w : World} {A : Around} {E : Value → Shared → Prop} {z : Shared}
set_option maxHeartbeats 8000000 in
theorem seti_of_list {p : Addr} {its : Array Value} {ks : List Int} {G : Value → Shared → Prop} (hd : A.handled = none) (hp : z.heap.IsList p its) (hn : its.size = ks.length) (hb : ks.length < 2000)
    (hv : ∀ (i : Nat) (v : Value), its[i]? = some v → ∃ k t, ks[i]? = some k ∧ v = .int k t)
    (fin : ∀ (g : Heap) (tk c : Nat), SetR w g z.heap.objs.size (fun x => decide (x ∈ ks)) c → c ≤ ks.length → (∀ b o, z.heap.get? b = some o → g.get? b = some o) → G (.ref z.heap.objs.size) { z with heap := g, toks := tk }) :
    wpAny (model prog w) A (call (.type "set") [.ref p]) G E z := by
  obtain ⟨mc, mt, m0⟩ := PySem.F.called_set.mro
  have m1 := PySem.F.called_set.made
  have m2 := PySem.F.called_set.sub
  refine wpAny_call (codeAny_of_tree ?_)
  show wpAny _ _ (callAny (.type "set") (_ : Args)) _ _ z
  refine wpAny_pure (And.intro (Code.quiet_builtin _ (by decide +kernel)) (codeAny_builtin PySem.F.entry_type_call ?_))
  rw [Around.under_plain (weight_type_call_type "set" [Value.ref p] ([] : List (Str × Value))) (by rfl)]
  have m3 := PySem.F.called_set.notType
  have m4 := PySem.F.called_set.canCreate
  have m5 := PySem.F.typeCall_set_1 (Value.ref p)
  repeat (any_goals (first | assumption | wp_step))
  let ob : Obj := { cls := .type "set", dict := none, data := .set #[] 0 (.fresh 0 0 (!w.params.followText "set-order")) }
  refine codeAny_mono (code_set_led1 (Value.ref p) (E := E) (Q₁ := fun v z1 => v = Value.ref z.heap.objs.size ∧ z1 = { z with heap := z.heap.push ob }) (And.intro rfl rfl)) fun r0 z1 q0 => ?_
  cases r0 with
  | error e => exact q0
  | ok fl0 =>
    cases fl0 with
    | next => exact q0.elim
    | brk => exact q0.elim
    | cont => exact q0.elim
    | ret v0 =>
      obtain ⟨rfl, rfl⟩ := q0
      have at0 : (z.heap.push ob).get? z.heap.objs.size = some ob := Heap.get?_push_size _ rfl
      have ty0 : Shared.TypeIs { z with heap := z.heap.push ob } (.ref z.heap.objs.size) "set" := ⟨_, at0, rfl⟩
      have i1 := PySem.F.called_set.init.lookup
      have i2 := PySem.F.called_set.init.bind (Value.ref z.heap.objs.size)
      repeat (any_goals (first | assumption | wp_step))
      refine codeAny_mono (codeAny_call_builtin (R := wants (fun v z2 => v = .none ∧ ∃ g tk c, z2 = { z with heap := g, toks := tk } ∧ SetR w g z.heap.objs.size (fun x => decide (x ∈ ks)) c ∧ c ≤ ks.length ∧
          (∀ b o, z.heap.get? b = some o → g.get? b = some o)) E) PySem.F.called_set.init.plain PySem.F.entry_set_init (check_set_init_1 ty0 ?_)) fun r2 z2 q2 => ?_
      · obtain ⟨u0, a0, c0, n0, d0⟩ := hp
        obtain ⟨uc, ud, ux, us⟩ := u0
        simp only at c0 d0
        subst c0; subst d0
        have a1 : (z.heap.push ob).get? p = some { cls := .type "list", dict := ud, data := .seq its n0, slots := us } := Heap.get?_push_of_some _ a0
        have s1 := PySem.F.sub_list_set
        have s2 := PySem.F.sub_list_frozenset
        have s3 : (Value.type "list" == Value.type "dict") = false := by decide
        have l1 : (z.heap.push ob).IsList p its := ⟨_, a1, rfl, n0, rfl⟩
        unfold Builtin.«set.__init__» noKeywords Builtin.Frozenset.updateFrom
        generalize hit : pyIter = itf
        wp_walk
        subst hit
        refine wpAny_pyIter_list l1 (wpAny_bind (wpAny_runValue ?_))
        have pl : p < z.heap.objs.size := Heap.lt_size a0
        have h3 : A.in1.in1.in1.handled = none := by simp [hd]
        have sz1 : (z.heap.push ob).objs.size = z.heap.objs.size + 1 := Heap.size_push ..
        have ne1 : p ≠ (z.heap.push ob).objs.size := by rw [sz1]; exact Nat.ne_of_lt (Nat.lt_succ_of_lt pl)
        have sf : z.heap.objs.size ∉ [(z.heap.push ob).objs.size, p] := fun hm => by
          rw [sz1] at hm
          rcases List.mem_cons.mp hm with e | hm
          · exact Nat.ne_of_lt (Nat.lt_succ_self _) e
          · exact Nat.ne_of_gt pl (List.mem_singleton.mp hm)
        refine set_update_ints ((Walks.list h3 _ p ne1 its).toS) z.heap.objs.size sf ks hn (by unfold scanBound; omega) hv (its.size - 0) 0 _ (by omega) (Nat.zero_le _) ⟨⟨_, Heap.get?_push_size _ rfl, rfl, rfl⟩, l1.push _⟩ ?w0 ?w1
        case w0 =>
          exact ⟨0, Nat.le_refl 0, setR_new_at (Heap.get?_push_of_some _ at0)⟩
        case w1 =>
          intro z3 c3 mv le3 st3
          obtain ⟨g3, e3, d3, t3, o3⟩ := z3
          obtain rfl : e3 = z.gens := mv.gens
          obtain rfl : d3 = z.drawn := mv.drawn
          obtain rfl : o3 = z.os := mv.os
          show wpAny _ _ _ _ _ (_ : Shared)
          refine wpAny_pure ?_
          show wpAny _ _ (ret Value.none) _ _ (_ : Shared)
          rw [hn] at le3
          refine wpAny_pure ⟨rfl, g3, t3, c3, rfl, st3, le3, fun b o hbo => mv.heap b o (fun hm => ?_) (Heap.get?_push_of_some _ (Heap.get?_push_of_some _ hbo))⟩
          have bl := Heap.lt_size hbo
          rcases List.mem_cons.mp hm with e | hm
          · exact Nat.ne_of_lt bl e
          · rw [List.mem_singleton, sz1] at hm; exact Nat.ne_of_lt (Nat.lt_succ_of_lt bl) hm
      · cases r2 with
        | error e => exact q2
        | ok fl2 =>
          cases fl2 with
          | next => exact q2.elim
          | brk => exact q2.elim
          | cont => exact q2.elim
          | ret v2 =>
            obtain ⟨rfl, g2, t2, c2, rfl, st2, le2, kp2⟩ := q2
            repeat (any_goals (first | assumption | wp_step))
            exact fin _ _ _ st2 le2 kp2

end
end G

set_option maxHeartbeats 4000000
/-! # G: sorted(set(ints)) as an expression -/
namespace G
variable [TabL]
open PySem PySem.Spec PyProof.Rows L2
/-- ascending, each once -/
def insI (x : Int) : List Int → List Int
  | [] => [x]
  | y :: ys => if x < y then x :: y :: ys else if x = y then y :: ys else y :: insI x ys
def sset : List Int → List Int
  | [] => []
  | x :: xs => insI x (sset xs)
theorem mem_insI {x z : Int} : ∀ {l : List Int}, z ∈ insI x l ↔ z = x ∨ z ∈ l
  | [] => by simp [insI]
  | y :: ys => by
    unfold insI
    split
    · simp
    · split
      · rename_i h; subst h; simp
      · rw [List.mem_cons, mem_insI, List.mem_cons]
        exact ⟨fun h => h.elim (fun h => .inr (.inl h)) fun h => h.elim .inl fun h => .inr (.inr h), fun h => h.elim (fun h => .inr (.inl h)) fun h => h.elim .inl fun h => .inr (.inr h)⟩
theorem sset_mem {z : Int} : ∀ {l : List Int}, z ∈ sset l ↔ z ∈ l
  | [] => by simp [sset]
  | x :: xs => by
    unfold sset
    rw [mem_insI, sset_mem, List.mem_cons]
theorem insI_asc {x : Int} : ∀ {l : List Int}, l.Pairwise (· < ·) → (insI x l).Pairwise (· < ·)
  | [], _ => by simp [insI]
  | y :: ys, h => by
    have h' := List.pairwise_cons.mp h
    unfold insI
    split
    · rename_i hx
      exact List.pairwise_cons.mpr ⟨fun z hz => (List.mem_cons.mp hz).elim (fun e => e ▸ hx) fun hz => Int.lt_trans hx (h'.1 z hz), h⟩
    · split
      · exact h
      · rename_i h1 h2
        refine List.pairwise_cons.mpr ⟨fun z hz => ?_, insI_asc h'.2⟩
        rcases mem_insI.mp hz with e | hz
        · subst e; omega
        · exact h'.1 z hz
theorem sset_asc : ∀ l : List Int, (sset l).Pairwise (· < ·)
  | [] => .nil
  | x :: xs => insI_asc (sset_asc xs)
theorem asc_eq : ∀ {a b : List Int}, a.Pairwise (· < ·) → b.Pairwise (· < ·) → (∀ z, z ∈ a ↔ z ∈ b) → a = b
  | [], [], _, _, _ => rfl
  | [], y :: ys, _, _, h => by have := (h y).mpr List.mem_cons_self; cases this
  | x :: xs, [], _, _, h => by have := (h x).mp List.mem_cons_self; cases this
  | x :: xs, y :: ys, ha, hb, h => by
    have ha' := List.pairwise_cons.mp ha
    have hb' := List.pairwise_cons.mp hb
    have e : x = y := by
      rcases List.mem_cons.mp ((h x).mp List.mem_cons_self) with e | hx
      · exact e
      · rcases List.mem_cons.mp ((h y).mpr List.mem_cons_self) with e | hy
        · exact e.symm
        · have h1 := hb'.1 x hx
          have h2 := ha'.1 y hy
          omega
    subst e
    refine congrArg _ (asc_eq ha'.2 hb'.2 fun z => ⟨fun hz => ?_, fun hz => ?_⟩)
    · rcases List.mem_cons.mp ((h z).mp (List.mem_cons_of_mem _ hz)) with e | q
      · subst e; exact absurd (ha'.1 z hz) (by omega)
      · exact q
    · rcases List.mem_cons.mp ((h z).mpr (List.mem_cons_of_mem _ hz)) with e | q
      · subst e; exact absurd (hb'.1 z hz) (by omega)
      · exact q
theorem sset_nil : sset [] = [] := rfl
def pySS (xs : List Int) : Option (List Int) := if xs.length < 64 then some (sset xs) else none
theorem val_int : ∀ {xs : List Int} {us : List Value}, Vals (xs.map V.int) us → ∀ (i : Nat) (v : Value), us[i]? = some v → ∃ x t, xs[i]? = some x ∧ v = .int x t
  | [], _, .nil, i, v, h => by simp at h
  | x :: xs, _, .cons ⟨t, e⟩ r, 0, v, h => ⟨x, t, rfl, by simp at h; rw [← h, e]⟩
  | x :: xs, _, .cons _ r, i + 1, v, h => by
    obtain ⟨y, t, h1, h2⟩ := val_int r i v (by simpa using h)
    exact ⟨y, t, by simpa using h1, h2⟩
/-- set(xs) -/
def rSetI (K : PySem.W.Frag) (w : World) : List V → Hp → VK → Prop := fun vs H Q => ∃ (a : Addr) (ns : List Int), vs = [V.ref a] ∧ SqL K H a (ns.map V.int) ∧ ns.length < 1000 ∧ ∀ (n : Nat) (p : Addr), n ≤ ns.length → H p = none → Q (.ref p) (upd H p (SetO w p (fun x => decide (x ∈ ns)) n))
theorem cr_setI {X : Cx} {K : PySem.W.Frag} (hK : X.K = K) (hc : X.calm = true) : CallR X (.type "set") (rSetI K X.w) := by
  subst hK
  intro pins s σ H vs us Q I r h
  obtain ⟨a, ns, rfl, hs, hl, q⟩ := h
  obtain ⟨its, rv, pl, hz⟩ := I.list hs
  rw [Vals.ref1 r]
  have hsz : its.toArray.size = ns.length := by rw [List.size_toArray, ← rv.length, List.length_map]
  refine seti_of_list (I.ok.hd hc) pl.isList hsz (by omega) (fun i v e => by
    obtain ⟨x, t, h1, h2⟩ := val_int rv i v (by simpa using e)
    exact ⟨x, t, h1, h2⟩) fun g tk c R le kp => ?_
  have J : Inv X pins σ (upd H s.heap.objs.size (SetO X.w s.heap.objs.size (fun x => decide (x ∈ ns)) c)) { s with heap := g, toks := tk } :=
    I.laid (t' := tk) kp (Nat.le_refl _) (setO_new R)
  exact ⟨.ref s.heap.objs.size, _, J, rfl, q c _ le (I.hok.fresh (Nat.le_refl _))⟩
section
variable {te : TE} {Γ Γ1 : List Sl} {K : PySem.W.Frag} {xs ys : List Int} {wd : World}
theorem ec_sortSet (h : EvX (rLst rInt) te Γ Γ1 xs) (e : pySS xs = some ys) : EvC (cLst rInt) (tCB (rSortedSet wd) (tCons (tCB (rSetI K wd) (tCons te tNil)) tNil)) Γ Γ1 ys := fun A σ H B F Q q => by
  unfold pySS at e
  split at e
  · rename_i hl
    cases e
    refine h A σ H B F _ fun v H1 B1 F1 s1 k1 => ?_
    obtain ⟨p, vs, rfl, hp, k⟩ := ob_lst F1.bh k1
    refine ⟨p, xs, rfl, ?_, by omega, fun n p0 hn h0 => ?_⟩
    · rw [show xs.map V.int = vs from (fl_int.vals k).symm]; exact SqL.of hp
    · have F2 := (F1.fresh h0 (o := SetO wd p0 (fun x => decide (x ∈ xs)) n) trivial).drop (F1.H0none h0) F1.sub F1.mh
      refine ⟨p0, _, n, rfl, upd_same, by omega, fun ns p1 asc mem len h1 => ?_⟩
      have en : ns = sset xs := asc_eq asc (sset_asc xs) fun z => by rw [mem z, sset_mem, decide_eq_true_eq]
      subst en
      refine ec_fresh (c := cLst rInt) (o := .lst ((sset xs).map V.int)) F2 h1 ?_ (fun p o H' B' F' n' s' k' => q p o H' B' F' n' (s1.trans s') k') ⟨_, rfl, paired_ints _ _⟩
      show ((sset xs).map V.int).length ≤ sizeLine
      rw [List.length_map, len]
      exact Nat.le_trans (show n ≤ 64 by omega) (by decide)
  · cases e
end
end G

set_option maxHeartbeats 4000000
/-! # G: attributes as targets -/
namespace G
variable [TabL]
open PySem PySem.Spec PyProof.Rows L2
/-- the target e.f -/
def gFld (K : PySem.W.Frag) (ta : TE) (f : Str) : TG := fun y σ H Q => ta σ H fun x H1 => ∃ a C dx fs, x = .ref a ∧ H1 a = some (.ins C dx fs) ∧ Cls K C ∧ NoAttr K C f ∧ fs.length < 1000 ∧ Q σ (upd H1 a (.ins C dx (putF f y fs)))
theorem pg_fld {X : Cx} {K : PySem.W.Frag} {o : Expr} {ta : TE} {f : Str} {pos : Pos} (hK : X.K = K) (ho : PE X o ta) : PG X (.Attribute o f pos) (gFld K ta f) := by
  subst hK
  refine ⟨fun pins s σ H v u Q I r h => ?_⟩
  rw [arm_assign_Attribute]
  refine wpAny_bind (wpAny_holding (thn (ho.run pins s σ H _ I h) fun ov s1 ⟨x, H1, I1, rx, a, C, dx, fs, ex, ea, c, n, l, q⟩ => ?_))
  subst ex
  obtain rfl : ov = Value.ref a := rx
  refine wpAny_bind (wpAny_standAt (wpAny_bind (wpAny_holding (setattr_ok I1 ea c n l r fun s3 I3 => ?_))))
  exact wpAny_release ⟨σ, _, I3, q⟩
/-- a target that may change the frame's own objects -/
def TgH {α : Type} (g : TG) (r : Rp α) (Γ : List Sl) (Γf : α → List Sl) : Prop := ∀ (A : Amb) (σ : L2.St) (H B : Hp) (v : V) (x : α), Frm A σ H B Γ → r.rel B v x → ∀ Q : L2.St → Hp → Prop, (∀ σ' H', Frm A σ' H' B (Γf x) → Q σ' H') → g v σ H Q
def ThW {α : Type} (g : TGs) (w : Rw α) (Γ : List Sl) (Γf : α → List Sl) : Prop := ∀ (A : Amb) (σ : L2.St) (H B : Hp) (us : List V) (x : α), Frm A σ H B Γ → w.rel B us x → ∀ Q : L2.St → Hp → Prop, (∀ σ' H', Frm A σ' H' B (Γf x) → Q σ' H') → g us σ H Q
section
variable {α β γ : Type} {r : Rp α} {w : Rw β} {w' : Rw γ} {K : PySem.W.Frag} {C : Addr} {names : List Str} {Γ Γ1 : List Sl} {a : β} {i : Nat} {p : Addr} {nm : Str} {te : TE} {A : Amb} {D : Ends} {u : TS}
theorem th_name {j : Nat} : TgH (gName j) r Γ (fun x => Γ.set j (.imm r x)) := fun A σ H B v x F k Q q => q _ _ (F.set k)
theorem th_fld {f : β → α → γ} (hi : Γ[i]? = some (.cel p (cIns C names w) a)) (sn : Snoc w r w' f) (nn : nm ∉ names) (hl : names.length < 900) (c : Cls K C) (na : NoAttr K C nm) : TgH (gFld K (tVar i) nm) r Γ (fun x => Γ.set i (.cel p (cIns C (names ++ [nm]) w') (f a x))) := fun A σ H B v x F k Q q => by
  obtain ⟨e, o, ho, dx, vs, rfl, l, kw⟩ := cel_at F hi
  refine ⟨_, e, p, C, dx, _, rfl, ho, c, na, by rw [List.length_zip]; omega, ?_⟩
  exact q σ _ (F.write hi (c' := cIns C (names ++ [nm]) w') (o' := .ins C dx (putF nm v (names.zip vs))) ⟨dx, vs ++ [v], by rw [putF_zip nn l], by rw [List.length_append, List.length_append, l]; rfl, sn B vs a v x kw k⟩ trivial)
theorem th_1 {g : TG} {Γf : α → List Sl} (h : TgH g r Γ Γf) : ThW (gCons g gNil) (w1 r) Γ Γf := fun A σ H B us x F k Q q => by
  obtain ⟨v, rfl, kv⟩ := k
  exact ⟨v, [], rfl, h A σ H B v x F kv _ fun σ' H' F' => ⟨rfl, q σ' H' F'⟩⟩
theorem th_C {g : TG} {gs : TGs} {w : Rw β} {Γf : α → List Sl} {Γg : α → β → List Sl} (h : TgH g r Γ Γf) (hr : ∀ x, ThW gs w (Γf x) (Γg x)) : ThW (gCons g gs) (wC r w) Γ (fun x => Γg x.1 x.2) := fun A σ H B us x F k Q q => by
  obtain ⟨v, t, rfl, kv, kt⟩ := k
  exact ⟨v, t, rfl, h A σ H B v x.1 F kv _ fun σ' H' F' => hr x.1 A σ' H' B t x.2 F' kt _ fun σ2 H2 F2 => q σ2 H2 F2⟩
theorem th_tup {g : TGs} {n m : Nat} {w : Rw α} [k : WLen w m] {Γf : α → List Sl} (h : ThW g w Γ Γf) (e : m = n := by rfl) : TgH (gTup K n g) (rTup w) Γ Γf := fun A σ H B v x F kv Q q => by
  obtain ⟨p, vs, rfl, hp, kw⟩ := ob_tup F.bh kv
  exact ⟨p, vs, rfl, SqT.of hp, by rw [k.len kw, e], h A σ H B vs x F kw Q q⟩
theorem sq_asgH {g : TG} {x : α} {Γf : α → List Sl} (h : EvX r te Γ Γ1 x) (hg : TgH g r Γ1 Γf) (k : Nx A (u D) (Γf x)) : Nx A (tSeq (tAsg te g) u D) Γ := fun σ H B F => h A σ H B F _ fun v H' B' F' _ q =>
  hg A σ H' B' v x F' q _ fun σ2 H2 F2 => k σ2 H2 B' F2
end
end G

set_option maxHeartbeats 4000000
/-! # G: static methods -/
namespace G
variable [TabL]
open PySem PySem.Spec PyProof.Rows L2
/-- C.m is a staticmethod: its record at p, its def at g -/
structure SMet (K : PySem.W.Frag) (C : Addr) (mc : Value) (m : Str) (p g : Addr) : Prop where
  at_ : PySem.W.findCls K (.ref C) mc m = some (.get (.builtin "staticmethod.__get__") (.ref p) .none (.ref C))
  rc : ∃ rest, PySem.W.recIn K p "staticmethod" = some (.ref g :: rest)
  kp : PySem.W.keepIn K (.ref g) = true
/-- C.m(..), m a staticmethod -/
def tSm (sp : Sp) (E : L2.St → XK) (t : TA) : TE := fun σ H Q => t σ H fun vs H1 => sp vs H1 Q (E σ)
section
variable {X : Cx} {CX : CXT} {k : Nat} {C p g : Addr} {mc : Value} {sp : Sp} {E : L2.St → XK} {fd : FuncData} {ps : List Str} {e : Expr} {es : List Expr} {x m : Str} {pos apos px : Pos} {t : TA} {pl : Sem Bool}
theorem getsm_ok {pins : List (Addr × Obj)} {σ : L2.St} {H : Hp} {s : Shared} {Q : Value × List Value → Shared → Prop} {A : Around} {Ee : Value → Shared → Prop} (I : Inv X pins σ H s) (r : ClX.CRead X.K C mc) (c : SMet X.K C mc m p g)
    (h : ∀ s', Inv X pins σ H s' → Q (.ref g, []) s') : wpAny (model X.prog X.w) A (getMethod (.ref C) m pl) Q Ee s := by
  obtain ⟨rest, hp⟩ := c.rc
  refine PySem.W.method_cls I.kIn r.ga (PySem.W.cls_bind I.kIn r.rd c.at_ (wpAny_call (PySem.W.sm_get (s := { s with toks := s.toks + 1 }) I.kIn hp (PySem.W.handed_on rfl ?_))))
  exact h _ (I.tok _)
theorem pe_smeth (hg : Gl X x) (hm : X.mg x = some (.ref C)) (r : ClX.CRead X.K C mc) (c : SMet X.K C mc m p g) (F : FnOk X.prog X.w X.K X.mg X.base CX k g fd ps sp) (hr : Room k X.A) (hb : Binds X.K fd ps []) (hx : ∀ σ, PassesAt CX X σ (E σ)) (ha : PA X (e :: es) t)
    (hdb : (x == ("__debug__" : Str)) = false := by decide) (hst : starEach (e :: es) X.env = (false, eval e X.env) :: starEach es X.env := by rfl) (hpl : (backTo pos (starEach es X.env)).any (·.1) = false := by rfl)
    (ht : eval (.Call (.Attribute (.Name x px) m apos) (e :: es) [] pos) X.env = (do
      let ov ← eval (.Name x px) X.env
      standAt apos.atName
      let (f, first) ← holding [ov] (getMethod ov m pl)
      callWith pos f first (backTo pos (starEach (e :: es) X.env)) (backToKw pos (keywordEach [] X.env))) := by rfl) :
    PE X (.Call (.Attribute (.Name x px) m apos) (e :: es) [] pos) (tSm sp E t) := by
  refine ⟨fun pins s σ H Q I h => ?_⟩
  refine PySem.W.methodCall_KW (pl := pl) (ld_glob I hg hm ?_ hdb) ht
  refine getsm_ok I r c fun s2 I2 => ?_
  refine PySem.W.callWith_K (first := []) (h₀ := X.base) I2.ok.mod.kin c.kp (thn (ha.run pos pins s2 σ H _ I2 h) fun us s3 ⟨vs, H2, I3, rv, q2⟩ => ⟨I3.kIn, ?_⟩) hst hpl
  exact run_fnS F hr hb (hx σ) I3 rv q2
end
section
variable {α β γ ε : Type} {w : Rw α} {r : Rp β} {Γ Γ1 : List Sl} {ta : TA} {a : α} {b : β} {R : ER ε} {C : Addr} {names : List Str}
theorem ev_sm {m : α → Option β} {E : L2.St → XK} (h : EvW w ta Γ Γ1 a) (e : m a = some b) : EvX r (tSm (SpP w r m) E ta) Γ Γ1 b := fun A σ H B F Q q => h A σ H B F _ fun vs H1 B1 F1 s1 k1 =>
  ⟨B1, a, b, F1.szt, F1.bh, k1, e, fun H2 B2 v P k2 => q v H2 B2 (F1.after P) (s1.trans P.b0) k2⟩
/-- a def that may raise is called: both ways -/
theorem er_sm {m : α → Option (Res ε β)} {x : Res ε β} (h : EvW w ta Γ Γ1 a) (e : m a = some x) : EvR R r (fun E => tSm (SpX R w r m) E ta) Γ Γ1 x := fun A σ H B F E Q qo qe => h A σ H B F _ fun vs H1 B1 F1 s1 k1 =>
  ⟨B1, a, x, F1.szt, F1.bh, k1, e, fun b hb H2 B2 v P k2 => qo b hb v H2 B2 (F1.after P) (s1.trans P.b0) k2, fun y hy cls d H2 B2 P k2 => qe y hy cls d H2 B2 (F1.after P) (s1.trans P.b0) k2⟩
/-- .. where it does not raise -/
theorem ev_ok {tf : (L2.St → XK) → TE} {x : Res ε β} (h : EvR R r tf Γ Γ1 x) (e : x = .ok b) (E : L2.St → XK) : EvX r (tf E) Γ Γ1 b := fun A σ H B F Q q =>
  h A σ H B F E Q (fun y hy v H' B' F' s k => by rw [e] at hy; cases hy; exact q v H' B' F' s k) fun y hy => by rw [e] at hy; cases hy
end
end G

set_option maxHeartbeats 4000000
/-! # G: dicts -/
namespace G
variable [TabL]
open PySem PySem.Spec PyProof.Rows L2
/-- a key that is a value without the heap -/
structure Ky {κ : Type} [DecidableEq κ] (r : Rp κ) where
  key : κ → L2.Key
  ok : ∀ {H v k}, r.rel H v k → v = L2.kV (key k)
  inj : ∀ {a b}, key a = key b → a = b
  kn : ∀ {B k}, r.rel B (L2.kV (key k)) k
def kyInt : Ky rInt := ⟨.inl, fun h => h, fun h => Sum.inl.inj h, rfl⟩
def kyStr : Ky rStr := ⟨.inr, fun h => h, fun h => Sum.inr.inj h, rfl⟩
section
variable {κ β α γ : Type} [DecidableEq κ] {rk : Rp κ} {rv : Rp β} {r : Rp α} {te ta tb tk tv : TE} {tt : TT} {Γ Γ1 Γ2 : List Sl} {K : PySem.W.Frag} {xs : List α}
def putM (l : List (κ × β)) (k : κ) (v : β) : List (κ × β) := if (l.any fun e => decide (e.1 = k)) = true then l.map (fun e => if e.1 = k then (e.1, v) else e) else l ++ [(k, v)]
def getM (l : List (κ × β)) (k : κ) : Option β := (l.find? fun e => decide (e.1 = k)).map (·.2)
def DRel (ky : Ky rk) (rv : Rp β) (H : Hp) (e : L2.Key × V) (x : κ × β) : Prop := e.1 = ky.key x.1 ∧ rv.rel H e.2 x.2
def cDic (ky : Ky rk) (rv : Rp β) : Cl (List (κ × β)) := ⟨fun H o xs => ∃ kvs, o = .dK kvs ∧ Paired (DRel ky rv H) kvs xs, fun s ⟨kvs, e, h⟩ => ⟨kvs, e, Paired.imp2 (fun _ _ q => ⟨q.1, rv.mono s q.2⟩) h⟩⟩
theorem any_key (ky : Ky rk) {H : Hp} (k : κ) : ∀ {kvs : List (L2.Key × V)} {l : List (κ × β)}, Paired (DRel ky rv H) kvs l → (kvs.any fun e => decide (e.1 = ky.key k)) = l.any fun e => decide (e.1 = k)
  | _, _, .nil => rfl
  | _, _, .cons (a := a) (b := b) q t => by
    rw [List.any_cons, List.any_cons, any_key ky k t]
    congr 1
    by_cases h : b.1 = k
    · rw [decide_eq_true h, decide_eq_true (by rw [q.1, h])]
    · rw [decide_eq_false h, decide_eq_false fun e => h (ky.inj (by rw [← q.1]; exact e))]
theorem map_pair (ky : Ky rk) {H : Hp} {k : κ} {v : V} {b : β} (hv : rv.rel H v b) : ∀ {kvs : List (L2.Key × V)} {l : List (κ × β)}, Paired (DRel ky rv H) kvs l → Paired (DRel ky rv H) (kvs.map fun kv => if kv.1 = ky.key k then (kv.1, v) else kv) (l.map fun e => if e.1 = k then (e.1, b) else e)
  | _, _, .nil => .nil
  | _, _, .cons (a := a) (b := b') q t => by
    rw [List.map_cons, List.map_cons]
    refine .cons ?_ (map_pair ky hv t)
    by_cases e : b'.1 = k
    · rw [if_pos e, if_pos (by rw [q.1, e])]
      exact ⟨q.1, hv⟩
    · rw [if_neg e, if_neg fun z => e (ky.inj (by rw [← q.1]; exact z))]
      exact q
theorem put_pair (ky : Ky rk) {H : Hp} {k : κ} {v : V} {b : β} (hv : rv.rel H v b) {kvs : List (L2.Key × V)} {l : List (κ × β)} (h : Paired (DRel ky rv H) kvs l) : Paired (DRel ky rv H) (putK kvs (ky.key k) v) (putM l k b) := by
  unfold putK putM
  rw [any_key ky k h]
  split
  · exact map_pair ky hv h
  · exact Paired.app h (.cons ⟨rfl, hv⟩ .nil)
theorem putM_len (l : List (κ × β)) (k : κ) (v : β) : (putM l k v).length ≤ l.length + 1 := by
  unfold putM
  split
  · rw [List.length_map]; omega
  · rw [List.length_append, List.length_singleton]; omega
theorem get_pair (ky : Ky rk) {H : Hp} (k : κ) : ∀ {kvs : List (L2.Key × V)} {l : List (κ × β)}, Paired (DRel ky rv H) kvs l → (∀ b, getM l k = some b → ∃ v, valV kvs (ky.key k) = some v ∧ rv.rel H v b) ∧ (getM l k = none → valV kvs (ky.key k) = none)
  | _, _, .nil => ⟨(fun b e => by cases e), fun _ => rfl⟩
  | _, _, .cons (a := a) (b := b) (l₁ := l1) (l₂ := l2) q t => by
    have ih := get_pair ky k t
    by_cases h : b.1 = k
    · have h1 : decide (b.1 = k) = true := decide_eq_true h
      have h2 : decide (a.1 = ky.key k) = true := decide_eq_true (by rw [q.1, h])
      refine ⟨fun c e => ?_, fun e => ?_⟩
      · unfold getM at e
        rw [List.find?_cons_of_pos (by simpa using h)] at e
        have e' : b.2 = c := Option.some.inj e
        refine ⟨a.2, ?_, e' ▸ q.2⟩
        unfold valV
        rw [List.find?_cons_of_pos (by simpa using h2)]
        rfl
      · unfold getM at e
        rw [List.find?_cons_of_pos (by simpa using h)] at e
        cases e
    · have h2 : ¬ a.1 = ky.key k := fun e => h (ky.inj (by rw [← q.1]; exact e))
      have e1 : getM (b :: l2) k = getM l2 k := by
        unfold getM
        rw [List.find?_cons_of_neg (by simpa using h)]
      have e2 : valV (a :: l1) (ky.key k) = valV l1 (ky.key k) := by
        unfold valV
        rw [List.find?_cons_of_neg (by simpa using h2)]
      rw [e1, e2]
      exact ih
/-- {k: v for x in xs if t} -/
def compD {α κ β : Type} [DecidableEq κ] (f : α → Option (Option (κ × β))) : List α → List (κ × β) → Option (List (κ × β))
  | [], l => some l
  | x :: xs, l => match f x with
    | none => none
    | some none => compD f xs l
    | some (some y) => compD f xs (putM l y.1 y.2)
theorem ec_dc (ky : Ky rk) {wi : TI} {g : TG} {ws vs : List Nat} (f : α → Option (Option (κ × β))) {Γf : α → List Sl} {ys : List (κ × β)} (hi : ItX r wi Γ Γ1 xs) (e : compD f xs [] = some ys) (hg : TgX g r ws Γ1 Γf) (hw : ∀ k, k ∈ ws → k ∈ vs) (hv : wipeG Γ1 vs = Γ1) (hm : ∀ x, wipeG (Γf x) vs = Γ1)
    (hb : ∀ (x : α) (o : Option (κ × β)), f x = some o → EvT tt (Γf x) (Γf x) o.isSome ∧ ∀ y, o = some y → EvX rk tk (Γf x) (Γf x) y.1 ∧ EvX rv tv (Γf x) (Γf x) y.2) : EvC (cDic ky rv) (tDc wi g tt tk tv vs) Γ Γ1 ys := fun A σ H B F Q q => by
  refine hi A σ H B F _ fun J H1 B1 F1 sB1 Y => fun D hD => ?_
  have F2 := F1.and (Bx := B1) (Same.refl _)
  have h0D : A.H0 D = none := F1.H0none hD
  have hmD : ¬ A.m D := fun m => F.mh.al D m h0D
  have F3 := F2.wipe vs
  rw [hv] at F3
  have F4 := F3.fresh (o := .dK []) hD (Nat.zero_le _)
  refine ⟨fun i m H => m = xs.length - i ∧ i ≤ xs.length ∧ ∃ B acc l, Frm ((A.and B1).add D (.dK acc)) (L2.wipe σ vs) H B Γ1 ∧ Paired (DRel ky rv B) acc l ∧ acc.length ≤ i ∧ compD f (xs.drop i) l = some ys, ?_, ?_⟩
  · exact ⟨_, rfl, Nat.zero_le _, B1, [], [], F4, .nil, Nat.le_refl _, by rw [List.drop_zero]; exact e⟩
  · rintro i m H2 ⟨rfl, hil, B3, acc, l, F5, pa, hacc, e2⟩
    by_cases hlt : i < xs.length
    · right
      have hx : xs[i]? = some xs[i] := List.getElem?_eq_getElem hlt
      rw [List.drop_eq_getElem_cons hlt] at e2
      refine ⟨Y.go i H2 B3 F5.ph.2 F5.bh hlt, fun H3 => ∃ B acc l, Frm ((A.and B1).add D (.dK acc)) (L2.wipe σ vs) H3 B Γ1 ∧ Paired (DRel ky rv B) acc l ∧ acc.length ≤ i + 1 ∧ compD f (xs.drop (i + 1)) l = some ys, fun H3 h3 => ⟨_, by omega, rfl, by omega, h3⟩, fun v H3 hy => ?_⟩
      obtain ⟨B4, F6, sB4, k4⟩ := Y.yld i _ H2 B3 v H3 F5.ph.2 F5.bh hx hy _ _ _ F5
      refine hg _ _ H3 B4 v xs[i] F6 k4 _ fun σ4 F7 hl4 d4 => ⟨wipe_wipe hl4 fun k hk => d4 k fun z => hk (hw k z), ?_⟩
      have hwp := wipe_wipe hl4 fun k hk => d4 k fun z => hk (hw k z)
      have mono : ∀ {B B' : Hp}, Same B B' → Paired (DRel ky rv B) acc l → Paired (DRel ky rv B') acc l := fun s h => Paired.imp2 (fun _ _ q => ⟨q.1, rv.mono s q.2⟩) h
      unfold compD at e2
      cases q2 : f xs[i] with
      | none => rw [q2] at e2; cases e2
      | some o =>
        rw [q2] at e2
        obtain ⟨hT, hE⟩ := hb _ _ q2
        refine hT _ _ _ _ F7 _ fun H5 B5 F8 sB5 => ?_
        cases o with
        | none =>
          have F9 := F8.wipe vs
          rw [hm, hwp] at F9
          exact ⟨B5, acc, l, F9, mono (sB4.trans sB5) pa, by omega, e2⟩
        | some y =>
          obtain ⟨hK, hV⟩ := hE y rfl
          refine hK _ _ _ _ F8 _ fun u H6 B6 F9 sB6 k6 => hV _ _ _ _ F9 _ fun u2 H7 B7 F10 sB7 k7 => ?_
          have hid := F10.hid (A := A.and B1) h0D F.mh.and
          refine ⟨acc, ky.key y.1, ky.ok k6, hid, Nat.lt_of_lt_of_le (Nat.lt_of_le_of_lt hacc hlt) Y.len, ?_⟩
          have F11 := F10.wipe vs
          rw [hm, hwp] at F11
          have pa2 := put_pair ky (k := y.1) k7 (mono (((sB4.trans sB5).trans sB6).trans sB7) pa)
          have len2 : (putK acc (ky.key y.1) u2).length ≤ i + 1 := by
            rw [Paired.len pa2]
            have h1 := putM_len l y.1 y.2
            have h2 := Paired.len pa
            omega
          have F12 := F11.hidset (A := A.and B1) (o' := .dK (putK acc (ky.key y.1) u2)) h0D F.mh.and F.sub (Nat.le_trans len2 (Nat.le_trans hlt Y.len))
          exact ⟨B7, _, _, F12, pa2, len2, e2⟩
    · left
      have hil : i = xs.length := by omega
      subst hil
      refine ⟨Y.stop H2 B3 F5.ph.2 F5.bh, ?_⟩
      rw [List.drop_length] at e2
      unfold compD at e2
      cases e2
      have F6 := F5.unwipe hv
      have F7 : Frm ((A.add D (.dK acc)).and B1) σ H2 B3 _ := F6
      exact q D (.dK acc) H2 B3 F7.unand h0D (sB1.trans F5.ph.2) ⟨acc, rfl, pa⟩
/-! ### what is in a dict -/
theorem ob_dic (ky : Ky rk) {B H : Hp} {u : V} {l : List (κ × β)} (s : Same B H) (h : (rOb (cDic ky rv)).rel B u l) : ∃ p kvs, u = .ref p ∧ H p = some (.dK kvs) ∧ Paired (DRel ky rv B) kvs l := by
  obtain ⟨p, o, e, hp, kvs, rfl, k⟩ := h
  exact ⟨p, kvs, e, s _ _ hp, k⟩
theorem some_get (ky : Ky rk) {H : Hp} {k : κ} {kvs : List (L2.Key × V)} {l : List (κ × β)} (h : Paired (DRel ky rv H) kvs l) : (valV kvs (ky.key k)).isSome = (getM l k).isSome := by
  obtain ⟨h1, h2⟩ := get_pair ky k h
  cases q : getM l k with
  | none => rw [h2 q]; rfl
  | some b => obtain ⟨v, e, _⟩ := h1 b q; rw [e]; rfl
theorem ev_din (ky : Ky rk) {k : κ} {l : List (κ × β)} (hk : EvX rk tk Γ Γ1 k) (hd : EvX (rOb (cDic ky rv)) ta Γ1 Γ2 l) : EvX rBool (tDIn tk ta) Γ Γ2 ((getM l k).isSome) := fun A σ H B F Q q =>
  hk A σ H B F _ fun y H1 B1 F1 s1 k1 => hd A σ H1 B1 F1 _ fun x H2 B2 F2 s2 k2 => by
    obtain ⟨p, kvs, rfl, hp, kp⟩ := ob_dic ky F2.bh k2
    refine ⟨p, _, rfl, ?_, q _ _ _ F2 (s1.trans s2) (by show V.bl _ = V.bl _; rw [some_get ky kp])⟩
    rw [ky.ok k1]
    exact DGet.k hp
theorem ev_dnin (ky : Ky rk) {k : κ} {l : List (κ × β)} (hk : EvX rk tk Γ Γ1 k) (hd : EvX (rOb (cDic ky rv)) ta Γ1 Γ2 l) : EvX rBool (tDNotIn tk ta) Γ Γ2 (!(getM l k).isSome) := fun A σ H B F Q q =>
  hk A σ H B F _ fun y H1 B1 F1 s1 k1 => hd A σ H1 B1 F1 _ fun x H2 B2 F2 s2 k2 => by
    obtain ⟨p, kvs, rfl, hp, kp⟩ := ob_dic ky F2.bh k2
    refine ⟨p, _, rfl, ?_, q _ _ _ F2 (s1.trans s2) (by show V.bl _ = V.bl _; rw [some_get ky kp])⟩
    rw [ky.ok k1]
    exact DGet.k hp
theorem ev_dget (ky : Ky rk) {k : κ} {l : List (κ × β)} {b : β} (hd : EvX (rOb (cDic ky rv)) ta Γ Γ1 l) (hk : EvX rk tk Γ1 Γ2 k) (e : getM l k = some b) : EvX rv (tDGet ta tk) Γ Γ2 b := fun A σ H B F Q q =>
  hd A σ H B F _ fun x H1 B1 F1 s1 k1 => hk A σ H1 B1 F1 _ fun y H2 B2 F2 s2 k2 => by
    obtain ⟨p, kvs, rfl, hp, kp⟩ := ob_dic ky F2.bh ((rOb (cDic ky rv)).mono s2 k1)
    obtain ⟨v, ev, kv⟩ := (get_pair ky k kp).1 b e
    refine ⟨p, v, rfl, ?_, q _ _ _ F2 (s1.trans s2) kv⟩
    rw [ky.ok k2, ← ev]
    exact DGet.k hp
end
end G

set_option maxHeartbeats 4000000
/-! # G: while with more behind it; small rules by K -/
namespace G
variable [TabL]
open PySem PySem.Spec PyProof.Rows L2
section
variable {ρ ς : Type} {Γ : List Sl} {A : Amb} {ψ : ρ → Hp → Hp → V → Prop} {tt : TT} {tb u : TS} {D : Ends} {X : Cx} {K : PySem.W.Frag} {wd : World}
theorem sq_while (c : ς → Option Bool) (f : ς → Option (Step ρ ς)) (mk : ς → List Sl) {s0 : ς} {R0 : Step ρ ς} {n : Nat}
    (e : whL c f n s0 = some R0) (h0 : Nx A (Fin A (mk s0)) Γ) (ht : ∀ s b, c s = some b → EvT tt (mk s) (mk s) b)
    (hb : ∀ (D' : Ends) (s : ς) (st : Step ρ ς), f s = some st → Conts A ψ D' mk st → Nx A (tb D') (mk s))
    (hr : ∀ b, R0 = .ret b → Rt A ψ b D.rt) (hd : ∀ s, R0 = .nx s → Nx A (u D) (mk s)) : Nx A (tSeq (tWhile tt tb) u D) Γ := nx_while (D := { D with nx := u D }) c f mk e h0 ht (fun D' s st _ h k => hb D' s st h k) hr hd
theorem sortedSetK (hw : X.w = wd) (hc : X.calm = true) : CallR X (.builtin "sorted") (rSortedSet wd) := by subst hw; exact cr_sortedSet hc
end
end G

set_option maxHeartbeats 4000000
/-! # G: defaults; tuples that may be the text's own -/
namespace G
variable [TabL]
open PySem PySem.Spec PyProof.Rows L2
theorem _root_.L2.Room.units1 {k : Nat} {A : Around} (r : L2.Room k A) : A.units + 1 < cLine := by have := r.units; omega
def rTK {α : Type} (K : PySem.W.Frag) (r : Rp α) : Rp (List α) := ⟨fun H v xs => ∃ p vs, v = .ref p ∧ SqT K H p vs ∧ vs.length ≤ sizeLine ∧ Paired (r.rel H) vs xs, fun s ⟨p, vs, e, h, l, k⟩ => ⟨p, vs, e, Same.seqT s h, l, Paired.monoR s k⟩⟩
/-- what the defaults add to the written arguments -/
def DApp {α γ : Type} (w0 : Rw α) (dvs : List V) (w : Rw γ) (f : α → γ) : Prop := ∀ B vs a, w0.rel B vs a → w.rel B (vs ++ dvs) (f a)
section
variable {α β γ δ : Type} {r : Rp α} {rb : Rp β} {w0 : Rw α} {w : Rw γ} {wd : Rw δ} {dvs : List V} {Γ Γ1 : List Sl} {te : TE} {ta : TA} {K : PySem.W.Frag} {xs : List α} {a : α} {b : β} {C : Addr} {names : List Str}
theorem dapp_0 {d : δ} (h : ∀ B, wd.rel B dvs d) : DApp G.w0 dvs wd (fun _ => d) := fun B vs a e => by
  rw [show vs = [] from e]; exact h B
theorem dapp_1 {d : δ} (h : ∀ B, wd.rel B dvs d) : DApp (w1 r) dvs (wC r wd) (fun a => (a, d)) := fun B vs a ⟨v, e, k⟩ => ⟨v, dvs, by rw [e]; rfl, k, h B⟩
theorem dapp_C {f : α → γ} {rr : Rp β} (h : DApp w0 dvs w f) : DApp (wC rr w0) dvs (wC rr w) (fun a => (a.1, f a.2)) := fun B vs a ⟨v, t, e, k, k2⟩ => ⟨v, t ++ dvs, by rw [e]; rfl, k, h B t a.2 k2⟩
theorem tk_nil {e : Addr} {o : Obj} {n : Nat} (h : K.lookup e = some o) (hc : o.cls = .type "tuple") (hd : o.data = .seq #[] n) (B : Hp) : (w1 (rTK K r)).rel B [V.ref e] [] := ⟨_, rfl, e, [], rfl, .inr ⟨o, #[], n, h, hc, hd, Nat.zero_le _, .nil⟩, Nat.zero_le _, .nil⟩
/-- the text's empty tuple -/
def EmpT (K : PySem.W.Frag) (e : Addr) : Prop := ∃ (o : Obj) (n : Nat), K.lookup e = some o ∧ o.cls = .type "tuple" ∧ o.data = .seq #[] n
theorem tkE {e : Addr} (h : EmpT K e) (B : Hp) : (w1 (rTK K r)).rel B [V.ref e] [] := by
  obtain ⟨o, n, h1, h2, h3⟩ := h
  exact tk_nil h1 h2 h3 B
theorem ev_tk (h : EvX (rTpl r) te Γ Γ1 xs) : EvX (rTK K r) te Γ Γ1 xs := fun A σ H B F Q q => h A σ H B F Q fun v H' B' F' s k => q v H' B' F' s (by
  obtain ⟨p, o, rfl, hp, vs, rfl, kp⟩ := k
  exact ⟨p, vs, rfl, SqT.of hp, F'.sz _ _ (F'.bh _ _ hp), kp⟩)
theorem it_tk (h : EvX (rTK K r) te Γ Γ1 xs) : ItX r (iTup K te) Γ Γ1 xs := fun A σ H B F R q => h A σ H B F _ fun v H' B' F' s k => by
  obtain ⟨p, vs, rfl, hp, hl, kp⟩ := k
  refine ⟨p, rfl, ⟨vs, Same.seqT F'.bh hp⟩, q _ H' B' F' s ⟨by rw [← Paired.len kp]; exact hl, fun H2 B2 s1 s2 => ?_, fun i H2 B2 s1 s2 hi => ?_, fun i x H2 B2 v H3 s1 s2 hx hy A σ Γ F => ?_⟩⟩
  · exact ⟨vs, Same.seqT s2 (Same.seqT s1 hp), by rw [Paired.len kp]; exact Nat.le_refl _⟩
  · obtain ⟨y, hy⟩ : ∃ y, vs[i]? = some y := ⟨_, List.getElem?_eq_getElem (by rw [Paired.len kp]; exact hi)⟩
    exact ⟨vs, y, Same.seqT s2 (Same.seqT s1 hp), hy⟩
  · obtain ⟨rfl, hv⟩ := hy
    obtain ⟨y, hy, ky⟩ := Paired.getR kp hx
    have e := hv vs (Same.seqT s2 (Same.seqT s1 hp))
    rw [hy] at e; cases e
    exact ⟨B2, F, Same.refl _, r.mono s1 ky⟩
/-- a class is called, some parameters by their defaults -/
theorem ev_makeD {wb : Rw β} {f : α → γ} {m : γ → Option β} {E : XK} (h : EvW w0 ta Γ Γ1 a) (d : DApp w0 dvs w f) (e : m (f a) = some b) : EvX (rIns C names wb) (tMake C (SpJ C w (cIns C names wb) m) dvs E ta) Γ Γ1 b := fun A σ H B F Q q => h A σ H B F _ fun vs H1 B1 F1 s1 k1 => by
  intro y dy hy hd ne
  obtain ⟨p1, p2, p3, p4⟩ := made_pre (C := C) F1 hy hd ne
  refine ⟨y, dy, vs ++ dvs, upd B1 dy (.own y), f a, b, rfl, upd_same, p3, p1, p2, w.mono p4 (d B1 vs a k1), e, fun H2 B2 P ⟨o, ho, k⟩ => ⟨rfl, ?_⟩⟩
  have F2 := made_frame (A := A) F1 hy hd ne P ho
  have F3 := F2.adopt (F1.H0none hy) F1.sub F1.mh
  have hB2 : B2 y = none := P.out y (by show upd (upd H1 dy (.own y)) y (.ins C dy []) y ≠ none; rw [upd_same]; simp) p3.1
  have s3 : Same B2 (upd B2 y o) := fun q u e => by rw [upd_ne (ne_of_none e hB2)]; exact e
  exact q _ _ _ F3 (s1.trans (p4.trans (P.b0.trans s3))) ⟨y, o, rfl, upd_same, (cIns C names wb).mono s3 k⟩
end
section
variable {P : Program} {w : World} {K : PySem.W.Frag} {mg : Str → Option Value} {base : Heap} {x qual : Str} {params : Arguments} {body : List Stmt} {scope : Scope} {dvs : List V} {kws : List (Str × V)} {f : Addr} {fd : FuncData}
theorem funD_okN {N ps : List Str} {k : Nat} {sp : Sp} (F : FunD K x qual params body scope dvs kws f fd) (S : FnScope N ps scope) (len : ∀ vs H Q E, sp vs H Q E → vs.length = ps.length)
    (hbody : ∀ (cdv : Value) (A : Around) (outer : List Env) (s : Shared) (H : Hp) (vs : List V) (Q : VK) (E : XK), Room k (A.deeper (envOfC qual scope s.heap.objs.size f cdv)) → sp vs H Q E →
      ∃ t, PSs (cxOf CX0 P w K mg base N qual scope f cdv A outer s H E).nox body t ∧ t { nx := fun _ H' => Q .non H', rt := Q } (start N vs) H) : FnOk P w K mg base CX0 (k + 1) f fd ps sp :=
  F.ok S len fun cdv A outer s H vs Q E hr h => by
    obtain ⟨t, h1, h2⟩ := hbody cdv A outer s H vs Q E hr h
    exact ⟨t, h1.nox, h2⟩
end
end G

set_option maxHeartbeats 4000000
/-! # G: isinstance of a caught error; calls that may raise as statements; join -/
namespace G
variable [TabL]
open PySem PySem.Spec PyProof.Rows L2
/-- isinstance(e, c), e the error that the suite holds, its fields in the dict d -/
def rIsX (K : PySem.W.Frag) (C a : Addr) (d : Option Addr) : List V → Hp → VK → Prop := fun xs H Q => ∃ (c : V) (cv : Value) (b : Bool) (dd : Addr) (fs : List (Str × V)), xs = [.ref a, c] ∧ ClsV c cv ∧ PySem.W.kitOne K (.ref C) cv = some b ∧ d = some dd ∧ H dd = some (.xd fs) ∧ Q (.bl b) H
theorem call_isX {X : Cx} {K : PySem.W.Frag} {a D : Addr} {d : Option Addr} {oe : Obj} {pn : List (Addr × Obj)} (hK : X.K = K) (C : ExcC K D) (hz : Zc (.ref D) d oe) (hf : ∃ vs, oe.data = .fields vs) : CallR (X.suite a ((a, oe) :: pn)) (.builtin "isinstance") (rIsX K D a d) := by
  subst hK
  intro pins s σ H xs us Q I r h
  obtain ⟨c, cv, b, dd, fs, rfl, hcv, e, rfl, hdd, q⟩ := h
  cases r with
  | cons rx rr =>
    cases rr with
    | cons rt rr =>
      cases rr
      cases rx
      obtain rfl := ClsV.eq hcv rt
      obtain ⟨hget, _⟩ := I.pin (a, oe) (List.mem_append.mpr (.inl List.mem_cons_self))
      obtain ⟨vs, hv⟩ := hf
      have hx : ObjOk X.prog X.w H s.heap dd (.xd fs) := I.hok dd _ hdd
      obtain ⟨mA, hns, hr⟩ := hx
      obtain ⟨od, ho, hl⟩ := lookIn_ns hns
      have J : PySem.W.InstAt s.heap a oe D (some od) := ⟨hget, hz.1, by unfold PySem.W.notCls; rw [hv] <;> rfl, by rw [hz.2]; exact ho⟩
      have hcl : (PySem.W.clsIn X.K D).isSome = true := by
        have h1 := C.hd
        unfold PySem.W.hasDictIn at h1
        cases q : PySem.W.clsIn X.K D with
        | none => rw [q] at h1; cases h1
        | some cd => rfl
      exact PySem.W.kia_one (PySem.W.kitx_exc hcl C.hg C.hk C.hs C.ha C.hn C.ht C.hm) I.kIn J e (fun z => nomatch z) fun tk => ⟨.bl b, H, I.kept (t' := tk) fun _ _ z => z, rfl, q⟩
section
variable {α β γ ε : Type} {r : Rp β} {w : Rw α} {Γ Γ1 : List Sl} {te : TE} {ta : TA} {K : PySem.W.Frag} {a : α} {b : β} {C : Addr} {names : List Str} {A : Amb} {D : Ends} {u : TS} {R : ER ε} {i : Nat}
theorem ev_isX {p : Addr} {d : Option Addr} {c : V} {cv : Value} {k : Bool} (h : EvX (rExc p d C names w) te Γ Γ1 a) (hc : ClsV c cv) (kit : PySem.W.kitOne K (.ref C) cv = some k) : EvX rBool (tCB (rIsX K C p d) (tCons te (tCons (tC c) tNil))) Γ Γ1 k := fun A σ H B F Q q =>
  h A σ H B F _ fun v H1 B1 F1 s1 ⟨e, _, dd, fs, vs, h2, h3, h4, h5⟩ => by
    subst e
    exact ⟨c, cv, k, dd, fs, rfl, hc, kit, h2, F1.bh _ _ h3, q _ H1 B1 F1 s1 rfl⟩
theorem sq_dropSm {W : WX} {m : α → Option (Res ε β)} {x : Res ε β} {k : β → Option γ} {l : ε → Option γ} {z : γ} (h : EvW w ta Γ Γ1 a) (e : m a = some x) (q : resX x k l = some z)
    (ko : ∀ y, k y = some z → Nx A (u D) Γ1) (ke : ∀ y, l y = some z → NxE W A Γ1 R y) : Nx A (tSeq (tDrop (tSm (SpX R w r m) (WE W) ta)) u D) Γ :=
  sq_dropR (tf := fun E => tSm (SpX R w r m) E ta) (er_sm h e) q ko ke
theorem sq_asgSm {W : WX} {m : α → Option (Res ε β)} {x : Res ε β} {k : β → Option γ} {l : ε → Option γ} {z : γ} (h : EvW w ta Γ Γ1 a) (e : m a = some x) (q : resX x k l = some z)
    (ko : ∀ y, k y = some z → Nx A (u D) (Γ1.set i (.imm r y))) (ke : ∀ y, l y = some z → NxE W A Γ1 R y) : Nx A (tSeq (tAsg (tSm (SpX R w r m) (WE W) ta) (gName i)) u D) Γ :=
  sq_asgR (tf := fun E => tSm (SpX R w r m) E ta) (er_sm h e) q ko ke
def okR (x : Res ε β) : Option β := match x with
  | .ok b => some b
  | .er _ => none
@[simp] theorem okR_ok (b : β) : okR (.ok b : Res ε β) = some b := rfl
theorem okR_eq {x : Res ε β} {b : β} (h : okR x = some b) : x = .ok b := by
  cases x with
  | ok y => cases h; rfl
  | er e => cases h
theorem ev_smOk {m : α → Option (Res ε β)} {x : Res ε β} {E : L2.St → XK} (h : EvW w ta Γ Γ1 a) (e : m a = some x) (o : okR x = some b) : EvX r (tSm (SpX R w r m) E ta) Γ Γ1 b := ev_ok (tf := fun E => tSm (SpX R w r m) E ta) (er_sm h e) (okR_eq o) E
/-! ### join -/
def pyJoin (z : Str) (ys : List Str) : Option Str := if (ys.map (·.length)).sum + ys.length * z.length ≤ 16777216 then some (Txt.join z ys) else none
theorem ev_join {z o : Str} {ys : List Str} {tz : TE} {Γ2 : List Sl} (hz : EvX rStr tz Γ Γ1 z) (hy : EvX (rLst rStr) te Γ1 Γ2 ys) (e : pyJoin z ys = some o) :
    EvX rStr (tM1 (fun x xs H Q => ∃ a p, ∃ ys : List Str, x = .str a ∧ xs = [.ref p] ∧ (SqL K H p (ys.map V.str) ∨ SqT K H p (ys.map V.str)) ∧ (ys.map (·.length)).sum + ys.length * a.length ≤ 16777216 ∧ Q (.str (Txt.join a ys)) H) tz te) Γ Γ2 o := fun A σ H B F Q q => by
  unfold pyJoin at e
  split at e
  · rename_i hl
    cases e
    refine hz A σ H B F _ fun v H1 B1 F1 s1 k1 => ⟨⟨z, k1⟩, hy A σ H1 B1 F1 _ fun v2 H2 B2 F2 s2 k2 => ?_⟩
    obtain ⟨p, vs, rfl, hp, k⟩ := ob_lst F2.bh k2
    exact ⟨z, p, ys, k1, rfl, .inl (by rw [show ys.map V.str = vs from (fl_str.vals k).symm]; exact SqL.of hp), hl, q _ _ _ F2 (s1.trans s2) rfl⟩
  · cases e
theorem pe_joinK {X : Cx} {o e : Expr} {to te : TE} {apos pos : Pos} (hK : X.K = K) (h : PE X (.Call (.Attribute o "join" apos) [e] [] pos) (tM1 (fun x xs H Q => ∃ a p, ∃ ys : List Str, x = .str a ∧ xs = [.ref p] ∧ (SqL X.K H p (ys.map V.str) ∨ SqT X.K H p (ys.map V.str)) ∧ (ys.map (·.length)).sum + ys.length * a.length ≤ 16777216 ∧ Q (.str (Txt.join a ys)) H) to te)) :
    PE X (.Call (.Attribute o "join" apos) [e] [] pos) (tM1 (fun x xs H Q => ∃ a p, ∃ ys : List Str, x = .str a ∧ xs = [.ref p] ∧ (SqL K H p (ys.map V.str) ∨ SqT K H p (ys.map V.str)) ∧ (ys.map (·.length)).sum + ys.length * a.length ≤ 16777216 ∧ Q (.str (Txt.join a ys)) H) to te) := by subst hK; exact h
end
end G

set_option maxHeartbeats 4000000
/-! # G: range with ends of any size, two comparisons, the type of an instance, max and min with default=None -/
namespace G
variable [TabL]
open PySem PySem.Spec PyProof.Rows L2
section
variable {X : Cx} {K : PySem.W.Frag} {tg : Expr}
theorem turn_lng {P : Program} {w : World} (it : Addr) (lo : Int) (n : Nat) : Turn P w K tg (Itr lo n) [it] it (fun i h => IsLongIter h it (lo + (i : Nat) * 1) ((n : Int) - (i : Nat)) 1) where
  mem := List.mem_singleton.mpr rfl
  obj := fun i h st b hb => by
    cases List.mem_singleton.mp hb
    exact ⟨_, st, fun v z => by
      have y : Data.fields _ = Data.cell v := z
      cases y⟩
  keep := fun i h h' st k => k it (List.mem_singleton.mpr rfl) _ st
  item := by
    intro Y hP hw hK hc i pins s σ H E I hf st hg
    subst hP hw hK
    obtain ⟨f0, f1, _, f3, f4, f5⟩ := hf it (List.mem_singleton.mpr rfl)
    have W := Walks.longrange (prog := Y.prog) (w := Y.w) (I.ok.hd hc) it lo 1 n
    refine W.item i s _ _ hg st fun v h' tk hv st2 kk => ?_
    obtain ⟨t, rfl⟩ := hv
    have I1 : Inv Y pins σ H { s with heap := h', toks := tk } := I.turned (fun b o hb e => kk b o (by simpa using hb) e) f0 f1 f3 f4 f5
    refine ⟨_, rfl, go_of (s := { s with heap := h', toks := tk }) (n := "longrange_iterator") st2 rfl rfl (by decide) ⟨.int (lo + i), H, I1, ⟨t, ?_⟩, ⟨rfl, rfl⟩, st2, fun b hb => (hf b hb).1⟩⟩
    rw [Int.mul_one]
  done := by
    intro Y hP hw hK hc i pins s σ H E I hf st hg
    subst hP hw hK
    obtain ⟨f0, f1, _, f3, f4, f5⟩ := hf it (List.mem_singleton.mpr rfl)
    exact wpAny_pyNext_long_end (I.ok.hd hc) st (by have : n ≤ i := hg; omega) fun h' eb => ⟨rfl, I.turned (t' := s.toks) (fun b o hb e => eb b o hb e) f0 f1 f3 f4 f5⟩
  self := fun _ _ _ _ _ st h => wpAny_pyIter_longiter st h
theorem rng_any {pins : List (Addr × Obj)} {σ : L2.St} {H : Hp} {s : Shared} {R : It → Hp → Prop} {E : Value → Shared → Prop} {lo hi : Int} {t u v : Tok} {tk : Nat} (I : Inv X pins σ H s)
    (q : R (Itr lo (hi - lo).toNat) H) : wpAny (model X.prog X.w) X.A (pyIter (.ref s.heap.objs.size)) (PIE X pins σ tg R) E { s with heap := s.heap.push { cls := .type "range", data := .fields #[.int lo t, .int hi u, .int 1 v] }, toks := tk } := by
  have I1 : Inv X pins σ H { s with heap := s.heap.push { cls := .type "range", data := .fields #[.int lo t, .int hi u, .int 1 v] }, toks := tk } := I.kept fun b o e => Heap.get?_push_of_some _ e
  have e1 : lo + ((0 : Nat) : Int) * 1 = lo := by simp
  have e2 : (((hi - lo).toNat : Nat) : Int) - ((0 : Nat) : Int) = Builtin.Range.rangeSize lo hi 1 := by rw [rangeSize_one]; split <;> omega
  cases hs : Builtin.Range.small lo hi 1 with
  | true =>
    refine wpAny_pyIter_range (IsRange.new ..) hs ?_
    refine ⟨(s.heap.push { cls := .type "range", data := .fields #[.int lo t, .int hi u, .int 1 v] }).objs.size, [(s.heap.push { cls := .type "range", data := .fields #[.int lo t, .int hi u, .int 1 v] }).objs.size], _, _, H, rfl, I1.kept (t' := tk) fun b o e => Heap.get?_push_of_some _ e, turn_range _ lo (hi - lo).toNat, ?_, fun b hb => ?_, q⟩
    · show IsRangeIter _ _ (lo + ((0 : Nat) : Int) * 1) ((((hi - lo).toNat : Nat) : Int) - ((0 : Nat) : Int)) 1
      rw [e1, e2]; exact Heap.get?_push_size _ rfl
    · cases List.mem_singleton.mp hb
      exact I1.fpOk (Nat.le_refl _) (I1.hok.fresh (Nat.le_refl _))
  | false =>
    refine wpAny_pyIter_longrange (IsRange.new ..) hs ?_
    refine ⟨(s.heap.push { cls := .type "range", data := .fields #[.int lo t, .int hi u, .int 1 v] }).objs.size, [(s.heap.push { cls := .type "range", data := .fields #[.int lo t, .int hi u, .int 1 v] }).objs.size], _, _, H, rfl, I1.kept (t' := tk) fun b o e => Heap.get?_push_of_some _ e, turn_lng _ lo (hi - lo).toNat, ?_, fun b hb => ?_, q⟩
    · show IsLongIter _ _ (lo + ((0 : Nat) : Int) * 1) ((((hi - lo).toNat : Nat) : Int) - ((0 : Nat) : Int)) 1
      rw [e1, e2]; exact Heap.get?_push_size _ rfl
    · cases List.mem_singleton.mp hb
      exact I1.fpOk (Nat.le_refl _) (I1.hok.fresh (Nat.le_refl _))
theorem pi_listK {l : Expr} {tl : TE} (h : X.K = K) (hl : PE X l tl) : PI X tg l (iList K tl) := by subst h; exact pi_list hl
theorem pi_tupK {l : Expr} {tl : TE} (h : X.K = K) (hl : PE X l tl) : PI X tg l (iTup K tl) := by subst h; exact pi_tup hl
def iRng3 (ta : TA) : TI := fun σ H R => ta σ H fun vs H1 => ∃ i j : Int, vs = [.int i, .int j] ∧ R (Itr i (j - i).toNat) H1
theorem pi_range3 {a b : Expr} {ta : TA} {p pos : Pos} (hg : Gl X "range") (hm : X.mg "range" = none) (ha : PA X [a, b] ta) (hs : starEach [a, b] X.env = [(false, eval a X.env), (false, eval b X.env)] := by rfl) (hs2 : starEach [b] X.env = [(false, eval b X.env)] := by rfl) : PI X tg (.Call (.Name "range" p) [a, b] [] pos) (iRng3 ta) := by
  refine ⟨fun pins s σ H R I h => ?_⟩
  refine Call_ (ld_blt I hg hm boot_range (PyProof.Rows.callWith_type1 (thn (ha.run pos pins s σ H _ I h) fun us s1 ⟨vs, H1, I1, r1, q1⟩ => ?_) (by rw [hs, hs2]) (by rw [hs2]; rfl)))
  obtain ⟨i, j, e, q⟩ := q1
  subst e
  cases r1 with
  | cons r rr =>
    cases rr with
    | cons r2 rr =>
      cases rr
      obtain ⟨t, rfl⟩ := r
      obtain ⟨u, rfl⟩ := r2
      exact call_range_2 (rng_any I1 q)
end
section
variable {α β γ : Type} {r ra : Rp α} {rb : Rp β} {te ta tb tc : TE} {Γ Γ1 Γ2 : List Sl} {K : PySem.W.Frag} {w : Rw α} {C : Addr} {names : List Str}
def pyRng3 (i j : Int) : Option (List Int) := if j - i ≤ 1000000 then some (rng i (j - i).toNat) else none
theorem it_rng3 {ta : TA} {i j : Int} {l : List Int} (h : EvW (wC rInt (w1 rInt)) ta Γ Γ1 (i, j)) (e : pyRng3 i j = some l) : ItX rInt (iRng3 ta) Γ Γ1 l := fun A σ H B F R q => h A σ H B F _ fun vs H' B' F' s k => by
  obtain ⟨v, t, rfl, rfl, u, rfl, rfl⟩ := k
  unfold pyRng3 at e
  split at e
  · rename_i hj
    cases e
    exact ⟨i, j, rfl, q _ H' B' F' s (yl_rng (by omega))⟩
  · cases e
/-! ### two comparisons of whole numbers -/
theorem nomark2 {op op' : CmpOp} (b c : Expr) (h : op' ≠ .In := by decide) (h2 : op' ≠ .NotIn := by decide) : lastMarks [op, op'] [b, c] = false := nomark c h h2
theorem ch_I {f : Int → Int → Bool} {i j : Int} {H B : Hp} {u v : V} (ku : rInt.rel B u i) (kv : rInt.rel B v j) {Q : VK} (q : Q (.bl (f i j)) H) : rI0 (fun i j => .bl (f i j)) u v H Q := ⟨i, j, ku, kv, q⟩
theorem ev_chI {f g : Int → Int → Bool} {i j k : Int} (ha : EvX rInt ta Γ Γ1 i) (hb : EvX rInt tb Γ1 Γ2 j) (hc : EvX rInt tc Γ2 Γ2 k) : EvX rBool (tChain (rI0 (fun i j => .bl (f i j))) (rI0 (fun i j => .bl (g i j))) ta tb tc) Γ Γ2 (f i j && g j k) :=
  ev_chain ha hb (fun _ => hc) (fun H B u v _ ku kv Q q => ch_I ku kv q) fun _ H B u v _ ku kv Q q => ch_I ku kv q
theorem ev_chO {f g : Int → Int → Bool} {i j : Int} {b1 b : Bool} (ha : EvX rInt ta Γ Γ1 i) (hb : EvX rInt tb Γ1 Γ2 j) (e1 : f i j = b1) (hc : b1 = true → ∃ k, EvX rInt tc Γ2 Γ2 k ∧ b = g j k) (hf : b1 = false → b = false) : EvX rBool (tChain (rI0 (fun i j => .bl (f i j))) (rI0 (fun i j => .bl (g i j))) ta tb tc) Γ Γ2 b := by
  cases b1 with
  | true =>
    obtain ⟨k, hk, rfl⟩ := hc rfl
    have h := ev_chI (f := f) (g := g) ha hb hk
    rw [e1, Bool.true_and] at h
    exact h
  | false =>
    rw [hf rfl]
    exact ev_chain (b1 := false) (b2 := false) (rc := rInt) (z := 0) ha hb (fun h => nomatch h) (fun H B u v _ ku kv Q q => ch_I (f := f) ku kv (by rw [e1]; exact q)) (fun h => nomatch h)
/-! ### the type of an instance -/
structure ClsT (K : PySem.W.Frag) (C : Addr) : Prop where
  cl : Cls K C
  ca : PySem.W.findIn K (.ref C) "__class__" = some (some (.builtin "object.__class__"))
  cn : PySem.W.specialIn K (.builtin "object.__class__") "__get__" = some (some (.builtin "getset_descriptor.__get__"))
  ct : PySem.W.takesIn K (.builtin "object.__class__") = some true
  cm : PySem.W.mroIn K C (.type "object") = some true
theorem ty_ins (k : ClsT K C) : TyR K (rIns C names w) (.ref C) := fun H v a h => by
  obtain ⟨p, dx, vs, rfl, hp, _, _⟩ := ob_ins (Same.refl H) h
  exact .base (.ins hp k.cl k.ca k.cn k.ct k.cm)
/-! ### max(xs, default=None), min -/
def pyMaxN : List Int → Option Int
  | [] => none
  | n :: t => some (t.foldl max n)
def pyMinN : List Int → Option Int
  | [] => none
  | n :: t => some (t.foldl min n)
def oInt : Option Int → V
  | none => .non
  | some n => .int n
def rMxN (K : PySem.W.Frag) (f : List Int → Option Int) : List V → List V → Hp → VK → Prop := fun xs zs H Q => ∃ a ns, xs = [V.ref a] ∧ zs = [V.non] ∧ SqL K H a (ns.map V.int) ∧ Q (oInt (f ns)) H
theorem max_of (n : Int) (ns : List Int) : PySem.W.maxOf n ns = ns.foldl max n := by
  unfold PySem.W.maxOf
  congr 1
  funext a y
  show (if decide (a < y) = true then y else a) = max a y
  by_cases h : a < y
  · rw [if_pos (by simpa using h)]; omega
  · rw [if_neg (by simpa using h)]; omega
theorem min_of (n : Int) (ns : List Int) : PySem.W.minOf n ns = ns.foldl min n := by
  unfold PySem.W.minOf
  congr 1
  funext a y
  show (if decide (y < a) = true then y else a) = min a y
  by_cases h : y < a
  · rw [if_pos (by simpa using h)]; omega
  · rw [if_neg (by simpa using h)]; omega
theorem holds_ints {h : Heap} : ∀ {ns : List Int} {us : List Value}, Vals (ns.map V.int) us → PySem.W.HoldAll h us ns
  | [], _, .nil => ⟨[], .nil⟩
  | n :: _, _, .cons ⟨t, e⟩ k => by
    subst e
    obtain ⟨as, q⟩ := holds_ints (h := h) k
    exact ⟨_, .cons (.int n t) q⟩
theorem holds_int {h : Heap} {v : Value} {n : Int} (k : PySem.W.Holds h v n) : ∃ t, v = .int n t := by
  obtain ⟨as, q⟩ := k
  cases q
  exact ⟨_, rfl⟩
theorem crk_max {X : Cx} (hK : X.K = K) (hc : X.calm = true) (hu : X.A.units + 64 < cLine) : CallRK X (.builtin "max") ["default"] (rMxN K pyMaxN) := by
  subst hK
  intro pins s σ H xs zs us ws Q I q z h
  obtain ⟨a, ns, rfl, rfl, hs, k⟩ := h
  obtain ⟨its, rv, hl, _⟩ := I.list hs
  rw [Vals.ref1 q]
  have ew : ws = [Value.none] := by
    cases z with
    | cons z1 z2 => cases z2; cases (show _ = Value.none from z1); rfl
  subst ew
  refine PySem.W.max_list_datum_default (α := Int) (I.ok.hd hc) hl.isList (holds_ints rv) (by show X.A.units + 1 + 0 < cLine; omega) (fun e h2 tk hk => ?_) fun y ys i v h2 tk e hi hv hk => ?_
  · subst e
    exact ⟨.non, H, I.kept hk, rfl, k⟩
  · subst e
    obtain ⟨t, rfl⟩ := holds_int hv
    exact ⟨.int _, H, I.kept hk, ⟨t, rfl⟩, by rw [max_of]; exact k⟩
theorem crk_min {X : Cx} (hK : X.K = K) (hc : X.calm = true) (hu : X.A.units + 64 < cLine) : CallRK X (.builtin "min") ["default"] (rMxN K pyMinN) := by
  subst hK
  intro pins s σ H xs zs us ws Q I q z h
  obtain ⟨a, ns, rfl, rfl, hs, k⟩ := h
  obtain ⟨its, rv, hl, _⟩ := I.list hs
  rw [Vals.ref1 q]
  have ew : ws = [Value.none] := by
    cases z with
    | cons z1 z2 => cases z2; cases (show _ = Value.none from z1); rfl
  subst ew
  refine PySem.W.min_list_datum_default (α := Int) (I.ok.hd hc) hl.isList (holds_ints rv) (by show X.A.units + 1 + 0 < cLine; omega) (fun e h2 tk hk => ?_) fun y ys i v h2 tk e hi hv hk => ?_
  · subst e
    exact ⟨.non, H, I.kept hk, rfl, k⟩
  · subst e
    obtain ⟨t, rfl⟩ := holds_int hv
    exact ⟨.int _, H, I.kept hk, ⟨t, rfl⟩, by rw [min_of]; exact k⟩
theorem ev_mxN {f : List Int → Option Int} {ns : List Int} (h : EvX (rLst rInt) te Γ Γ1 ns) : EvX (rOpt rInt) (tCKw (rMxN K f) (tCons te tNil) (tCons (tC .non) tNil)) Γ Γ1 (f ns) := fun A σ H B F Q q =>
  h A σ H B F _ fun v H1 B1 F1 s1 k1 => by
    obtain ⟨p, vs, rfl, hp, kv⟩ := ob_lst F1.bh k1
    refine ⟨p, ns, rfl, rfl, by rw [← Paired.mapEq (fun a b h => h) kv]; exact SqL.of hp, ?_⟩
    refine q _ H1 B1 F1 s1 ?_
    cases f ns with
    | none => rfl
    | some n => exact ⟨rfl, fun z => V.noConfusion z⟩
end
end G

set_option maxHeartbeats 4000000
/-! # G: comprehensions with two fors -/
namespace G
variable [TabL]
open PySem PySem.Spec PyProof.Rows L2
section
variable {α β γ δ : Type} {r : Rp α} {r1 : Rp δ} {rb : Rp β} {Γ Γ1 : List Sl} {xs : List α}
def compL2 (fi : α → Option (List δ)) (g : α → δ → Option (Option β)) : List α → Option (List β)
  | [] => some []
  | x :: xs => bindO (fi x) fun l => bindO (compL (g x) l) fun ys => bindO (compL2 fi g xs) fun zs => some (ys ++ zs)
def comp2 (fi : α → Option (List δ)) (g : α → δ → Option (Option β)) (xs : List α) : Option (List β) := bindO (compL2 fi g xs) fun ys => if ys.length ≤ 1000000 then some ys else none
theorem it_to {wi : TI} {l l2 : List α} (h : ItX r wi Γ Γ1 l) (e : l = l2) : ItX r wi Γ Γ1 l2 := by subst e; exact h
theorem dr_C {w : Rw β} {B : Hp} {v : V} {vs : List V} {a : α} {b : β} (h : r.rel B v a) (k : w.rel B vs b) : (wC r w).rel B (v :: vs) (a, b) := ⟨v, vs, rfl, h, k⟩
theorem rl_none {B : Hp} : (rOpt r).rel B .non none := rfl
theorem line_big {n : Nat} (h : n ≤ 1000000) : n ≤ sizeLine := Nat.le_trans h (by decide)
theorem ec_lc2 {wi wi1 : TI} {g g1 : TG} {tt tt1 : TT} {te : TE} {ws ws1 vs vs1 : List Nat} (fi : α → Option (List δ)) (f : α → δ → Option (Option β)) {Γf : α → List Sl} {Γg : α → δ → List Sl} {ys : List β}
    (hi : ItX r wi Γ Γ1 xs) (e : comp2 fi f xs = some ys) (hg : TgX g r ws (wipeG Γ1 vs) Γf) (hw : ∀ k, k ∈ ws → k ∈ vs) (hv : wipeG Γ1 vs = Γ1) (hm : ∀ x, wipeG (Γf x) vs = Γ1) (ht : ∀ x, EvT tt (Γf x) (Γf x) true)
    (hi1 : ∀ x l, fi x = some l → ItX r1 wi1 (Γf x) (Γf x) l) (hv1 : ∀ x, wipeG (Γf x) vs1 = Γf x) (hg1 : ∀ x, TgX g1 r1 ws1 (wipeG (Γf x) vs1) (Γg x)) (hw1 : ∀ k, k ∈ ws1 → k ∈ vs1) (hm1 : ∀ x y, wipeG (Γg x y) vs1 = Γf x)
    (hb : ∀ (x : α) (y : δ) (o : Option β), f x y = some o → EvT tt1 (Γg x y) (Γg x y) o.isSome ∧ (∀ z, o = some z → EvX rb te (Γg x y) (Γg x y) z)) : EvC (cLst rb) (tLc2 wi g tt wi1 g1 tt1 te vs vs1) Γ Γ1 ys := fun A σ H B F Q q => by
  obtain ⟨ys0, e0, e⟩ := bindO_some e
  split at e
  case isFalse => cases e
  rename_i hlim
  cases e
  refine hi A σ H B F _ fun J H1 B1 F1 sB1 Y => fun D hD => ?_
  have F2 := F1.and (Same.refl B1)
  have h0D : A.H0 D = none := F1.H0none hD
  have hmD : ¬ A.m D := fun m => F.mh.al D m h0D
  have F3 := F2.wipe vs
  rw [hv] at F3
  have F4 := F3.fresh (o := .lst []) hD (Nat.zero_le _)
  refine ⟨fun i m H => m = xs.length - i ∧ i ≤ xs.length ∧ ∃ B acc dn rest, Frm ((A.and B1).add D (.lst acc)) (L2.wipe σ vs) H B Γ1 ∧ Paired (rb.rel B) acc dn ∧ compL2 fi f (xs.drop i) = some rest ∧ dn ++ rest = ys, ?_, ?_⟩
  · exact ⟨_, rfl, Nat.zero_le _, B1, [], [], ys, F4, .nil, by rw [List.drop_zero]; exact e0, rfl⟩
  · rintro i m H2 ⟨rfl, hil, B3, acc, dn, rest, F5, pa, e2, ed⟩
    by_cases hlt : i < xs.length
    · right
      have hx : xs[i]? = some xs[i] := List.getElem?_eq_getElem hlt
      rw [List.drop_eq_getElem_cons hlt] at e2
      unfold compL2 at e2
      obtain ⟨l, el, e2⟩ := bindO_some e2
      obtain ⟨ys1, ey, e2⟩ := bindO_some e2
      obtain ⟨zs, ez, e2⟩ := bindO_some e2
      cases e2
      refine ⟨Y.go i H2 B3 F5.ph.2 F5.bh hlt, fun H3 => ∃ B acc dn rest, Frm ((A.and B1).add D (.lst acc)) (L2.wipe σ vs) H3 B Γ1 ∧ Paired (rb.rel B) acc dn ∧ compL2 fi f (xs.drop (i + 1)) = some rest ∧ dn ++ rest = ys, fun H3 h3 => ⟨_, by omega, rfl, by omega, h3⟩, fun v H3 hy => ?_⟩
      obtain ⟨B4, F6, sB4, k4⟩ := Y.yld i _ H2 B3 v H3 F5.ph.2 F5.bh hx hy _ _ _ F5
      rw [hv] at hg
      refine hg _ _ H3 B4 v xs[i] F6 k4 _ fun σ4 F7 hl4 d4 => ?_
      have hwp := wipe_wipe hl4 fun k hk => d4 k fun z => hk (hw k z)
      refine ⟨hwp, ?_⟩
      refine ht _ _ _ _ _ F7 _ fun H5 B5 F8 sB5 => ?_
      show wi1 _ _ _
      refine hi1 _ l el _ _ _ _ F8 _ fun J1 H6 B6 F9 sB6 Y1 => ?_
      have G1 : Frm (((A.and B1).add D (.lst acc)).and B6) σ4 H6 B6 (Γf xs[i]) := F9.and (Same.refl _)
      have G2 : Frm (((A.and B1).and B6).add D (.lst acc)) σ4 H6 B6 (Γf xs[i]) := G1
      have G3 := G2.wipe vs1
      rw [hv1] at G3
      refine ⟨fun j k H => k = l.length - j ∧ j ≤ l.length ∧ ∃ B acc dn rest, Frm (((A.and B1).and B6).add D (.lst acc)) (L2.wipe σ4 vs1) H B (Γf xs[i]) ∧ Paired (rb.rel B) acc dn ∧ compL (f xs[i]) (l.drop j) = some rest ∧ dn ++ (rest ++ zs) = ys, ?_, ?_⟩
      · exact ⟨_, rfl, Nat.zero_le _, B6, acc, dn, ys1, G3, Paired.monoR ((sB4.trans sB5).trans sB6) pa, by rw [List.drop_zero]; exact ey, ed⟩
      · rintro j k H7 ⟨rfl, hjl, B7, acc, dn, rest, G4, pa, e3, ed⟩
        by_cases hlj : j < l.length
        · right
          have hy : l[j]? = some l[j] := List.getElem?_eq_getElem hlj
          rw [List.drop_eq_getElem_cons hlj] at e3
          refine ⟨Y1.go j H7 B7 G4.ph.2 G4.bh hlj, fun H8 => ∃ B acc dn rest, Frm (((A.and B1).and B6).add D (.lst acc)) (L2.wipe σ4 vs1) H8 B (Γf xs[i]) ∧ Paired (rb.rel B) acc dn ∧ compL (f xs[i]) (l.drop (j + 1)) = some rest ∧ dn ++ (rest ++ zs) = ys, fun H8 h8 => ⟨_, by omega, rfl, by omega, h8⟩, fun v H8 hyy => ?_⟩
          obtain ⟨B8, G5, sB8, k8⟩ := Y1.yld j _ H7 B7 v H8 G4.ph.2 G4.bh hy hyy _ _ _ G4
          have hg1' := hg1 xs[i]
          rw [hv1] at hg1'
          refine hg1' _ _ H8 B8 v l[j] G5 k8 _ fun σ9 G6 hl9 d9 => ?_
          have hwp1 := wipe_wipe hl9 fun k hk => d9 k fun z => hk (hw1 k z)
          refine ⟨hwp1, ?_⟩
          unfold compL at e3
          cases q2 : f xs[i] l[j] with
          | none => rw [q2] at e3; cases e3
          | some o =>
            rw [q2] at e3
            obtain ⟨hT, hE⟩ := hb _ _ _ q2
            refine hT _ _ _ _ G6 _ fun H10 B10 G7 sB10 => ?_
            cases o with
            | none =>
              have G8 := G7.wipe vs1
              rw [hm1, hwp1] at G8
              exact ⟨B10, acc, dn, rest, G8, Paired.monoR (sB8.trans sB10) pa, e3, ed⟩
            | some y =>
              refine hE y rfl _ _ _ _ G7 _ fun u H11 B11 G8 sB11 k11 => ?_
              have hid := G8.hid (A := (A.and B1).and B6) h0D F.mh.and.and
              dsimp only at e3
              cases q3 : compL (f xs[i]) (l.drop (j + 1)) with
              | none => rw [q3] at e3; cases e3
              | some r3 =>
                rw [q3] at e3
                cases e3
                have hlen0 : acc.length + 1 ≤ ys.length := by
                  rw [← ed, Paired.len pa, List.length_append, List.length_append, List.length_cons]; omega
                refine ⟨acc, hid, Nat.lt_of_lt_of_le (Nat.lt_of_succ_le hlen0) (line_big hlim), ?_⟩
                have G9 := G8.wipe vs1
                rw [hm1, hwp1] at G9
                have hlen : (acc ++ [u]).length ≤ sizeLine := by rw [List.length_append, List.length_singleton]; exact Nat.le_trans hlen0 (line_big hlim)
                have G10 := G9.hidset (A := (A.and B1).and B6) (o' := .lst (acc ++ [u])) h0D F.mh.and.and F.sub hlen
                exact ⟨B11, acc ++ [u], dn ++ [y], r3, G10, Paired.app (Paired.monoR ((sB8.trans sB10).trans sB11) pa) (.cons k11 .nil), by first | exact q3 | rfl, by rw [← ed, List.append_assoc]; rfl⟩
        · left
          have hjl : j = l.length := by omega
          subst hjl
          refine ⟨Y1.stop H7 B7 G4.ph.2 G4.bh, ?_⟩
          rw [List.drop_length] at e3
          unfold compL at e3
          cases e3
          have G5 := G4.unwipe (hv1 _)
          have G6 : Frm (((A.and B1).add D (.lst acc)).and B6) σ4 H7 B7 (Γf xs[i]) := G5
          have G7 := G6.unand.wipe vs
          rw [hm, hwp] at G7
          exact ⟨B7, acc, dn, zs, G7, pa, ez, ed⟩
    · left
      have hil : i = xs.length := by omega
      subst hil
      refine ⟨Y.stop H2 B3 F5.ph.2 F5.bh, ?_⟩
      rw [List.drop_length] at e2
      unfold compL2 at e2
      cases e2
      have F6 := F5.unwipe hv
      have F7 : Frm ((A.add D (.lst acc)).and B1) σ H2 B3 _ := F6
      refine q D (.lst acc) H2 B3 F7.unand h0D (sB1.trans F5.ph.2) ⟨acc, rfl, ?_⟩
      rw [List.append_nil] at ed
      rw [← ed]; exact pa
end
end G

set_option maxHeartbeats 4000000
/-! # G: bool of an instance, the frame's own list handed to a def, classes called with keywords -/
namespace G
variable [TabL]
open PySem PySem.Spec PyProof.Rows L2
/-! ### bool(x) -/
section
variable {prog : Program} {w : World} {A : Around} {E : Value → Shared → Prop} {s : Shared} {K : PySem.W.Frag} {x C f : Addr} {ox : Obj} {odd : Option Obj}
theorem truth_own {Q : Bool → Shared → Prop} (X : K.In s.heap) (I : PySem.W.InstAt s.heap x ox C odd) (hs : PySem.W.findIn K (.ref C) "__bool__" = some (some (.ref f))) (hf : PySem.W.isFn K (.ref f) = true)
    (h : wpAny (model prog w) A (call (.ref f) [.ref x]) (PySem.W.BoolBack Q) E s) : wpAny (model prog w) A (truthy (.ref x)) Q E s := by
  unfold truthy
  refine wpAny_bind (m := callSpecial? (.ref x) (Str.ofString "__bool__")) (PySem.W.special_fn X I hs (beq_iff_eq.mp hf) (wpAny_mono h (fun r s' hr => ?_) fun _ _ y => y))
  cases r <;> first | exact hr.elim | skip
  exact wpAny_pure hr
theorem bool_own {Q : Bool → Shared → Prop} (X : K.In s.heap) (I : PySem.W.InstAt s.heap x ox C odd) (hs : PySem.W.findIn K (.ref C) "__bool__" = some (some (.ref f))) (hf : PySem.W.isFn K (.ref f) = true)
    (h : wpAny (model prog w) A.in1.in1 (call (.ref f) [.ref x]) (PySem.W.BoolBack Q) E s) : wpAny (model prog w) A (call (.type "bool") [.ref x]) (fun v s' => ∃ b, v = .bool b ∧ Q b s') E s := by
  refine callType_codes (T := "bool") (Bi := Builtin.«object.__init__») (Q₁ := fun r s₁ => ∃ b, r = Value.bool b ∧ Q b s₁) PySem.F.called_bool (PySem.F.typeCall_bool_1 _) PySem.F.entry_object_init ?_ ?_
  · refine codeAny_of_tree ?_
    show wpAny _ A.in1.in1 (do checkBuiltinCall "bool.__new__" ⟨[.type "bool", .ref x], []⟩; again (.builtin "bool.__new__" ⟨[.type "bool", .ref x], []⟩)) _ _ s
    refine wpAny_bind (wpAny_of_eq (PySem.F.newCall_bool_1 _) (wpAny_pure ⟨plainId_quiet (by decide +kernel) _, codeAny_builtin PySem.F.entry_bool_new ?_⟩))
    rw [Around.under_plainId (by decide +kernel) _]
    unfold Builtin.«bool.__new__»
    refine wpAny_bind (wpAny_of_eq (a := true) (by first | rfl | kernel_rfl | (unfold isType; rw [isSubtype_type]; kernel_rfl)) ?_)
    refine PySem.W.KFB.if_not rfl ?_
    refine wpAny_bind (wpAny_of_eq (a := true) PySem.F.conv_sub_bool ?_)
    refine PySem.W.KFB.if_not rfl ?_
    refine wpAny_bind (wpAny_of_eq (a := [.ref x]) rfl ?_)
    show wpAny _ _ (do let b ← truthy (.ref x); ret (.bool b)) _ _ s
    refine wpAny_bind (truth_own X I hs hf (wpAny_mono h (fun r s₁ hr => ?_) fun _ _ y => y))
    cases r <;> first | exact hr.elim | skip
    exact wpAny_pure ⟨_, rfl, hr⟩
  · rintro obj s₁ ⟨b, rfl, hq⟩
    exact ⟨rfl, PySem.F.args_object_init_2 _ _, object_init_meets PySem.F.called_bool.init.lookup PySem.F.called_bool.made (by decide) prog w A.in1 _ s₁ ⟨rfl, rfl, b, rfl, hq⟩⟩
end
section
variable {X : Cx} {CX : CXT} {C f : Addr} {fd : FuncData} {ps : List Str} {n : Nat} {sp : Sp} {E : XK} {K : PySem.W.Frag}
theorem run_fnA {A : Around} {pins : List (Addr × Obj)} {σ : L2.St} {H : Hp} {s : Shared} {Q : VK} {us : List Value} {vs : List V} (F : FnOk X.prog X.w X.K X.mg X.base CX n f fd ps sp) (hr : Room n A) (e0 : Env0 X.prog X.w X.K X.mg X.base A X.stack s H) (hb : Binds X.K fd ps []) (hx : Passes CX X E)
    (I : Inv X pins σ H s) (r : Vals vs us) (h : sp vs H Q E) : wpAny (model X.prog X.w) A (call (.ref f) us) (EP X pins σ Q) X.xe s := by
  have hl : us.length = ps.length := by rw [← r.length]; exact F.len _ _ _ _ h
  refine wpAny_call (codeAny_mono (F.run A X.stack s H ⟨us, []⟩ us vs Q E hr e0 (by have := hb s us I.kIn (by rw [List.append_nil]; exact hl); rw [List.append_nil] at this; exact this) r h) fun r s' hq => ?_)
  cases r with
  | error e => exact hx pins σ H s e s' I hq
  | ok fl =>
    cases fl with
    | ret u => exact I.after hq
    | next => exact False.elim hq
    | brk => exact False.elim hq
    | cont => exact False.elim hq
def rBoolO (C : Addr) (sp : Sp) (E : XK) : List V → Hp → VK → Prop := fun xs H Q => ∃ a dx fs, xs = [V.ref a] ∧ H a = some (.ins C dx fs) ∧ sp [.ref a] H (fun z H' => ∃ b, z = .bl b ∧ Q z H') E
theorem call_boolO (hm : Meth X.K C "__bool__" f) (F : FnOk X.prog X.w X.K X.mg X.base CX n f fd ps sp) (hr : Room (n + 2) X.A) (hb : Binds X.K fd ps []) (hx : Passes CX X E) : CallR X (.type "bool") (rBoolO C sp E) := by
  intro pins s σ H xs us Q I r h
  obtain ⟨a, dx, fs, rfl, ha, q⟩ := h
  rw [Vals.ref1 r]
  obtain ⟨mA, J, _⟩ := ins_get I.hok ha
  obtain ⟨od, J, _⟩ := J.look
  have hr2 : Room n X.A.in1.in1 := (show Room (n + 1) X.A.in1 from Room.in1 hr).in1
  refine wpAny_mono (bool_own (Q := fun b s' => EP X pins σ Q (.bool b) s') I.kIn J hm.at_ hm.fn (wpAny_mono (run_fnA (us := [.ref a]) (vs := [.ref a]) F hr2 I.env0.in1.in1 hb hx I (.cons rfl .nil) q) (fun w s' z => ?_) fun _ _ y => y)) (fun w s' z => ?_) fun _ _ y => y
  · obtain ⟨z', H', I', rz, b, rfl, qz⟩ := z
    cases (show w = Value.bool b from rz)
    exact ⟨.bl b, H', I', rfl, qz⟩
  · obtain ⟨b, rfl, z⟩ := z
    exact z
end
section
variable {α β γ : Type} {r ra : Rp α} {rb : Rp β} {te : TE} {ta tk : TA} {Γ Γ1 : List Sl} {K : PySem.W.Frag} {w : Rw α} {C : Addr} {names : List Str} {x : α} {E : XK}
theorem ev_boolO {m : α → Option Bool} {b : Bool} (h : EvX (rIns C names w) te Γ Γ1 x) (e : m x = some b) : EvX rBool (tCB (rBoolO C (SpP (w1 (rIns C names w)) rBool m) E) (tCons te tNil)) Γ Γ1 b := fun A σ H B F Q q => h A σ H B F _ fun v H1 B1 F1 s1 k1 => by
  obtain ⟨p, dx, vs, rfl, hp, l, kw⟩ := ob_ins F1.bh k1
  exact ⟨p, dx, _, rfl, hp, B1, x, b, F1.szt, F1.bh, ⟨_, rfl, k1⟩, e, fun H3 B3 v3 P k3 => ⟨b, k3, q _ H3 B3 (F1.after P) (s1.trans P.b0) k3⟩⟩
/-! ### the frame's own list, handed over -/
def ers (B : Hp) (p : Addr) : Hp := fun q => if q = p then none else B q
theorem ers_ne {B : Hp} {p q : Addr} (h : q ≠ p) : ers B p q = B q := if_neg h
theorem ers_self {B : Hp} {p : Addr} : ers B p p = none := if_pos rfl
/-- what stands for it never holds a list -/
class NoL {α : Type} (r : Rp α) : Prop where
  no : ∀ {B : Hp} {p : Addr} {vs : List V} {v : V} {a : α}, B p = some (.lst vs) → r.rel B v a → r.rel (ers B p) v a
class NoLW {α : Type} (w : Rw α) : Prop where
  no : ∀ {B : Hp} {p : Addr} {vs us : List V} {a : α}, B p = some (.lst vs) → w.rel B us a → w.rel (ers B p) us a
instance : NoL rInt := ⟨fun _ h => h⟩
instance : NoL rBool := ⟨fun _ h => h⟩
instance : NoL rStr := ⟨fun _ h => h⟩
instance : NoL rNon := ⟨fun _ h => h⟩
instance (r : Rp α) [NoL r] : NoL (rOpt r) := ⟨fun {B p vs v a} hp h => by
  cases a with
  | none => exact h
  | some a => exact ⟨NoL.no hp h.1, h.2⟩⟩
instance : NoLW w0 := ⟨fun _ h => h⟩
instance (r : Rp α) [NoL r] : NoLW (w1 r) := ⟨fun hp ⟨v, e, h⟩ => ⟨v, e, NoL.no hp h⟩⟩
instance (r : Rp α) (w : Rw β) [NoL r] [NoLW w] : NoLW (wC r w) := ⟨fun hp ⟨v, t, e, h, k⟩ => ⟨v, t, e, NoL.no hp h, NoLW.no hp k⟩⟩
theorem paired_no {r : Rp α} [NoL r] {B : Hp} {p : Addr} {vs : List V} (hp : B p = some (.lst vs)) : ∀ {us : List V} {xs : List α}, Paired (r.rel B) us xs → Paired (r.rel (ers B p)) us xs
  | _, _, .nil => .nil
  | _, _, .cons h t => .cons (NoL.no hp h) (paired_no hp t)
instance (r : Rp α) [NoL r] : NoL (rOb (cTpl r)) := ⟨fun {B p vs v a} hp ⟨q, o, e, hq, us, eo, k⟩ => ⟨q, o, e, by
  rw [ers_ne fun z => by rw [z, hp] at hq; cases hq; cases eo]; exact hq, us, eo, paired_no hp k⟩⟩
instance (w : Rw α) [NoLW w] : NoL (rOb (cTup w)) := ⟨fun {B p vs v a} hp ⟨q, o, e, hq, us, eo, k⟩ => ⟨q, o, e, by
  rw [ers_ne fun z => by rw [z, hp] at hq; cases hq; cases eo]; exact hq, us, eo, NoLW.no hp k⟩⟩
instance (C : Addr) (names : List Str) (w : Rw α) [NoLW w] : NoL (rOb (cIns C names w)) := ⟨fun {B p vs v a} hp ⟨q, o, e, hq, dx, us, eo, l, k⟩ => ⟨q, o, e, by
  rw [ers_ne fun z => by rw [z, hp] at hq; cases hq; cases eo]; exact hq, dx, us, eo, l, NoLW.no hp k⟩⟩
instance (C : Addr) (names : List Str) (w : Rw α) [NoLW w] : NoL (rIns C names w) := inferInstanceAs (NoL (rOb (cIns C names w)))
instance (r : Rp α) [NoL r] : NoL (rTpl r) := inferInstanceAs (NoL (rOb (cTpl r)))
instance (w : Rw α) [NoLW w] : NoL (rTup w) := inferInstanceAs (NoL (rOb (cTup w)))
theorem paired_dic {κ : Type} [DecidableEq κ] {rk : Rp κ} {ky : Ky rk} {rv : Rp β} [NoL rv] {B : Hp} {p : Addr} {vs : List V} (hp : B p = some (.lst vs)) : ∀ {us : List (L2.Key × V)} {xs : List (κ × β)}, Paired (DRel ky rv B) us xs → Paired (DRel ky rv (ers B p)) us xs
  | _, _, .nil => .nil
  | _, _, .cons h t => .cons ⟨h.1, NoL.no hp h.2⟩ (paired_dic hp t)
instance {κ : Type} [DecidableEq κ] {rk : Rp κ} (ky : Ky rk) (rv : Rp β) [NoL rv] : NoL (rOb (cDic ky rv)) := ⟨fun {B p vs v a} hp ⟨q, o, e, hq, us, eo, k⟩ => ⟨q, o, e, by
  rw [ers_ne fun z => by rw [z, hp] at hq; cases hq; cases eo]; exact hq, us, eo, paired_dic hp k⟩⟩
/-- the slots as the callee's frame may know them: one own list at a value, no other own object -/
def frz (Γ : List Sl) (i : Nat) (s : Sl) : List Sl := (Γ.map fun x => match x with
  | .imm r a => .imm r a
  | _ => .no).set i s
theorem frz_get {Γ : List Sl} {i j : Nat} {s t : Sl} (h : (frz Γ i s)[j]? = some t) : (i = j ∧ t = s) ∨ (i ≠ j ∧ ∃ u, Γ[j]? = some u ∧ (t = u ∨ t = .no) ∧ plain t) := by
  unfold frz at h
  rcases getset h with ⟨e, e2, _⟩ | ⟨ne, e⟩
  · exact .inl ⟨e, e2⟩
  · right
    refine ⟨ne, ?_⟩
    rw [List.getElem?_map] at e
    cases q : Γ[j]? with
    | none => rw [q] at e; cases e
    | some u =>
      rw [q] at e
      refine ⟨u, rfl, ?_⟩
      cases u with
      | no => cases e; exact ⟨.inr rfl, trivial⟩
      | imm r a => cases e; exact ⟨.inl rfl, trivial⟩
      | cel p c a => cases e; exact ⟨.inr rfl, trivial⟩
      | tre v c a => cases e; exact ⟨.inr rfl, trivial⟩
theorem frz_in {A : Amb} {σ : L2.St} {H B : Hp} {i : Nat} {p : Addr} {xs : List α} (F : Frm A σ H B Γ) (hi : Γ[i]? = some (.cel p (cLst r) xs)) : ∃ vs, B p = none ∧ H p = some (.lst vs) ∧
    Frm ⟨upd B p (.lst vs), H, fun _ => False, fun _ => True, fun _ _ _ _ => trivial⟩ σ H (upd B p (.lst vs)) (frz Γ i (.imm (rLst r) xs)) := by
  obtain ⟨ev, hBp, hm, o, ho, vs, rfl, kv⟩ := F.sl i _ hi
  have hB : Same B (upd B p (.lst vs)) := fun b u e => by rw [upd_ne (ne_of_none e hBp)]; exact e
  refine ⟨vs, hBp, ho, ?_⟩
  have hs : Same (upd B p (.lst vs)) H := fun b u e => by
    by_cases hb : b = p
    · subst hb; rw [upd_same] at e; cases e; exact ho
    · rw [upd_ne hb] at e; exact F.bh b u e
  refine ⟨⟨hs, Same.refl _, fun _ _ _ _ e => e, fun _ _ e => e, fun _ e => e, hs, ⟨fun _ z => z.elim, fun _ z => z.elim, fun _ m n => F.tb.ne n m⟩, trivial, F.sz, F.tb.fix hB (F.tb.nt ho fun _ z => nomatch z)⟩, by unfold frz; rw [List.length_set, List.length_map]; exact F.len, fun _ _ => False, fun j s e => ?_, fun _ _ _ z => z.elim, fun _ _ z => z.elim⟩
  · rcases frz_get e with ⟨rfl, rfl⟩ | ⟨ne, u, hu, ht, hc⟩
    · exact ⟨_, ev, p, _, rfl, upd_same, vs, rfl, Paired.monoR hB kv⟩
    · rcases ht with rfl | rfl
      · have hs := F.sl j _ hu
        cases s with
        | no => trivial
        | imm r a => obtain ⟨v, e1, e2⟩ := hs; exact ⟨v, e1, r.mono hB e2⟩
        | cel q c a => cases hc
        | tre q c a => cases hc
      · trivial
theorem TabOk.ers {H B : Hp} {p : Addr} {vs : List V} (t : TabOk H B) (hp : B p = some (.lst vs)) : TabOk H (G.ers B p) := ⟨fun a q m => by
  obtain ⟨ps, e, k, z⟩ := t.at_ a q m
  exact ⟨ps, e, k, fun pos cv hc => by
    obtain ⟨c, e1, e2⟩ := z pos cv hc
    have hb : c ≠ p := fun z => by
      rw [z, hp] at e2
      unfold LamX.CodeO at e2
      cases e2
    exact ⟨c, e1, by rw [ers_ne hb]; exact e2⟩⟩, fun a m => by
  by_cases hb : a = p
  · rw [hb]; exact ers_self
  · rw [ers_ne hb]; exact t.no a m⟩
theorem frz_out {A : Amb} {σ : L2.St} {H B H2 B2 : Hp} {p : Addr} {vs : List V} {Γ' : List Sl} {φ : Hp → Prop} {up : ∀ B B', Same B B' → φ B → φ B'} (F : Frm A σ H B Γ) (hBp : B p = none) (F2 : Frm ⟨upd B p (.lst vs), H, fun _ => False, φ, up⟩ σ H2 B2 Γ') (s2 : Same (upd B p (.lst vs)) B2) :
    B2 p = some (.lst vs) ∧ Same B (ers B2 p) ∧ Frm A σ H2 (ers B2 p) Γ := by
  have hB : Same B (upd B p (.lst vs)) := fun b u e => by rw [upd_ne (ne_of_none e hBp)]; exact e
  have hp2 : B2 p = some (.lst vs) := s2 _ _ upd_same
  have kp : ∀ b u, ¬ isTab b → H b = some u → H2 b = some u := fun b u nt e => F2.keep b u (fun z => z) nt e
  have s3 : Same B (ers B2 p) := fun b u e => by rw [ers_ne (ne_of_none e hBp)]; exact s2 _ _ (hB _ _ e)
  have out : ∀ b, B b = none → H b ≠ none → ers B2 p b = none := fun b e n => by
    by_cases hb : b = p
    · rw [hb]; exact ers_self
    · rw [ers_ne hb]; exact F2.out b n (by show upd B p (.lst vs) b = none; rw [upd_ne hb]; exact e)
  refine ⟨hp2, s3, F.move ⟨fun b u e => ?_, fun b u e => s3 _ _ (F.b0 b u e), fun b u m nt e => kp b u nt (F.keep b u m nt e), fun b n z => out b (F.out b n z) (F.alive b n), fun b n => F2.alive b (F.alive b n), F.sub, F.mh, A.up _ _ s3 F.ph, F2.sz, F2.tb.ers hp2⟩ s3 fun q h => ⟨out q h.1 h.2.1, h.2.2, fun u => kp q u (h.nt F.mh)⟩⟩
  · by_cases hb : b = p
    · rw [hb, ers_self] at e; cases e
    · rw [ers_ne hb] at e; exact F2.bh b u e
theorem ev_frz {i : Nat} {p : Addr} {xs : List α} {b : β} [NoL rb] (hi : Γ[i]? = some (.cel p (cLst r) xs)) (h : EvX rb te (frz Γ i (.imm (rLst r) xs)) (frz Γ i (.imm (rLst r) xs)) b) : EvX rb te Γ Γ b := fun A σ H B F Q q => by
  obtain ⟨vs, hBp, _, F'⟩ := frz_in F hi
  refine h _ σ H _ F' _ fun v H2 B2 F2 s2 k2 => ?_
  obtain ⟨h1, h2, h3⟩ := frz_out F hBp F2 s2
  exact q v H2 _ h3 h2 (NoL.no h1 k2)
theorem et_frz {tt : TT} {i : Nat} {p : Addr} {xs : List α} {b : Bool} (hi : Γ[i]? = some (.cel p (cLst r) xs)) (h : EvT tt (frz Γ i (.imm (rLst r) xs)) (frz Γ i (.imm (rLst r) xs)) b) : EvT tt Γ Γ b := fun A σ H B F Q q => by
  obtain ⟨vs, hBp, _, F'⟩ := frz_in F hi
  refine h _ σ H _ F' _ fun H2 B2 F2 s2 => ?_
  obtain ⟨h1, h2, h3⟩ := frz_out F hBp F2 s2
  exact q H2 _ h3 h2
theorem ev_bool1 {b : Bool} (h : EvX rBool te Γ Γ1 b) : EvX rBool (tCB (fun xs H Q => (∃ i, xs = [.int i] ∧ Q (.bl (i != 0)) H) ∨ ∃ k, xs = [.bl k] ∧ Q (.bl k) H) (tCons te tNil)) Γ Γ1 b := ev_B1 h fun H B u _ s k Q q => .inr ⟨b, by rw [show u = _ from k], q _ rfl⟩
/-- isinstance of a number that may be missing -/
theorem ev_isiO {t v : Value} {c : V} {k : Bool} {o : Option α} (h : EvX (rOpt r) te Γ Γ1 o) (ty : TyR K r t) (hc : ClsV c v) (kit : PySem.W.kitOne K t v = some k) (kn : PySem.W.kitOne K (.type "NoneType") v = some false) : EvX rBool (tCB (rIsi K) (tCons te (tCons (tC c) tNil))) Γ Γ1 (o.isSome && k) := fun A σ H B F Q q =>
  h A σ H B F _ fun x H1 B1 F1 s1 k1 => by
    cases o with
    | none => exact ⟨x, c, _, v, false, rfl, hc, ty_non _ _ () (show x = V.non from k1), kn, q _ _ _ F1 s1 rfl⟩
    | some a => exact ⟨x, c, t, v, k, rfl, hc, ty _ _ _ (r.mono F1.bh k1.1), kit, q _ _ _ F1 s1 rfl⟩
/-! ### classes called with keywords alone -/
def gP (idx : List Nat) {α : Type} (us _ds ws : List α) : List α := us ++ idx.filterMap fun i => ws[i]?
theorem vals_get {vs : List V} {us : List Value} (h : Vals vs us) (i : Nat) : (∃ v u, vs[i]? = some v ∧ us[i]? = some u ∧ RelV v u) ∨ (vs[i]? = none ∧ us[i]? = none) := by
  induction h generalizing i with
  | nil => right; simp
  | cons hd tl ih =>
    cases i with
    | zero => left; exact ⟨_, _, rfl, rfl, hd⟩
    | succ i => simpa using ih i
theorem gP_rel (idx : List Nat) {vs ds zs : List V} {us its ws : List Value} (h : Vals vs us) (_ : Vals ds its) (k : Vals zs ws) : Vals (gP idx vs ds zs) (gP idx us its ws) := by
  unfold gP
  refine Paired.app h ?_
  induction idx with
  | nil => exact .nil
  | cons i l ih =>
    rcases vals_get k i with ⟨v, u, e1, e2, q⟩ | ⟨e1, e2⟩
    · rw [List.filterMap_cons_some e1, List.filterMap_cons_some e2]; exact .cons q ih
    · rw [List.filterMap_cons_none e1, List.filterMap_cons_none e2]; exact ih
def KApp (n : Nat) (idx : List Nat) {γ : Type} (wk : Rw α) (w : Rw γ) (f : α → γ) : Prop := ∀ B zs a, wk.rel B zs a → zs.length = n ∧ w.rel B (idx.filterMap fun i => zs[i]?) (f a)
theorem ev_makeK {n : Nat} {idx : List Nat} {wk : Rw α} {w : Rw γ} {wb : Rw β} {dvs : List V} {f : α → γ} {m : γ → Option β} {a : α} {b : β} (h : EvW wk tk Γ Γ1 a) (d : KApp n idx wk w f) (e : m (f a) = some b) : EvX (rIns C names wb) (tMakeK C 0 n (SpJ C w (cIns C names wb) m) (fun vs zs => gP idx vs dvs zs) E tNil tk) Γ Γ1 b := fun A σ H B F Q q => by
  refine h A σ H B F _ fun vs H1 B1 F1 s1 k1 => ?_
  obtain ⟨d1, d2⟩ := d B1 vs a k1
  refine ⟨rfl, d1, fun y dy hy hd ne => ?_⟩
  obtain ⟨p1, p2, p3, p4⟩ := made_pre (C := C) F1 hy hd ne
  refine ⟨y, dy, idx.filterMap fun i => vs[i]?, upd B1 dy (.own y), f a, b, rfl, upd_same, p3, p1, p2, w.mono p4 d2, e, fun H2 B2 P ⟨o, ho, k⟩ => ⟨rfl, ?_⟩⟩
  have F2 := made_frame (A := A) F1 hy hd ne P ho
  have F3 := F2.adopt (F1.H0none hy) F1.sub F1.mh
  have hB2 : B2 y = none := P.out y (by show upd (upd H1 dy (.own y)) y (.ins C dy []) y ≠ none; rw [upd_same]; simp) p3.1
  have s3 : Same B2 (upd B2 y o) := fun q u e => by rw [upd_ne (ne_of_none e hB2)]; exact e
  exact q _ _ _ F3 (s1.trans (p4.trans (P.b0.trans s3))) ⟨y, o, rfl, upd_same, (cIns C names wb).mono s3 k⟩
end
end G

set_option maxHeartbeats 4000000
/-! # G: texts of numbers and of instances, f-strings, stars in displays -/
namespace G
variable [TabL]
open PySem PySem.Spec PyProof.Rows L2
section
variable {X : Cx} {CX : CXT} {C f : Addr} {fd : FuncData} {ps : List Str} {n : Nat} {sp : Sp} {E : XK} {K : PySem.W.Frag}
def rStrO (C : Addr) (sp : Sp) (E : XK) : List V → Hp → VK → Prop := fun xs H Q => ∃ a dx fs, xs = [V.ref a] ∧ H a = some (.ins C dx fs) ∧ sp [.ref a] H (fun z H' => ∃ b, z = .str b ∧ Q z H') E
theorem call_strO (hm : Meth X.K C "__str__" f) (F : FnOk X.prog X.w X.K X.mg X.base CX n f fd ps sp) (hr : Room (n + 2) X.A) (hb : Binds X.K fd ps []) (hx : Passes CX X E) : CallR X (.type "str") (rStrO C sp E) := by
  intro pins s σ H xs us Q I r h
  obtain ⟨a, dx, fs, rfl, ha, q⟩ := h
  rw [Vals.ref1 r]
  obtain ⟨mA, J, _⟩ := ins_get I.hok ha
  obtain ⟨od, J, _⟩ := J.look
  have hr2 : Room n X.A.in1.in1 := (show Room (n + 1) X.A.in1 from Room.in1 hr).in1
  refine PySem.W.kso_call hr2.units0 I.kIn J hm.at_ hm.fn (wpAny_mono (run_fnA (us := [.ref a]) (vs := [.ref a]) F hr2 I.env0.in1.in1 hb hx I (.cons rfl .nil) q) (fun w s' z => ?_) fun _ _ y => y)
  obtain ⟨z', H', I', rz, b, rfl, qz⟩ := z
  obtain ⟨t, rfl⟩ := (show ∃ t, w = Value.str b t from rz)
  exact ⟨.str b, H', I', ⟨t, rfl⟩, qz⟩
end
section
variable {α β γ : Type} {r ra : Rp α} {rb : Rp β} {te : TE} {ta tr : TA} {Γ Γ1 Γ2 : List Sl} {K : PySem.W.Frag} {w : Rw α} {C : Addr} {names : List Str} {x : α} {E : XK}
theorem ev_strO {m : α → Option Str} {b : Str} (h : EvX (rIns C names w) te Γ Γ1 x) (e : m x = some b) : EvX rStr (tCB (rStrO C (SpP (w1 (rIns C names w)) rStr m) E) (tCons te tNil)) Γ Γ1 b := fun A σ H B F Q q => h A σ H B F _ fun v H1 B1 F1 s1 k1 => by
  obtain ⟨p, dx, vs, rfl, hp, l, kw⟩ := ob_ins F1.bh k1
  exact ⟨p, dx, _, rfl, hp, B1, x, b, F1.szt, F1.bh, ⟨_, rfl, k1⟩, e, fun H3 B3 v3 P k3 => ⟨b, k3, q _ H3 B3 (F1.after P) (s1.trans P.b0) k3⟩⟩
def pyStrI (i : Int) : Option Str := if i.natAbs.log2 < 1920 then some (toString i : String) else none
theorem ev_strI {i : Int} {z : Str} (h : EvX rInt te Γ Γ1 i) (e : pyStrI i = some z) : EvX rStr (tCB (fun xs H Q => ∃ i, xs = [.int i] ∧ i.natAbs.log2 < 1920 ∧ Q (.str (toString i)) H) (tCons te tNil)) Γ Γ1 z := by
  unfold pyStrI at e; split at e <;> cases e
  exact ev_B1 h fun H B u _ s k Q q => ⟨i, by rw [show u = _ from k], by assumption, q _ rfl⟩
def pyFmt (z : Str) : Option Str := if z.length ≤ 1000000 then some z else none
theorem ev_fmt {z y : Str} (h : EvX rStr te Γ Γ1 z) (e : pyFmt z = some y) : EvX rStr (tFmt te) Γ Γ1 y := by
  unfold pyFmt at e; split at e <;> cases e
  exact fun A σ H B F Q q => h A σ H B F _ fun v H1 B1 F1 s1 k1 => .inl ⟨z, k1, line_big (by assumption), q _ H1 B1 F1 s1 rfl⟩
theorem eh_S {xs ys : List α} (h : EvX (rLst r) te Γ Γ1 xs) (hr : EvH r tr Γ1 Γ2 ys) : EvH r (StX.tStar K te tr) Γ Γ2 (xs ++ ys) := fun A σ H B F Q q =>
  h A σ H B F _ fun v H1 B1 F1 s1 k1 => by
    obtain ⟨p, vs, rfl, hp, kv⟩ := ob_lst F1.bh k1
    exact ⟨p, vs, rfl, .inr (SqL.of hp), hr A σ H1 B1 F1 _ fun us H2 B2 F2 s2 k2 => q _ H2 B2 F2 (s1.trans s2) (Paired.app (Paired.monoR s2 kv) k2)⟩
def lim4 (xs : List α) : Option (List α) := if xs.length ≤ 1000 then some xs else none
theorem ec_lstS {xs ys : List α} (h : EvH r ta Γ Γ1 xs) (e : lim4 xs = some ys) : EvC (cLst r) (tLst ta) Γ Γ1 ys := by
  unfold lim4 at e; split at e <;> cases e
  exact ec_lst h (by assumption)
end
end G

set_option maxHeartbeats 4000000
/-! # G: lists turned round, parts of the script, sorted numbers, max, min, own lists returned -/
namespace G
variable [TabL]
open PySem PySem.Spec PyProof.Rows L2
section
variable {α β γ : Type} {r ra : Rp α} {rb : Rp β} {c : Cl α} {cc : Cl γ} {te : TE} {ta : TA} {Γ Γ1 Γ2 Γ3 : List Sl} {K : PySem.W.Frag} {xs : List α} {i j : Nat} {p p0 : Addr} {A : Amb} {D : Ends} {u : TS} {a : α} {b : α} {st : γ}
theorem paired_rev {R : V → α → Prop} : ∀ {vs : List V} {xs : List α}, Paired R vs xs → Paired R vs.reverse xs.reverse
  | _, _, .nil => .nil
  | _, _, .cons h t => by rw [List.reverse_cons, List.reverse_cons]; exact Paired.app (paired_rev t) (.cons h .nil)
theorem ec_revL (h : EvX (rLst r) te Γ Γ1 xs) : EvC (cLst r) (tRevL K te) Γ Γ1 xs.reverse := fun A σ H B F Q q => h A σ H B F _ fun v H1 B1 F1 s1 k1 => by
  obtain ⟨p, vs, rfl, hp, kv⟩ := ob_lst F1.bh k1
  exact ⟨p, vs, rfl, SqL.of hp, fun l hl => ec_fresh (c := cLst r) (o := .lst vs.reverse) F1 hl (by show vs.reverse.length ≤ _; rw [List.length_reverse]; exact F1.sz _ _ hp) (fun p o H2 B2 F2 n2 s4 k2 => q p o H2 B2 F2 n2 (s1.trans s4) k2) ⟨_, rfl, paired_rev kv⟩⟩
def pyCutC (ns : List Int) (lo hi : Option Int) : Option (List Int) := if ns.length ≤ 100000 then some (cut ns lo hi) else none
theorem ec_slC {lo hi : Option Int} {tl th : TO} {ns l : List Int} (h : EvX (rScr K) te Γ Γ1 ns) (hl : EvO tl Γ1 Γ2 lo) (hh : EvO th Γ2 Γ3 hi) (e : pyCutC ns lo hi = some l) : EvC (cLst rInt) (L2.tSl (rSlL K) te tl th) Γ Γ3 l := by
  unfold pyCutC at e; split at e <;> cases e
  rename_i hn
  exact fun A σ H B F Q q => h A σ H B F _ fun v H1 B1 F1 s1 k1 => hl A σ H1 B1 F1 _ fun H2 B2 F2 s2 => hh A σ H2 B2 F2 _ fun H3 B3 F3 s3 => by
    obtain ⟨a, rfl, ha⟩ := k1
    have hq := Same.seq F3.bh (Same.seq (s2.trans s3) ha)
    refine ⟨a, _, rfl, hq, fun l hl => ec_fresh (c := cLst rInt) (o := .lst (cutV (ns.map V.int) lo hi)) F3 hl ?_ (fun p o H2 B2 F2 n2 s4 k2 => q p o H2 B2 F2 n2 (((s1.trans s2).trans s3).trans s4) k2) ⟨_, rfl, paired_cut (paired_ints ns B3)⟩⟩
    refine Nat.le_trans (cut_len lo hi _) ?_
    rw [List.length_map]
    exact Nat.le_trans hn (by decide)
def isortI (xs : List Int) : List Int := xs.mergeSort (fun a b => decide (a ≤ b))
theorem isortI_perm (xs : List Int) : (isortI xs).Perm xs := List.mergeSort_perm _ _
theorem isortI_asc (xs : List Int) : (isortI xs).Pairwise (· ≤ ·) := by
  have h := List.pairwise_mergeSort (le := fun a b : Int => decide (a ≤ b)) (fun a b c h1 h2 => by simp at *; omega) (fun a b => by simp; omega) xs
  exact h.imp fun q => by simpa using q
theorem isort_eq {xs ys : List Int} (h1 : ys.Perm xs) (h2 : ys.Pairwise (· ≤ ·)) : ys = isortI xs :=
  List.Perm.eq_of_pairwise (fun a b _ _ h1 h2 => by omega) h2 (isortI_asc xs) (h1.trans (isortI_perm xs).symm)
theorem ec_sortI {xs : List Int} (h : EvX (rLst rInt) te Γ Γ1 xs) : EvC (cLst rInt) (tCB (rSortedI K) (tCons te tNil)) Γ Γ1 (isortI xs) := ec_B1 h fun H B u z s k Q q => by
  obtain ⟨p, vs, rfl, hp, kv⟩ := ob_lst s k
  have ev : vs = xs.map V.int := Paired.mapEq (fun a b h => h) kv
  refine ⟨p, xs, rfl, by rw [← ev]; exact SqL.of hp, fun ns l h1 h2 hl => ?_⟩
  rw [isort_eq h1 h2]
  refine q l _ hl ?_ ⟨_, rfl, paired_ints _ B⟩
  show ((isortI xs).map V.int).length ≤ _
  rw [List.length_map, (isortI_perm xs).length_eq, ← Paired.len kv]
  exact z p _ hp
theorem foldl_max_mem : ∀ (t : List Int) (n : Int), t.foldl max n ∈ n :: t ∧ ∀ y ∈ n :: t, y ≤ t.foldl max n
  | [], n => ⟨by simp, fun y hy => by rw [List.mem_singleton.mp hy]; exact Int.le_refl _⟩
  | x :: xs, n => by
    obtain ⟨h1, h2⟩ := foldl_max_mem xs (max n x)
    rw [List.foldl_cons]
    have hm := h2 (max n x) List.mem_cons_self
    refine ⟨?_, fun y hy => ?_⟩
    · rcases List.mem_cons.mp h1 with h | h
      · rw [h]
        by_cases c : n ≤ x
        · rw [show max n x = x by omega]; simp
        · rw [show max n x = n by omega]; simp
      · exact List.mem_cons_of_mem _ (List.mem_cons_of_mem _ h)
    · rcases List.mem_cons.mp hy with rfl | hy
      · omega
      · rcases List.mem_cons.mp hy with rfl | hy
        · omega
        · exact h2 y (List.mem_cons_of_mem _ hy)
theorem foldl_min_mem : ∀ (t : List Int) (n : Int), t.foldl min n ∈ n :: t ∧ ∀ y ∈ n :: t, t.foldl min n ≤ y
  | [], n => ⟨by simp, fun y hy => by rw [List.mem_singleton.mp hy]; exact Int.le_refl _⟩
  | x :: xs, n => by
    obtain ⟨h1, h2⟩ := foldl_min_mem xs (min n x)
    rw [List.foldl_cons]
    have hm := h2 (min n x) List.mem_cons_self
    refine ⟨?_, fun y hy => ?_⟩
    · rcases List.mem_cons.mp h1 with h | h
      · rw [h]
        by_cases c : n ≤ x
        · rw [show min n x = n by omega]; simp
        · rw [show min n x = x by omega]; simp
      · exact List.mem_cons_of_mem _ (List.mem_cons_of_mem _ h)
    · rcases List.mem_cons.mp hy with rfl | hy
      · omega
      · rcases List.mem_cons.mp hy with rfl | hy
        · omega
        · exact h2 y (List.mem_cons_of_mem _ hy)
theorem ev_max1 {xs : List Int} {m : Int} (h : EvX (rLst rInt) te Γ Γ1 xs) (e : pyMaxN xs = some m) : EvX rInt (tCB (rMax K) (tCons te tNil)) Γ Γ1 m := ev_B1 h fun H B u _ s k Q q => by
  obtain ⟨p, vs, rfl, hp, kv⟩ := ob_lst s k
  have ev : vs = xs.map V.int := Paired.mapEq (fun a b h => h) kv
  cases xs with
  | nil => cases e
  | cons n t =>
    cases e
    obtain ⟨h1, h2⟩ := foldl_max_mem t n
    refine ⟨p, n :: t, rfl, by rw [← ev]; exact SqL.of hp, by simp, fun m hm hy => ?_⟩
    have := hy _ h1
    have := h2 _ hm
    exact q _ (by rw [show m = t.foldl max n by omega]; rfl)
theorem ev_min1 {xs : List Int} {m : Int} (h : EvX (rLst rInt) te Γ Γ1 xs) (e : pyMinN xs = some m) : EvX rInt (tCB (rMin K) (tCons te tNil)) Γ Γ1 m := ev_B1 h fun H B u _ s k Q q => by
  obtain ⟨p, vs, rfl, hp, kv⟩ := ob_lst s k
  have ev : vs = xs.map V.int := Paired.mapEq (fun a b h => h) kv
  cases xs with
  | nil => cases e
  | cons n t =>
    cases e
    obtain ⟨h1, h2⟩ := foldl_min_mem t n
    refine ⟨p, n :: t, rfl, by rw [← ev]; exact SqL.of hp, by simp, fun m hm hy => ?_⟩
    have := hy _ h1
    have := h2 _ hm
    exact q _ (by rw [show m = t.foldl min n by omega]; rfl)
theorem pe_revLK {X : Cx} {e : Expr} {te : TE} {k : Nat} {p1 p2 p3 pos : Pos} (hK : X.K = K) (he : PE X e te) : PE X (.Subscript e (.Slice none none (some (.UnaryOp .USub (.Constant (.int 1) k p1) p2)) p3) pos) (tRevL K te) := by subst hK; exact pe_revL he
theorem sortIK {X : Cx} (hK : X.K = K) : CallR X (.builtin "sorted") (rSortedI K) := by subst hK; exact cr_sortedI
theorem maxK {X : Cx} (hK : X.K = K) (hc : X.calm = true) : CallR X (.builtin "max") (rMax K) := by subst hK; exact cr_max hc
theorem minK {X : Cx} (hK : X.K = K) (hc : X.calm = true) : CallR X (.builtin "min") (rMin K) := by subst hK; exact cr_min hc
/-! ### the frame's own object is returned -/
theorem post_own {σ : L2.St} {H B : Hp} (F : Frm A σ H B Γ) (hi : Γ[i]? = some (.cel p c a)) (hm : ¬ A.m p) : ∃ o, H p = some o ∧ σ[i]? = some (some (V.ref p)) ∧ Same B (upd B p o) ∧ Post A H (upd B p o) ∧ (rOb c).rel (upd B p o) (.ref p) a := by
  obtain ⟨e1, n, m, o, ho, k⟩ := F.sl i _ hi
  have h0 : A.H0 p = none := m.resolve_right hm
  have s : Same B (upd B p o) := fun b u e => by rw [upd_ne (ne_of_none e n)]; exact e
  refine ⟨o, ho, e1, s, ⟨fun b u e => ?_, fun b u e => s _ _ (F.b0 b u e), F.keep, fun b hb z => ?_, F.alive, F.sub, F.mh, A.up _ _ s F.ph, F.sz, F.tb.fix s (Hot.nt (F.hot hi rfl) F.mh)⟩, p, o, rfl, upd_same, c.mono s k⟩
  · by_cases hb : b = p
    · subst hb; rw [upd_same] at e; cases e; exact ho
    · rw [upd_ne hb] at e; exact F.bh b u e
  · have hbp : b ≠ p := fun q => hb (by rw [q]; exact h0)
    rw [upd_ne hbp]; exact F.out b hb z
theorem sq_retCel (hi : Γ[i]? = some (.cel p c a)) (hm : ∀ q, ¬ A.m q) (e : some a = some b) (k : Rt A (psi (rOb c)) b D.rt) : Nx A (tSeq (tRet (tVar i)) u D) Γ := fun σ H B F => by
  cases e
  obtain ⟨o, ho, e1, s, P, q⟩ := post_own F hi (hm p)
  exact ⟨_, e1, k H _ _ P q⟩
theorem sq_retCelS {st : γ} {b : α × γ} (hi : Γ[i]? = some (.cel p c a)) (hj : Γ[j]? = some (.cel p0 cc st)) (ne : i ≠ j) (hm : ∀ q, A.m q → q = p0) (e : some (a, st) = some b) (k : Rt A (psiS p0 cc (rOb c)) b D.rt) : Nx A (tSeq (tRet (tVar i)) u D) Γ := fun σ H B F => by
  cases e
  have hp : ¬ A.m p := fun z => ne (F.ds i j p (by rw [hi]; rfl) (by rw [hj, ← hm p z]; rfl))
  obtain ⟨o, ho, e1, s, P, q⟩ := post_own F hi hp
  obtain ⟨_, _, _, o2, h2, k2⟩ := F.sl j _ hj
  exact ⟨_, e1, k H _ _ P ⟨q, o2, h2, cc.mono s k2⟩⟩
end
end G

set_option maxHeartbeats 4000000
/-! # G: sorted(set(xs)), xs of any number, of which fewer than 64 are different -/
namespace G
variable [TabL]
open PySem PySem.Spec PyProof.Rows L2
theorem nodup_len : ∀ {a b : List Int}, a.Nodup → (∀ z ∈ a, z ∈ b) → a.length ≤ b.length
  | [], _, _, _ => Nat.zero_le _
  | x :: xs, b, hn, h => by
    have hn' := List.nodup_cons.mp hn
    have hx := h x List.mem_cons_self
    have ih := nodup_len (a := xs) (b := b.erase x) hn'.2 fun z hz => (List.mem_erase_of_ne fun e => hn'.1 (by rw [← e]; exact hz)).mpr (h z (List.mem_cons_of_mem _ hz))
    rw [List.length_erase_of_mem hx] at ih
    have := List.length_pos_of_mem hx
    rw [List.length_cons]; omega
theorem asc_nodup {a : List Int} (h : a.Pairwise (· < ·)) : a.Nodup := h.imp fun h e => by omega
theorem sset_count {xs ks : List Int} (hn : ks.Nodup) (h : ∀ k, k ∈ ks ↔ k ∈ xs) : ks.length = (sset xs).length :=
  Nat.le_antisymm (nodup_len hn fun z hz => sset_mem.mpr ((h z).mp hz)) (nodup_len (asc_nodup (sset_asc xs)) fun z hz => (h z).mpr (sset_mem.mp hz))
def pySS2 (xs : List Int) : Option (List Int) := if xs.length < 1000 ∧ (sset xs).length < 64 then some (sset xs) else none
def rSetI2 (K : PySem.W.Frag) (w : World) : List V → Hp → VK → Prop := fun vs H Q => ∃ (a : Addr) (ns : List Int), vs = [V.ref a] ∧ SqL K H a (ns.map V.int) ∧ ns.length < 1000 ∧ ∀ (p : Addr), H p = none → Q (.ref p) (upd H p (SetO w p (fun x => decide (x ∈ ns)) (sset ns).length))
theorem cr_setI2 {X : Cx} {K : PySem.W.Frag} (hK : X.K = K) (hc : X.calm = true) : CallR X (.type "set") (rSetI2 K X.w) := by
  subst hK
  intro pins s σ H vs us Q I r h
  obtain ⟨a, ns, rfl, hs, hl, q⟩ := h
  obtain ⟨its, rv, pl, hz⟩ := I.list hs
  rw [Vals.ref1 r]
  have hsz : its.toArray.size = ns.length := by rw [List.size_toArray, ← rv.length, List.length_map]
  refine seti_of_list (I.ok.hd hc) pl.isList hsz (by omega) (fun i v e => by
    obtain ⟨x, t, h1, h2⟩ := val_int rv i v (by simpa using e)
    exact ⟨x, t, h1, h2⟩) fun g tk c R le kp => ?_
  have hc : c = (sset ns).length := by
    obtain ⟨o, es, ep, t, _, _, _, _, nd, mem, _, _, sz, _⟩ := R
    rw [← sz, ← sset_count (xs := ns) nd fun k => by rw [← mem k, decide_eq_true_eq], List.length_map, Array.length_toList]
  subst hc
  have J : Inv X pins σ (upd H s.heap.objs.size (SetO X.w s.heap.objs.size (fun x => decide (x ∈ ns)) (sset ns).length)) { s with heap := g, toks := tk } :=
    I.laid (t' := tk) kp (Nat.le_refl _) (setO_new R)
  exact ⟨.ref s.heap.objs.size, _, J, rfl, q _ (I.hok.fresh (Nat.le_refl _))⟩
section
variable {te : TE} {Γ Γ1 : List Sl} {K : PySem.W.Frag} {xs ys : List Int} {wd : World}
theorem ec_sortSet2 (h : EvX (rLst rInt) te Γ Γ1 xs) (e : pySS2 xs = some ys) : EvC (cLst rInt) (tCB (rSortedSet wd) (tCons (tCB (rSetI2 K wd) (tCons te tNil)) tNil)) Γ Γ1 ys := fun A σ H B F Q q => by
  unfold pySS2 at e
  split at e
  · rename_i hl
    cases e
    refine h A σ H B F _ fun v H1 B1 F1 s1 k1 => ?_
    obtain ⟨p, vs, rfl, hp, k⟩ := ob_lst F1.bh k1
    refine ⟨p, xs, rfl, ?_, hl.1, fun p0 h0 => ?_⟩
    · rw [show xs.map V.int = vs from (fl_int.vals k).symm]; exact SqL.of hp
    · have F2 := (F1.fresh h0 (o := SetO wd p0 (fun x => decide (x ∈ xs)) (sset xs).length) trivial).drop (F1.H0none h0) F1.sub F1.mh
      refine ⟨p0, _, _, rfl, upd_same, hl.2, fun ns p1 asc mem len h1 => ?_⟩
      have en : ns = sset xs := asc_eq asc (sset_asc xs) fun z => by rw [mem z, sset_mem, decide_eq_true_eq]
      subst en
      refine ec_fresh (c := cLst rInt) (o := .lst ((sset xs).map V.int)) F2 h1 ?_ (fun p o H' B' F' n' s' k' => q p o H' B' F' n' (s1.trans s') k') ⟨_, rfl, paired_ints _ _⟩
      show ((sset xs).map V.int).length ≤ sizeLine
      rw [List.length_map]
      exact Nat.le_trans (Nat.le_of_lt hl.2) (by decide)
  · cases e
end
end G

set_option maxHeartbeats 4000000
/-! # G: x != y by an own __eq__ -/
namespace G
variable [TabL]
open PySem PySem.Spec PyProof.Rows L2
section
variable {prog : Program} {w : World} {A : Around} {E : Value → Shared → Prop} {s : Shared} {K : PySem.W.Frag} {x C f L : Addr} {h₀ : Heap} {m : Str → Option Value} {ox : Obj} {odd : Option Obj} {b tb : Value}
theorem ne_bind (self : Value) : bindSpecial (.builtin "object.__ne__") self = pure (.builtin "object.__ne__", [self]) :=
  (Slot.of (T := "object") (name := "__ne__") (owner := "object") (n := "__ne__") (by rw [typeLookup_type, builtinLookup_eq_fast]; kernel_rfl) (by decide +kernel) (by decide +kernel) (by decide +kernel)
    (.inl (by decide +kernel)) (by rw [isSubtype_type]; kernel_rfl)).bind self
theorem ne_plain : plainId "object.__ne__" = true := by decide +kernel
theorem objNe_own (X : K.In s.heap) (I : PySem.W.InstAt s.heap x ox C odd) (hs : PySem.W.findIn K (.ref C) "__eq__" = some (some (.ref f))) (hf : PySem.W.isFn K (.ref f) = true) (hu : A.units < cLine) {Q : PySem.Fin → Shared → Prop}
    (h : wpAny (model prog w) A (call (.ref f) [.ref x, b]) (fun v s' => ∃ c, v = .bool c ∧ Q (.done (.ret (.bool (!c)))) s') E s) :
    wpAny (model prog w) A (Builtin.«object.__ne__» ⟨[.ref x, b], []⟩) Q E s := by
  unfold Builtin.«object.__ne__»
  repeat (first
    | with_reducible refine wpAny_cRoomFor hu ?_
    | (refine wpAny_bind (m := callSpecialIfBound? (.ref x) (Str.ofString "__eq__") [b])
        (PySem.W.ifBound_K X I hs hf (wpAny_mono h (fun r s' hr => by
          obtain ⟨c, rfl, hq⟩ := hr
          repeat (first | exact hq | exact wpAny_pure hq | exact wpAny_truthy_bool hq | (refine wpAny_bind (m := truthy (.bool _)) (wpAny_truthy_bool ?_)) | wp_step)) fun _ _ e => e)))
    | wp_step)
theorem ne_K {Q : Value → Shared → Prop} (hu : A.units + 1 < cLine) (Fq : PyProof.Rows.Fr h₀ L s.heap m) (X₀ : K.In h₀) (I : PySem.W.InstAt s.heap x ox C odd) (hb : PySem.W.Looks (model prog w) s.heap (typeOf b) tb) (hn : PySem.W.notFirst K C tb = true)
    (hne : PySem.W.findIn K (.ref C) "__ne__" = some (some (.builtin "object.__ne__"))) (ho : PySem.W.plainOver K C = true)
    (hs : PySem.W.findIn K (.ref C) "__eq__" = some (some (.ref f))) (hf : PySem.W.isFn K (.ref f) = true)
    (h : wpAny (model prog w) A.in1 (call (.ref f) [.ref x, b]) (fun v s' => ∃ c, v = .bool c ∧ Q (.bool (!c)) s') E s) : wpAny (model prog w) A (richCompare .NotEq (.ref x) b) Q E s := by
  have X := X₀.keeps Fq.keep
  obtain ⟨cd, hc, ho'⟩ := PySem.W.any_some ho
  have ne : cd.mro.isEmpty = false := by cases q : cd.mro with | nil => rw [q] at ho'; cases ho' | cons _ _ => rfl
  have sub : PySem.W.Looks (model prog w) s.heap (isInstance (.ref x) (.type "object")) true := I.type.andThen (PySem.W.looks_mroIn X (by unfold PySem.W.mroIn; rw [hc, Option.bind_some, if_neg (by rw [ne]; decide), PySem.W.only_has ho']))
  have run : wpAny (model prog w) A (call (.builtin "object.__ne__") ([.ref x] ++ [b])) (fun v s' => ∃ c, v = Value.bool c ∧ Q (.bool c) s') E s := by
    refine wpAny_call (codeAny_call_builtin ne_plain F.cmpEntry_ne (@PySem.W.check_slot (model prog w) _ _ s "object.__ne__" "object" "__ne__" (.ref x) [b] [] _ F.cmpKind_ne F.cmpSplit_ne sub (F.cmpArgs_ne _ _) ?_))
    refine objNe_own (A := A.in1) X I hs hf hu (wpAny_mono h (fun v s' hv => ?_) fun _ _ e => e)
    obtain ⟨c, rfl, hq⟩ := hv
    exact ⟨c, rfl, _, rfl, hq⟩
  have one : wpAny (model prog w) A (tryCompare (.ref x) "__ne__" b) (fun r s' => ∃ v, r = some v ∧ Q v s') E s := by
    simp only [tryCompare]
    refine wpAny_bind ?_
    simp only [callSpecialIfBound?, bindSpecialIfBound?]
    refine wpAny_holding (wpAny_bind (wpAny_bind (wpAny_bind (I.type.here ((PySem.W.looks_findIn X hne).here ?_)))))
    simp only [ne_bind]
    refine wpAny_bind (wpAny_askSetting (wpAny_ite ?_))
    have fin : ∀ R : Option Value → Shared → Prop, (∀ c s', Q (.bool c) s' → R (some (.bool c)) s') → wpAny (model prog w) A (call (.builtin "object.__ne__") ([.ref x] ++ [b]) >>= fun v => pure (some v)) R E s := fun R hR => by
      refine wpAny_bind (wpAny_mono run (fun v s' hv => ?_) fun _ _ e => e)
      obtain ⟨c, rfl, hq⟩ := hv
      exact wpAny_pure (hR _ _ hq)
    split
    · exact wpAny_bind (wpAny_pure (wpAny_pure (by exact fin _ fun c s' hq => wpAny_pure ⟨_, rfl, hq⟩)))
    · exact wpAny_tryCatch (wpAny_bind (wpAny_pure (wpAny_pure (by exact fin _ fun c s' hq => wpAny_pure ⟨_, rfl, hq⟩))))
  unfold richCompare
  simp only [oneThing_ref]
  refine wpAny_holding (wpAny_bind (wpAny_cRoomFor (Nat.lt_of_succ_lt hu) ?_))
  rw [cmpInfo_NotEq]
  dsimp only
  refine wpAny_bind (I.type.here (wpAny_bind (hb.here ?_)))
  split
  · rename_i q
    have e : PySem.W.subIn K tb (.ref C) = some false := by
      rcases Bool.or_eq_true_iff.mp hn with e | e
      · rw [beq_iff_eq.mp e] at q; simp at q
      · exact beq_iff_eq.mp e
    refine wpAny_bind ((PySem.W.looks_subIn X e).here ?_)
    simp only [Bool.false_eq_true, if_false]
    refine wpAny_bind (wpAny_mono one (fun r s' z => ?_) fun _ _ e => e)
    obtain ⟨v, rfl, hq⟩ := z
    exact wpAny_pure hq
  · refine wpAny_bind (wpAny_pure ?_)
    simp only [Bool.false_eq_true, if_false]
    refine wpAny_bind (wpAny_mono one (fun r s' z => ?_) fun _ _ e => e)
    obtain ⟨v, rfl, hq⟩ := z
    exact wpAny_pure hq
end
section
variable {X : Cx} {CX : CXT} {C f : Addr} {fd : FuncData} {ps : List Str} {n : Nat} {sp : Sp} {E : XK} {K : PySem.W.Frag}
/-- no own __ne__, and no own way to bind -/
structure NoNe (K : PySem.W.Frag) (C : Addr) : Prop where
  ne : PySem.W.findIn K (.ref C) "__ne__" = some (some (.builtin "object.__ne__"))
  plain : PySem.W.plainOver K C = true
/-- x != y, x of the class at C, whose __eq__ gives a bool; y of the type t -/
def rNeO (K : PySem.W.Frag) (C : Addr) (t : Value) (sp : Sp) (E : XK) : R2 := fun x y H Q => ∃ a dx fs, x = .ref a ∧ H a = some (.ins C dx fs) ∧ TyX K H y t ∧ PySem.W.notFirst K C t = true ∧ sp [x, y] H (fun v H' => ∃ b, v = .bl b ∧ Q (.bl (!b)) H') E
theorem op_neO {t : Value} (hK : X.K = K) (hn : NoNe K C) (hm : Meth K C "__eq__" f) (F : FnOk X.prog X.w X.K X.mg X.base CX n f fd ps sp) (hr : Room (n + 1) X.A) (hb : Binds K fd ps []) (hx : Passes CX X E) : OpR X (compareOp .NotEq) (rNeO K C t sp E) := by
  subst hK
  intro pins s σ H x y v u Q I rx ry h
  obtain ⟨a, dx, fs, rfl, ha, ty, nf, q⟩ := h
  cases (show v = Value.ref a from rx)
  obtain ⟨mA, J, _⟩ := ins_get I.hok ha
  obtain ⟨od, J, _⟩ := J.look
  obtain ⟨m, hF⟩ := I.fr
  obtain ⟨P, Z, hP, _⟩ := kit_of I ry ty
  have hr1 : Room n X.A.in1 := Room.in1 hr
  show wpAny _ _ (richCompare .NotEq (.ref a) u) _ _ _
  refine ne_K (tb := t) hr1.units0 hF I.ok.mod.kin J (Z.ty _ _ I.kIn hP) nf hn.ne hn.plain hm.at_ hm.fn ?_
  refine wpAny_mono (run_fnA (us := [.ref a, u]) (vs := [.ref a, y]) F hr1 I.env0.in1 hb hx I (.cons rfl (.cons ry .nil)) q) (fun w s' z => ?_) fun _ _ e => e
  obtain ⟨z', H', I', rz, b, rfl, qz⟩ := z
  cases (show w = Value.bool b from rz)
  exact ⟨b, rfl, .bl (!b), H', I', rfl, qz⟩
end
section
variable {α β γ : Type} {r ra : Rp α} {rb : Rp β} {rc : Rp γ} {te ta tb : TE} {Γ Γ1 Γ2 : List Sl} {K : PySem.W.Frag} {w : Rw α} {C : Addr} {names : List Str} {x : α} {y : β} {E : XK}
theorem ev_neO {t : Value} {m : α × β → Option Bool} {b : Bool} (ha : EvX (rIns C names w) ta Γ Γ1 x) (hb : EvX rb tb Γ1 Γ2 y) (ty : TyR K rb t) (nf : PySem.W.notFirst K C t = true) (e : m (x, y) = some b) : EvX rBool (tOp (rNeO K C t (SpP (wC (rIns C names w) (w1 rb)) rBool m) E) ta tb) Γ Γ2 (!b) := fun A σ H B F Q q =>
  ha A σ H B F _ fun u H1 B1 F1 s1 k1 => hb A σ H1 B1 F1 _ fun v H2 B2 F2 s2 k2 => by
    have k1' := (rIns C names w).mono s2 k1
    obtain ⟨p, dx, vs, rfl, hp, l, kw⟩ := ob_ins F2.bh k1'
    exact ⟨p, dx, _, rfl, hp, ty _ _ _ (rb.mono F2.bh k2), nf, B2, (x, y), b, F2.szt, F2.bh, ⟨_, _, rfl, k1', _, rfl, k2⟩, e, fun H3 B3 v3 P k3 => ⟨b, k3, q _ H3 B3 (F2.after P) ((s1.trans s2).trans P.b0) rfl⟩⟩
end
end G

set_option maxHeartbeats 4000000
/-! # G: lists of the frame's own in lists of its own; more words of lists -/
namespace G
variable [TabL]
open PySem PySem.Spec PyProof.Rows L2
/-- rows of values that own objects -/
structure Tw (α : Type) where
  ok : Hp → Hp → (Addr → Prop) → List V → α → Prop
  mono : ∀ {B B' H H' : Hp} {o o' : Addr → Prop} {vs : List V} {a : α}, Same B B' → (∀ p u, o p → H p = some u → H' p = some u) → (∀ p, o p → o' p) → ok B H o vs a → ok B' H' o' vs a
def tI {α : Type} (r : Rp α) : Tr α := ⟨fun B _ _ v a => r.rel B v a, fun b _ _ h => r.mono b h⟩
def tK {α : Type} (c : Cl α) : Tr α := ⟨fun B H o v a => ∃ p u, v = .ref p ∧ o p ∧ H p = some u ∧ c.ok B u a, fun b k n ⟨p, u, e, op, hu, q⟩ => ⟨p, u, e, n p op, k p u op hu, c.mono b q⟩⟩
def tw0 : Tw Unit := ⟨fun _ _ _ vs _ => vs = [], fun _ _ _ h => h⟩
def tw1 {α : Type} (t : Tr α) : Tw α := ⟨fun B H o vs a => ∃ v, vs = [v] ∧ t.ok B H o v a, fun b k n ⟨v, e, q⟩ => ⟨v, e, t.mono b k n q⟩⟩
def twC {α β : Type} (t : Tr α) (w : Tw β) : Tw (α × β) := ⟨fun B H o vs a => ∃ v vs' o1 o2, vs = v :: vs' ∧ (∀ p, o1 p → o p) ∧ (∀ p, o2 p → o p) ∧ (∀ p, o1 p → ¬ o2 p) ∧ t.ok B H o1 v a.1 ∧ w.ok B H o2 vs' a.2,
  by
    intro B B' H H' o o' vs a b k n ⟨v, vs', o1, o2, e, h1, h2, hd, q1, q2⟩
    exact ⟨v, vs', o1, o2, e, fun p z => n p (h1 p z), fun p z => n p (h2 p z), hd, t.mono (o := o1) (o' := o1) b (fun p u z => k p u (h1 p z)) (fun _ z => z) q1, w.mono (o := o2) (o' := o2) b (fun p u z => k p u (h2 p z)) (fun _ z => z) q2⟩⟩
def tH {α : Type} (w : Tw α) : Tr α := ⟨fun B H o v a => ∃ p vs, v = .ref p ∧ o p ∧ H p = some (.lst vs) ∧ w.ok B H (fun q => o q ∧ q ≠ p) vs a,
  fun b k n ⟨p, vs, e, op, hp, q⟩ => ⟨p, vs, e, n p op, k p _ op hp, w.mono b (fun q u z => k q u z.1) (fun q z => ⟨n q z.1, z.2⟩) q⟩⟩
/-- the k-th of a row: what it is, and what becomes of the row if it changes -/
def AccT {α β : Type} (w : Tw α) (k : Nat) (t : Tr β) (f : α → β) (g : α → β → α) : Prop := ∀ B H o vs a, w.ok B H o vs a → k < vs.length ∧ ∃ v o1, vs[k]? = some v ∧ (∀ p, o1 p → o p) ∧ t.ok B H o1 v (f a) ∧
  ∀ B' H' v' b, Same B B' → (∀ p u, o p → ¬ o1 p → H p = some u → H' p = some u) → t.ok B' H' o1 v' b → w.ok B' H' o (vs.set k v') (g a b)
theorem Paired.setR {α β : Type} {F : α → β → Prop} {x : α} {y : β} (h : F x y) : ∀ {l₁ : List α} {l₂ : List β} (n : Nat), Paired F l₁ l₂ → Paired F (l₁.set n x) (l₂.set n y)
  | _, _, _, .nil => .nil
  | _, _, 0, .cons _ t => .cons h t
  | _, _, n + 1, .cons q t => .cons q (Paired.setR h n t)
theorem Paired.eraseR {α β : Type} {F : α → β → Prop} : ∀ {l₁ : List α} {l₂ : List β} (n : Nat), Paired F l₁ l₂ → Paired F (l₁.eraseIdx n) (l₂.eraseIdx n)
  | _, _, _, .nil => .nil
  | _, _, 0, .cons _ t => t
  | _, _, n + 1, .cons q t => .cons q (Paired.eraseR n t)
section
variable {α β γ δ ρ : Type} {r ra : Rp α} {rb : Rp β} {c : Cl β} {t : Tr α} {tb : Tr β} {w : Tw α} {wb : Tw β} {te ta : TE} {A : Amb} {D : Ends} {Γ Γ1 : List Sl} {i k : Nat} {v : V} {a x : α} {b y : β} {K : PySem.W.Frag} {u : TS} {f : α → β} {g : α → β → α}
theorem accT1 : AccT (tw1 t) 0 t (fun a => a) (fun _ b => b) := fun B H o vs a ⟨v, e, q⟩ => ⟨by rw [e]; exact Nat.zero_lt_one, v, o, by rw [e]; rfl, fun _ z => z, q, fun B' H' v' b _ _ z => ⟨v', by rw [e]; rfl, z⟩⟩
theorem accT0 : AccT (twC t wb) 0 t (·.1) (fun a b => (b, a.2)) := fun B H o vs a ⟨v, vs', o1, o2, e, h1, h2, hd, q1, q2⟩ => ⟨by rw [e, List.length_cons]; omega, v, o1, by rw [e]; rfl, h1, q1, fun B' H' v' b bb k z =>
  ⟨v', vs', o1, o2, by rw [e]; rfl, h1, h2, hd, z, wb.mono bb (fun p u o => k p u (h2 p o) fun z => hd p z o) (fun _ z => z) q2⟩⟩
theorem accTS {tc : Tr γ} {f : β → γ} {g : β → γ → β} (h : AccT wb k tc f g) : AccT (twC t wb) (k + 1) tc (fun a => f a.2) (fun a b => (a.1, g a.2 b)) := fun B H o vs a ⟨v, vs', o1, o2, e, h1, h2, hd, q1, q2⟩ => by
  obtain ⟨hl, x, o3, hx, h3, q3, q⟩ := h B H o2 vs' a.2 q2
  refine ⟨by rw [e, List.length_cons]; omega, x, o3, by rw [e]; simpa using hx, fun p z => h2 p (h3 p z), q3, fun B' H' v' b bb kk z => ⟨v, vs'.set k v', o1, o2, by rw [e]; rfl, h1, h2, hd, t.mono bb (fun p u op => kk p u (h1 p op) fun z => hd p op (h3 p z)) (fun _ z => z) q1, q B' H' v' b bb (fun p u op n => kk p u (h2 p op) n) z⟩⟩
/-- what is seen of the frame's own list of lists -/
theorem tre_at {σ : L2.St} {H B : Hp} (F : Frm A σ H B Γ) (h : Γ[i]? = some (.tre v (tH w) a)) : ∃ p vs o, v = .ref p ∧ σ[i]? = some (some (.ref p)) ∧ H p = some (.lst vs) ∧ w.ok B H o vs a := by
  obtain ⟨e, o, _, p, vs, rfl, op, hp, k⟩ := F.sl i _ h
  exact ⟨p, vs, _, rfl, e, hp, k⟩
/-- a reading that makes nothing -/
def EvK {α : Type} (r : Rp α) (t : TE) (Γ : List Sl) (a : α) : Prop := ∀ (A : Amb) (σ : L2.St) (H B : Hp), Frm A σ H B Γ → ∀ Q : VK, (∀ v, r.rel B v a → Q v H) → t σ H Q
theorem ev_K (h : EvK r te Γ a) : EvX r te Γ Γ a := fun A σ H B F Q q => h A σ H B F Q fun v k => q v H B F (Same.refl _) k
theorem ek_var (h : Γ[i]? = some (.imm r a)) : EvK r (tVar i) Γ a := fun A σ H B F Q q => by
  obtain ⟨v, e, k⟩ := F.sl i _ h
  exact ⟨v, e, q v k⟩
theorem ek_int {j : Int} : EvK rInt (tC (.int j)) Γ j := fun A σ H B F Q q => q _ rfl
theorem ek_to {a' : α} (h : EvK r te Γ a) (e : a = a') : EvK r te Γ a' := e ▸ h
theorem ek_I {C : Int → Int → Prop} {g : Int → Int → Int} {j l : Int} {tb : TE} (ha : EvK rInt ta Γ j) (hb : EvK rInt tb Γ l) (hc : C j l) : EvK rInt (tOp (rI C fun i j => .int (g i j)) ta tb) Γ (g j l) := fun A σ H B F Q q =>
  ha A σ H B F _ fun x kx => hb A σ H B F _ fun y ky => ⟨j, l, kx, ky, hc, q _ rfl⟩
theorem ek_I0 {g : Int → Int → Int} {j l : Int} {tb : TE} (ha : EvK rInt ta Γ j) (hb : EvK rInt tb Γ l) : EvK rInt (tOp (rI0 fun i j => .int (g i j)) ta tb) Γ (g j l) := fun A σ H B F Q q =>
  ha A σ H B F _ fun x kx => hb A σ H B F _ fun y ky => ⟨j, l, kx, ky, q _ rfl⟩
/-- x[k], a value -/
theorem ek_treI (h : Γ[i]? = some (.tre v (tH w) a)) (s : AccT w k (tI rb) f g) : EvK rb (tOp (rIxL K) (tVar i) (tC (.int (k : Int)))) Γ (f a) := fun A σ H B F Q q => by
  obtain ⟨p, vs, o, rfl, e, hp, kw⟩ := tre_at F h
  obtain ⟨_, z, o1, hz, _, kz, _⟩ := s B H o vs a kw
  exact ⟨_, e, p, vs, (k : Int), z, rfl, rfl, SqL.of hp, atI_nat hz, q z kz⟩
/-- x[k], a list of the frame's own -/
theorem tre_sub {xs : List δ} {rd : Rp δ} {f : α → List δ} {g : α → List δ → α} {σ : L2.St} {H B : Hp} (F : Frm A σ H B Γ) (h : Γ[i]? = some (.tre v (tH w) a)) (s : AccT w k (tK (cLst rd)) f g) : ∃ p vs o q zs, v = .ref p ∧ σ[i]? = some (some (.ref p)) ∧ H p = some (.lst vs) ∧ w.ok B H o vs a ∧ vs[k]? = some (.ref q) ∧ H q = some (.lst zs) ∧ Paired (rd.rel B) zs (f a) := by
  obtain ⟨p, vs, o, rfl, e, hp, kw⟩ := tre_at F h
  obtain ⟨_, z, o1, hz, _, ⟨q, w, rfl, _, hq, zs, rfl, kz⟩, _⟩ := s B H o vs a kw
  exact ⟨p, vs, o, q, zs, rfl, e, hp, kw, hz, hq, kz⟩
theorem ek_treL {rd : Rp δ} {f : α → List δ} {g : α → List δ → α} (h : Γ[i]? = some (.tre v (tH w) a)) (s : AccT w k (tK (cLst rd)) f g) : EvK rInt (tCB (RLen K) (tCons (tOp (rIxL K) (tVar i) (tC (.int (k : Int)))) tNil)) Γ ((f a).length : Int) := fun A σ H B F Q q => by
  obtain ⟨p, vs, o, l, zs, rfl, e, hp, kw, hz, hq, kz⟩ := tre_sub (xs := f a) F h s
  exact ⟨_, e, p, vs, (k : Int), _, rfl, rfl, SqL.of hp, atI_nat hz, l, zs, rfl, .inl (SqL.of hq), by rw [Paired.len kz]; exact q _ rfl⟩
theorem ek_treX {rd : Rp δ} {f : α → List δ} {g : α → List δ → α} {d : δ} {j : Int} {tj : TE} (h : Γ[i]? = some (.tre v (tH w) a)) (s : AccT w k (tK (cLst rd)) f g) (hj : EvK rInt tj Γ j) (e : atI (f a) j = some d) : EvK rd (tOp (rIxL K) (tOp (rIxL K) (tVar i) (tC (.int (k : Int)))) tj) Γ d := fun A σ H B F Q q => by
  obtain ⟨p, vs, o, l, zs, rfl, e1, hp, kw, hz, hq, kz⟩ := tre_sub (xs := f a) F h s
  obtain ⟨z, hz2, kz2⟩ := atI_rel kz e
  exact ⟨_, e1, p, vs, (k : Int), _, rfl, rfl, SqL.of hp, atI_nat hz, hj A σ H B F _ fun y ky => ⟨l, zs, j, z, rfl, ky, SqL.of hq, hz2, q z kz2⟩⟩
theorem len_set_sz {H : Hp} {p : Addr} {vs : List V} {v : V} {k : Nat} (z : Sz H) (hp : H p = some (.lst vs)) : szO (.lst (vs.set k v)) := by show (vs.set k v).length ≤ _; rw [List.length_set]; exact z _ _ hp
/-- x[k] = e, a value -/
theorem Frm.treI {σ : L2.St} {H B : Hp} {p : Addr} {vs : List V} {z : V} (F : Frm A σ H B Γ) (h : Γ[i]? = some (.tre (.ref p) (tH w) a)) (s : AccT w k (tI rb) f g) (hp : H p = some (.lst vs)) (kz : rb.rel B z b) : Frm A σ (upd H p (.lst (vs.set k z))) B (Γ.set i (.tre (.ref p) (tH w) (g a b))) := by
  obtain ⟨e1, o0, ho, p', vs', e2, op, hp', kw⟩ := F.sl i _ h
  cases e2
  rw [hp] at hp'; cases hp'
  have n := (ho p op).1
  have m := (ho p op).2.2
  refine F.chg h ⟨fun b u q => ?_, F.b0, fun b u nm nt q => ?_, F.out, fun b n => ?_, F.sub, F.mh, F.ph, F.sz.upd (len_set_sz F.sz hp), F.tb.upd (F.tb.nt hp fun _ z => nomatch z)⟩ (Same.refl _) fun ow hh so => ⟨ow, fun q z => .inl z, fun q z => ?_, fun q h nq => ⟨h.1, fun u hu => ?_⟩, e1, ?_⟩
  · have hb : b ≠ p := fun z => by rw [z, n] at q; cases q
    rw [upd_ne hb]; exact F.bh b u q
  · have hb : b ≠ p := fun z => by
      rcases m with m | m
      · rw [z, m] at q; cases q
      · rw [z] at nm; exact nm m
    rw [upd_ne hb]; exact F.keep b u nm nt q
  · by_cases hb : b = p
    · rw [hb, upd_same]; simp
    · rw [upd_ne hb]; exact F.alive b n
  · have h := hh q z
    refine ⟨h.1, ?_, h.2.2⟩
    by_cases hb : q = p
    · rw [hb, upd_same]; simp
    · rw [upd_ne hb]; exact h.2.1
  · obtain ⟨_, q', _, e3, oq, _⟩ := so
    cases e3
    have hq : q ≠ p := fun z => nq (by rw [z]; exact oq)
    rw [upd_ne hq]; exact hu
  · obtain ⟨_, q', vs2, e3, oq, hq', kw2⟩ := so
    cases e3
    rw [hp] at hq'; cases hq'
    obtain ⟨_, _, o1, _, h1, _, q⟩ := s B H _ vs a kw2
    exact ⟨p, _, rfl, oq, upd_same, q B _ z b (Same.refl _) (fun q u oq _ hu => by rw [upd_ne oq.2]; exact hu) kz⟩
theorem sq_setT (h : EvX rb te Γ Γ1 b) (hi : Γ1[i]? = some (.tre v (tH w) a)) (s : AccT w k (tI rb) f g) (n : Nx A (u D) (Γ1.set i (.tre v (tH w) (g a b)))) : Nx A (tSeq (tAsg te (gSub (tVar i) (tC (.int (k : Int))) rSetL)) u D) Γ := fun σ H B F =>
  h A σ H B F _ fun z H1 B1 F1 s1 k1 => by
    obtain ⟨p, vs, o, rfl, e, hp, kw⟩ := tre_at F1 hi
    obtain ⟨hk, _⟩ := s B1 H1 o vs a kw
    refine ⟨_, e, p, vs, (k : Int), k, rfl, rfl, hp, ?_, n σ _ B1 (F1.treI hi s hp k1)⟩
    unfold ixN; rw [if_pos (by omega), if_pos (by omega)]; simp
/-- a list of the frame's own within its own list is changed -/
theorem Frm.treS {rd : Rp δ} {f : α → List δ} {g : α → List δ → α} {σ : L2.St} {H B : Hp} {p q : Addr} {vs zs' : List V} {xs' : List δ} (F : Frm A σ H B Γ) (h : Γ[i]? = some (.tre (.ref p) (tH w) a)) (s : AccT w k (tK (cLst rd)) f g) (hp : H p = some (.lst vs)) (hv : vs[k]? = some (.ref q)) (hz : szO (.lst zs')) (kz : Paired (rd.rel B) zs' xs') :
    Frm A σ (upd H q (.lst zs')) B (Γ.set i (.tre (.ref p) (tH w) (g a xs'))) := by
  obtain ⟨e1, o0, ho, p', vs', e2, op, hp', kw⟩ := F.sl i _ h
  cases e2
  rw [hp] at hp'; cases hp'
  obtain ⟨_, z, o1, hz1, h1, ⟨q', w1, e4, oq1, hq1, _⟩, _⟩ := s B H _ vs a kw
  rw [hv] at hz1; cases hz1
  cases e4
  have oq0 := (h1 q oq1).1
  have n := (ho q oq0).1
  have m := (ho q oq0).2.2
  refine F.chg h ⟨fun b u z => ?_, F.b0, fun b u nm nt z => ?_, F.out, fun b n => ?_, F.sub, F.mh, F.ph, F.sz.upd hz, F.tb.upd (Hot.nt (ho q oq0) F.mh)⟩ (Same.refl _) fun ow hh so => ?_
  · have hb : b ≠ q := fun e => by rw [e, n] at z; cases z
    rw [upd_ne hb]; exact F.bh b u z
  · have hb : b ≠ q := fun e => by
      rcases m with m | m
      · rw [e, m] at z; cases z
      · rw [e] at nm; exact nm m
    rw [upd_ne hb]; exact F.keep b u nm nt z
  · by_cases hb : b = q
    · rw [hb, upd_same]; simp
    · rw [upd_ne hb]; exact F.alive b n
  · obtain ⟨_, p2, vs2, e3, op2, hp2, kw2⟩ := so
    cases e3
    rw [hp] at hp2; cases hp2
    obtain ⟨_, z2, o2, hz2, h2, ⟨q2, w2, e5, oq2, hq2, zz, ez, kk⟩, fin⟩ := s B H _ vs a kw2
    rw [hv] at hz2; cases hz2
    cases e5
    have ne : q ≠ p := (h2 q oq2).2
    refine ⟨ow, fun q z => .inl z, fun b z => ?_, fun b h nb => ⟨h.1, fun u hu => ?_⟩, e1, p, vs, rfl, op2, by rw [upd_ne (Ne.symm ne)]; exact hp, ?_⟩
    · have h := hh b z
      refine ⟨h.1, ?_, h.2.2⟩
      by_cases hb : b = q
      · rw [hb, upd_same]; simp
      · rw [upd_ne hb]; exact h.2.1
    · have hb : b ≠ q := fun z => nb (by rw [z]; exact (h2 q oq2).1)
      rw [upd_ne hb]; exact hu
    · have := fin B (upd H q (.lst zs')) (.ref q) xs' (Same.refl _) (fun b u ob nb hu => by rw [upd_ne fun z => nb (by rw [z]; exact oq2)]; exact hu) ⟨q, _, rfl, oq2, upd_same, zs', rfl, kz⟩
      rw [set_same hv] at this
      exact this
/-- x[k][j] = e -/
theorem sq_setTS {rd : Rp δ} {f : α → List δ} {g : α → List δ → α} {d : δ} {j : Int} {n : Nat} {tj : TE} (h : EvX rd te Γ Γ1 d) (hi : Γ1[i]? = some (.tre v (tH w) a)) (s : AccT w k (tK (cLst rd)) f g) (hj : EvK rInt tj Γ1 j) (e : ixN (f a).length j = some n) (nx : Nx A (u D) (Γ1.set i (.tre v (tH w) (g a ((f a).set n d))))) :
    Nx A (tSeq (tAsg te (gSub (tOp (rIxL K) (tVar i) (tC (.int (k : Int)))) tj rSetL)) u D) Γ := fun σ H B F =>
  h A σ H B F _ fun z H1 B1 F1 s1 k1 => by
    obtain ⟨p, vs, o, l, zs, rfl, e1, hp, kw, hz, hq, kz⟩ := tre_sub (xs := f a) F1 hi s
    refine ⟨_, e1, p, vs, (k : Int), _, rfl, rfl, SqL.of hp, atI_nat hz, hj A σ H1 B1 F1 _ fun y ky => ⟨l, zs, j, n, rfl, ky, hq, by rw [Paired.len kz]; exact e, nx σ _ B1 (F1.treS hi s hp hz (len_set_sz F1.sz hq) ?_)⟩⟩
    exact Paired.setR k1 n kz
/-- x[k].pop(j) -/
theorem sq_popTS {rd : Rp δ} {f : α → List δ} {g : α → List δ → α} {j : Int} {n : Nat} {tj : TE} (hi : Γ[i]? = some (.tre v (tH w) a)) (s : AccT w k (tK (cLst rd)) f g) (hj : EvK rInt tj Γ j) (e : seqIndex? j (f a).length = some n) (hn : n < (f a).length) (h1 : -(2 ^ 63) ≤ j) (h2 : j < 2 ^ 63) (nx : Nx A (u D) (Γ.set i (.tre v (tH w) (g a ((f a).eraseIdx n))))) :
    Nx A (tSeq (tDrop (tBM K "list" rPopAt (tOp (rIxL K) (tVar i) (tC (.int (k : Int)))) (tCons tj tNil))) u D) Γ := fun σ H B F => by
  obtain ⟨p, vs, o, l, zs, rfl, e1, hp, kw, hz, hq, kz⟩ := tre_sub (xs := f a) F hi s
  have hl := Paired.len kz
  obtain ⟨y, hy⟩ : ∃ y, zs[n]? = some y := ⟨zs[n]'(by omega), List.getElem?_eq_getElem (by omega)⟩
  refine ⟨_, e1, p, vs, (k : Int), _, rfl, rfl, SqL.of hp, atI_nat hz, .inl ⟨rfl, zs, SqL.of hq⟩, hj A σ H B F _ fun z kz2 => ⟨l, zs, j, n, y, rfl, by rw [show z = _ from kz2], hq, h1, h2, by rw [hl]; exact e, hy, nx σ _ B (F.treS hi s hp hz ?_ (Paired.eraseR n kz))⟩⟩
  show (zs.eraseIdx n).length ≤ sizeLine
  have := F.sz _ _ hq
  exact Nat.le_trans (List.length_eraseIdx_le ..) this
/-- one of two items, by a number -/
def pick2 (j : Int) (x y : β) : Option β := if j = 0 then some x else if j = 1 then some y else none
theorem ek_treI' {j : Int} {tj : TE} (h : Γ[i]? = some (.tre v (tH w) a)) (s : AccT w k (tI rb) f g) (hj : EvK rInt tj Γ j) (e : j = (k : Int)) : EvK rb (tOp (rIxL K) (tVar i) tj) Γ (f a) := fun A σ H B F Q q => by
  subst e
  obtain ⟨p, vs, o, rfl, e, hp, kw⟩ := tre_at F h
  obtain ⟨_, z, o1, hz, _, kz, _⟩ := s B H o vs a kw
  exact ⟨_, e, hj A σ H B F _ fun y ky => ⟨p, vs, (k : Int), z, rfl, ky, SqL.of hp, atI_nat hz, q z kz⟩⟩
theorem ek_pick {j : Int} {tj : TE} {f0 f1 : α → β} {g0 g1 : α → β → α} (h : Γ[i]? = some (.tre v (tH w) a)) (s0 : AccT w 0 (tI rb) f0 g0) (s1 : AccT w 1 (tI rb) f1 g1) (hj : EvK rInt tj Γ j) (e : pick2 j (f0 a) (f1 a) = some b) : EvK rb (tOp (rIxL K) (tVar i) tj) Γ b := by
  unfold pick2 at e
  split at e
  · rename_i z; cases e; exact ek_treI' h s0 hj z
  · split at e
    · rename_i z; cases e; exact ek_treI' h s1 hj z
    · cases e
theorem sq_setT' {j : Int} {tj : TE} (h : EvX rb te Γ Γ1 b) (hi : Γ1[i]? = some (.tre v (tH w) a)) (s : AccT w k (tI rb) f g) (hj : EvK rInt tj Γ1 j) (e : j = (k : Int)) (n : Nx A (u D) (Γ1.set i (.tre v (tH w) (g a b)))) : Nx A (tSeq (tAsg te (gSub (tVar i) tj rSetL)) u D) Γ := fun σ H B F =>
  h A σ H B F _ fun z H1 B1 F1 s1 k1 => by
    subst e
    obtain ⟨p, vs, o, rfl, e, hp, kw⟩ := tre_at F1 hi
    obtain ⟨hk, _⟩ := s B1 H1 o vs a kw
    refine ⟨_, e, hj A σ H1 B1 F1 _ fun y ky => ⟨p, vs, (k : Int), k, rfl, ky, hp, ?_, n σ _ B1 (F1.treI hi s hp k1)⟩⟩
    unfold ixN; rw [if_pos (by omega), if_pos (by omega)]; simp
theorem sq_put2 {j : Int} {tj : TE} {f0 f1 : α → β} {g0 g1 : α → β → α} {a' : α} (h : EvX rb te Γ Γ1 b) (hi : Γ1[i]? = some (.tre v (tH w) a)) (s0 : AccT w 0 (tI rb) f0 g0) (s1 : AccT w 1 (tI rb) f1 g1) (hj : EvK rInt tj Γ1 j) (e : pick2 j (g0 a b) (g1 a b) = some a') (n : Nx A (u D) (Γ1.set i (.tre v (tH w) a'))) : Nx A (tSeq (tAsg te (gSub (tVar i) tj rSetL)) u D) Γ := by
  unfold pick2 at e
  split at e
  · rename_i z; cases e; exact sq_setT' h hi s0 hj z n
  · split at e
    · rename_i z; cases e; exact sq_setT' h hi s1 hj z n
    · cases e
/-! ### making -/
structure Ext (A A' : Amb) (n : Addr → Prop) : Prop where
  b0 : A'.B0 = A.B0
  m : A'.m = A.m
  ph : ∀ B, A'.φ B → A.φ B
  old : ∀ p o, A.H0 p = some o → A'.H0 p = some o
  new : ∀ p, n p → A.H0 p = none ∧ A'.H0 p ≠ none
theorem Ext.refl (A : Amb) : Ext A A (fun _ => False) := ⟨rfl, rfl, fun _ h => h, fun _ _ h => h, fun _ h => h.elim⟩
theorem Ext.trans {A A' A2 : Amb} {n n2 : Addr → Prop} (E : Ext A A' n) (E2 : Ext A' A2 n2) : Ext A A2 (fun p => n p ∨ n2 p) := ⟨E2.b0.trans E.b0, E2.m.trans E.m, fun B h => E.ph B (E2.ph B h), fun p o h => E2.old p o (E.old p o h), fun p h => by
  rcases h with h | h
  · obtain ⟨h1, h2⟩ := E.new p h
    refine ⟨h1, ?_⟩
    cases e : A'.H0 p with
    | none => exact absurd e h2
    | some u => rw [E2.old p u e]; simp
  · obtain ⟨h1, h2⟩ := E2.new p h
    refine ⟨?_, h2⟩
    cases e : A.H0 p with
    | none => rfl
    | some u => rw [E.old p u e] at h1; cases h1⟩
theorem Ext.add {A : Amb} {p : Addr} {o : HO} (h : A.H0 p = none) : Ext A (A.add p o) (fun q => q = p) := ⟨rfl, rfl, fun _ h => h, fun q u e => by
  show upd A.H0 p o q = some u
  rw [upd_ne (ne_of_none e h)]; exact e, fun q e => by
  subst e
  exact ⟨h, by show upd A.H0 q o q ≠ none; rw [upd_same]; simp⟩⟩
/-- new objects stay as they are -/
theorem Ext.stay {A A' : Amb} {n : Addr → Prop} {σ : L2.St} {H B : Hp} (E : Ext A A' n) (mh : MH A) {Γ : List Sl} (F : Frm A' σ H B Γ) {p : Addr} {o : HO} (h : n p) (e : A'.H0 p = some o) : H p = some o := F.keep p o (fun z => mh.al p (by rw [← E.m]; exact z) (E.new p h).1) (fun z => mh.tb p z (E.new p h).1) e
theorem Ext.keeps {A A' : Amb} {n : Addr → Prop} {σ : L2.St} {H B H2 B2 : Hp} (E : Ext A A' n) (mh : MH A) {Γ Γ2 : List Sl} (F : Frm A' σ H B Γ) (F2 : Post A' H2 B2) (p : Addr) (u : HO) (h : n p) (e : H p = some u) : H2 p = some u := by
  obtain ⟨_, h2⟩ := E.new p h
  cases q : A'.H0 p with
  | none => exact absurd q h2
  | some o =>
    have nm : ¬ A'.m p := fun z => mh.al p (by rw [← E.m]; exact z) (E.new p h).1
    have nt : ¬ isTab p := fun z => mh.tb p z (E.new p h).1
    have := F.keep p o nm nt q
    rw [this] at e; cases e
    exact F2.keep p _ nm nt q
def EvN {α : Type} (w : Tw α) (ta : TA) (Γ Γ' : List Sl) (a : α) : Prop := ∀ (A : Amb) (σ : L2.St) (H B : Hp), Frm A σ H B Γ → ∀ Q : List V → Hp → Prop, (∀ vs H' B' A' n, Frm A' σ H' B' Γ' → Ext A A' n → Same B B' → w.ok B' H' n vs a → Q vs H') → ta σ H Q
theorem en_0 : EvN tw0 tNil Γ Γ () := fun A σ H B F Q q => q _ H B A _ F (Ext.refl A) (Same.refl _) rfl
theorem en_1I (h : EvX r te Γ Γ1 a) : EvN (tw1 (tI r)) (tCons te tNil) Γ Γ1 a := fun A σ H B F Q q => h A σ H B F _ fun v H1 B1 F1 s1 k1 => q _ H1 B1 A _ F1 (Ext.refl A) s1 ⟨v, rfl, k1⟩
theorem hid_hp {σ : L2.St} {H B : Hp} {p : Addr} {o : HO} (F : Frm (A.add p o) σ H B Γ) (h0 : A.H0 p = none) (mh : MH A) : H p = some o := F.hid h0 mh
theorem en_1K {c : Cl α} (h : EvC c te Γ Γ1 a) : EvN (tw1 (tK c)) (tCons te tNil) Γ Γ1 a := fun A σ H B F Q q => h A σ H B F _ fun p o H1 B1 F1 n1 s1 k1 => q _ H1 B1 _ _ F1 (Ext.add n1) s1 ⟨_, rfl, p, o, rfl, rfl, hid_hp F1 n1 F.mh, k1⟩
variable {Γ2 : List Sl} {tr : TA}
theorem en_I (h : EvX r te Γ Γ1 a) (hr : EvN wb tr Γ1 Γ2 y) : EvN (twC (tI r) wb) (tCons te tr) Γ Γ2 (a, y) := fun A σ H B F Q q =>
  h A σ H B F _ fun v H1 B1 F1 s1 k1 => hr A σ H1 B1 F1 _ fun vs H2 B2 A2 n2 F2 E2 s2 k2 => q _ H2 B2 A2 n2 F2 E2 (s1.trans s2) ⟨v, vs, fun _ => False, n2, rfl, fun _ z => z.elim, fun _ z => z, fun _ z => z.elim, r.mono s2 k1, k2⟩
theorem en_K {c : Cl α} (h : EvC c te Γ Γ1 a) (hr : EvN wb tr Γ1 Γ2 y) : EvN (twC (tK c) wb) (tCons te tr) Γ Γ2 (a, y) := fun A σ H B F Q q =>
  h A σ H B F _ fun p o H1 B1 F1 n1 s1 k1 => hr (A.add p o) σ H1 B1 F1 _ fun vs H2 B2 A2 n2 F2 E2 s2 k2 => by
    have E1 := Ext.add (o := o) n1
    refine q _ H2 B2 A2 _ F2 (E1.trans E2) (s1.trans s2) ⟨_, vs, fun q => q = p, n2, rfl, fun _ z => .inl z, fun _ z => .inr z, fun b hb z => ?_, ⟨p, o, rfl, rfl, ?_, c.mono s2 k1⟩, k2⟩
    · have := (E2.new b z).1
      rw [hb] at this
      have t : upd A.H0 p o p = none := this
      rw [upd_same] at t; cases t
    · refine F2.keep p o (fun z => ?_) (fun z => F.mh.tb p z n1) (E2.old p o upd_same)
      rw [E2.m] at z
      exact F.mh.al p z n1
theorem Ext.post {A A' : Amb} {n : Addr → Prop} {H B : Hp} (E : Ext A A' n) (sub : Same A.B0 A.H0) (mh : MH A) (P : Post A' H B) : Post A H B :=
  ⟨P.bh, fun p o e => P.b0 p o (by rw [E.b0]; exact e), fun p o m nt e => P.keep p o (by rw [E.m]; exact m) nt (E.old p o e), fun p n z => P.out p (by
    cases e : A.H0 p with
    | none => exact absurd e n
    | some u => rw [E.old p u e]; simp) (by rw [E.b0]; exact z), fun p n => P.alive p (by
    cases e : A.H0 p with
    | none => exact absurd e n
    | some u => rw [E.old p u e]; simp), sub, mh, E.ph B P.ph, P.sz, P.tb⟩
/-- new objects, with all that they own, at a slot -/
theorem Frm.ownsT {A' : Amb} {n : Addr → Prop} {σ : L2.St} {H B : Hp} {t : Tr α} (F : Frm A' σ H B Γ) (E : Ext A A' n) (sub : Same A.B0 A.H0) (mh : MH A) (k : t.ok B H n v a) : Frm A (σ.set i (some v)) H B (Γ.set i (.tre v t a)) := by
  refine F.owns n (E.post sub mh F.post) (fun q hq => ?_) (fun q h => ?_) fun hl => ⟨by rw [List.getElem?_set_self (by rw [F.len]; exact hl)], k⟩
  · obtain ⟨h1, h2⟩ := E.new q hq
    refine ⟨⟨F.out q h2 ?_, F.alive q h2, .inl h1⟩, fun z => ?_⟩
    · rw [E.b0]
      cases e : A.B0 q with
      | none => rfl
      | some u => rw [sub q u e] at h1; cases h1
    · rcases z.2.2 with z | z
      · exact h2 z
      · rw [E.m] at z; exact mh.al q z h1
  · rcases h.2.2 with z | z
    · left
      cases e : A.H0 q with
      | none => rfl
      | some u => rw [E.old q u e] at z; cases z
    · right; rw [← E.m]; exact z
class TLen {α : Type} (w : Tw α) (n : outParam Nat) : Prop where
  len : ∀ {B H o vs a}, w.ok B H o vs a → vs.length = n
instance (t : Tr α) : TLen (tw1 t) 1 := ⟨fun ⟨v, e, _⟩ => by rw [e]; rfl⟩
instance (t : Tr α) (w : Tw β) {n : Nat} [i : TLen w n] : TLen (twC t w) (n + 1) := ⟨fun {B H o vs a} h => by
  obtain ⟨v, vs', o1, o2, e, _, _, _, _, k⟩ := h
  rw [e, List.length_cons, i.len k]⟩
theorem sq_asgN {n : Nat} [z : TLen w n] {ta : TA} (h : EvN w ta Γ Γ1 a) (k : ∀ p, Nx A (u D) (Γ1.set i (.tre (.ref p) (tH w) a))) (hn : n ≤ 1000 := by decide) : Nx A (tSeq (tAsg (tLst ta) (gName i)) u D) Γ := fun σ H B F => h A σ H B F _ fun vs H1 B1 A1 n1 F1 E1 s1 k1 => by
  have hl : vs.length ≤ sizeLine := by rw [z.len k1]; exact Nat.le_of_lt (small1000 hn)
  refine ⟨hl, fun p hp => ?_⟩
  have F2 := F1.fresh (o := .lst vs) hp hl
  have h0 := F1.H0none hp
  have E2 := E1.trans (Ext.add (o := .lst vs) h0)
  have np : ¬ n1 p := fun q => (E1.new p q).2 h0
  refine k p _ _ B1 (F2.ownsT (t := tH w) (n := fun q => n1 q ∨ q = p) E2 F.sub F.mh ⟨p, vs, rfl, .inr rfl, upd_same, w.mono (Same.refl _) (fun q u nq hu => ?_) (fun q nq => ⟨.inl nq, fun e => np (by rw [← e]; exact nq)⟩) k1⟩)
  rw [upd_ne fun e => np (by rw [← e]; exact nq)]; exact hu
/-! ### what is owned is changed no more -/
open Classical in
noncomputable def fz (B H : Hp) (o : Addr → Prop) : Hp := fun p => if o p then H p else B p
theorem fz_in {B H : Hp} {o : Addr → Prop} {p : Addr} (h : o p) : fz B H o p = H p := by unfold fz; rw [if_pos h]
theorem fz_out {B H : Hp} {o : Addr → Prop} {p : Addr} (h : ¬ o p) : fz B H o p = B p := by unfold fz; rw [if_neg h]
theorem fz_same {B H : Hp} {o : Addr → Prop} (h : ∀ p, o p → B p = none) : Same B (fz B H o) := fun p u e => by
  rw [fz_out fun z => by rw [h p z] at e; cases e]; exact e
theorem fz_mono {B H : Hp} {o o' : Addr → Prop} (n : ∀ p, o p → o' p) (h : ∀ p, o' p → B p = none) : Same (fz B H o) (fz B H o') := fun p u e => by
  by_cases z : o p
  · rw [fz_in z] at e; rw [fz_in (n p z)]; exact e
  · rw [fz_out z] at e
    rw [fz_out fun z => by rw [h p z] at e; cases e]; exact e
class Fz {α : Type} (t : Tr α) (r : outParam (Rp α)) : Prop where
  fz : ∀ {B H o v a}, (∀ p, o p → B p = none) → t.ok B H o v a → r.rel (G.fz B H o) v a
class FzW {α : Type} (w : Tw α) (r : outParam (Rw α)) : Prop where
  fz : ∀ {B H o vs a}, (∀ p, o p → B p = none) → w.ok B H o vs a → r.rel (G.fz B H o) vs a
instance (r : Rp α) : Fz (tI r) r := ⟨fun h k => r.mono (fz_same h) k⟩
instance (c : Cl α) : Fz (tK c) (rOb c) := ⟨fun h ⟨p, u, e, op, hu, k⟩ => ⟨p, u, e, by rw [fz_in op]; exact hu, c.mono (fz_same h) k⟩⟩
instance (t : Tr α) (r : Rp α) [z : Fz t r] : FzW (tw1 t) (w1 r) := ⟨fun h ⟨v, e, k⟩ => ⟨v, e, z.fz h k⟩⟩
instance (t : Tr α) (r : Rp α) (w : Tw β) (s : Rw β) [z : Fz t r] [zw : FzW w s] : FzW (twC t w) (wC r s) := ⟨fun {B H o vs a} h k => by
  obtain ⟨v, vs', o1, o2, e, h1, h2, _, k1, k2⟩ := k
  exact ⟨v, vs', e, r.mono (fz_mono h1 h) (z.fz (fun p q => h p (h1 p q)) k1), s.mono (fz_mono h2 h) (zw.fz (fun p q => h p (h2 p q)) k2)⟩⟩
instance (w : Tw α) (s : Rw α) [zw : FzW w s] : Fz (tH w) (rHls s) := ⟨fun {B H o v a} h k => by
  obtain ⟨p, vs, e, op, hp, kw⟩ := k
  exact ⟨p, _, e, by rw [fz_in op]; exact hp, vs, rfl, s.mono (fz_mono (fun q z => z.1) h) (zw.fz (fun q z => h q z.1) kw)⟩⟩
theorem Frm.freezeT {σ : L2.St} {H B : Hp} [z : Fz t r] (F : Frm A σ H B Γ) (e : Γ[i]? = some (.tre v t a)) (hm : ∀ ow, Own A σ H B Γ ow → ∀ p, ow i p → ¬ A.m p) : ∃ B', Same B B' ∧ Frm A σ H B' (Γ.set i (.imm r a)) := by
  obtain ⟨ow, W⟩ := id F.own
  have hb : ∀ p, ow i p → B p = none := fun p h => (W.ht i p h).1
  have s := fz_same (H := H) hb
  have so := W.so i _ e
  have k := z.fz hb so.2
  refine ⟨fz B H (ow i), s, ⟨⟨fun p u q => ?_, fun p u q => s p u (F.b0 p u q), F.keep, fun p n q => ?_, F.alive, F.sub, F.mh, A.up _ _ s F.ph, F.sz, F.tb.to (fun _ _ => rfl) s fun p m => by rw [fz_out fun z => Hot.nt (W.ht i p z) F.mh m]; exact F.tb.no p m⟩, by rw [List.length_set]; exact F.len, fun j q => if j = i then False else ow j q, fun j s' ej => ?_, fun j l q hj hl => ?_, fun j q hj => ?_⟩⟩
  · by_cases h : ow i p
    · rw [fz_in h] at q; exact q
    · rw [fz_out h] at q; exact F.bh p u q
  · have h : ¬ ow i p := fun h => by
      rcases (W.ht i p h).2.2 with m | m
      · exact n m
      · exact hm ow W p h m
    rw [fz_out h]; exact F.out p n q
  · rcases getset ej with ⟨rfl, rfl, _⟩ | ⟨ne, ej⟩
    · exact ⟨v, so.1, k⟩
    · exact slo_mono (W.so j s' ej) rfl s (fun _ _ _ z => z) fun q z => by rw [if_neg (Ne.symm ne)]; exact z
  · by_cases h1 : j = i
    · rw [if_pos h1] at hj; exact hj.elim
    · by_cases h2 : l = i
      · rw [if_pos h2] at hl; exact hl.elim
      · rw [if_neg h1] at hj; rw [if_neg h2] at hl; exact W.dj j l q hj hl
  · by_cases h1 : j = i
    · rw [if_pos h1] at hj; exact hj.elim
    · rw [if_neg h1] at hj
      have h := W.ht j q hj
      exact ⟨by rw [fz_out fun z => h1 (W.dj j i q hj z)]; exact h.1, h.2⟩
theorem nx_freezeT {P : L2.St → Hp → Prop} (i : Nat) [z : Fz t r] (e : Γ[i]? = some (.tre v t a)) (hm : ∀ q, ¬ A.m q) (h : Nx A P (Γ.set i (.imm r a))) : Nx A P Γ := fun σ H B F => by
  obtain ⟨B', _, F'⟩ := F.freezeT e fun _ _ p _ => hm p
  exact h σ H B' F'
theorem nx_freezeTS {P : L2.St → Hp → Prop} {γ : Type} {cc : Cl γ} {st : γ} {p0 : Addr} {j : Nat} (i : Nat) [z : Fz t r] (e : Γ[i]? = some (.tre v t a)) (ej : Γ[j]? = some (.cel p0 cc st)) (ne : i ≠ j) (hm : ∀ q, A.m q → q = p0) (h : Nx A P (Γ.set i (.imm r a))) : Nx A P Γ := fun σ H B F => by
  obtain ⟨B', _, F'⟩ := F.freezeT e fun ow W p o m => ne (W.dj i j p o (by rw [hm p m]; exact W.cel (by rw [ej]; rfl)))
  exact h σ H B' F'
end
/-! ### more words of the frame's own lists -/
section
variable {α β γ δ ρ : Type} {r ra : Rp α} {te ta tj : TE} {A : Amb} {D : Ends} {Γ Γ1 : List Sl} {i k : Nat} {K : PySem.W.Frag} {u : TS} {p : Addr} {xs : List α}
theorem sq_rev (hi : Γ[i]? = some (.cel p (cLst r) xs)) (n : Nx A (u D) (Γ.set i (.cel p (cLst r) xs.reverse))) : Nx A (tSeq (tDrop (tBM0 K "list" rReverse (tVar i))) u D) Γ := fun σ H B F => by
  obtain ⟨e1, vs, hp, kp⟩ := cel_lst F hi
  refine ⟨_, e1, .inl ⟨rfl, vs, SqL.of hp⟩, p, vs, rfl, rfl, hp, n σ _ B (F.write hi (c' := cLst r) (o' := .lst vs.reverse) ⟨_, rfl, Paired.revR kp⟩ ?_)⟩
  show vs.reverse.length ≤ sizeLine
  rw [List.length_reverse]; exact F.sz _ _ hp
theorem sq_clr (hi : Γ[i]? = some (.cel p (cLst r) xs)) (n : Nx A (u D) (Γ.set i (.cel p (cLst r) []))) : Nx A (tSeq (tDrop (tBM0 K "list" rClear (tVar i))) u D) Γ := fun σ H B F => by
  obtain ⟨e1, vs, hp, kp⟩ := cel_lst F hi
  exact ⟨_, e1, .inl ⟨rfl, vs, SqL.of hp⟩, p, vs, rfl, rfl, hp, n σ _ B (F.write hi (c' := cLst r) (o' := .lst []) ⟨_, rfl, .nil⟩ (Nat.zero_le _))⟩
end
end G
namespace G
variable [TabL]
open PySem PySem.Spec PyProof.Rows L2
section
variable {α β γ δ ρ : Type} {r ra : Rp α} {w : Tw α} {te ta tj : TE} {tn : TA} {A : Amb} {D : Ends} {Γ Γ1 : List Sl} {i k : Nat} {K : PySem.W.Frag} {u : TS} {v : V} {a a' : α} {P : L2.St → Hp → Prop} {t : Tr α}
theorem en_to (h : EvN w tn Γ Γ1 a) (e : a = a') : EvN w tn Γ Γ1 a' := e ▸ h
theorem nx_tre (h : Γ[i]? = some (.tre v t a)) (e : a = a') (k : Nx A P (Γ.set i (.tre v t a'))) : Nx A P Γ := by
  subst e
  rw [set_same h] at k; exact k
/-- x.pop(j), what is left -/
def pyPopAt (xs : List δ) (j : Int) : Option (List δ) := match seqIndex? j xs.length with
  | some n => if n < xs.length ∧ -(2 ^ 63) ≤ j ∧ j < 2 ^ 63 then some (xs.eraseIdx n) else none
  | none => none
theorem sq_popTS' {rd : Rp δ} {f : α → List δ} {g : α → List δ → α} {j : Int} {ys : List δ} (hi : Γ[i]? = some (.tre v (tH w) a)) (s : AccT w k (tK (cLst rd)) f g) (hj : EvK rInt tj Γ j) (e : pyPopAt (f a) j = some ys) (nx : Nx A (u D) (Γ.set i (.tre v (tH w) (g a ys)))) :
    Nx A (tSeq (tDrop (tBM K "list" rPopAt (tOp (rIxL K) (tVar i) (tC (.int (k : Int)))) (tCons tj tNil))) u D) Γ := by
  unfold pyPopAt at e
  split at e
  · rename_i n hn
    split at e
    · rename_i hh
      cases e
      exact sq_popTS hi s hj hn hh.1 hh.2.1 hh.2.2 nx
    · cases e
  · cases e
theorem ek_mod {j l m : Int} {tb : TE} (ha : EvK rInt ta Γ j) (hb : EvK rInt tb Γ l) (e : pyMod j l = some m) : EvK rInt (tOp (rI (fun _ j => 0 < j) fun i j => .int (i % j)) ta tb) Γ m := by
  unfold pyMod at e; split at e
  · rename_i h; cases e; exact ek_I (g := fun i j => i % j) ha hb h
  · cases e
end
end G
namespace G
variable [TabL]
open PySem PySem.Spec PyProof.Rows L2
theorem Post.hide {A : Amb} {H B : Hp} {q : Addr} {o : HO} (P : Post A H B) (h0 : A.H0 q = none) (hq : H q = some o) (hb : B q = none) : Post (A.add q o) H B := by
  refine ⟨P.bh, P.b0, fun b u m nt e => ?_, fun b n z => ?_, fun b n => ?_, fun b u e => ?_, ⟨fun b m => ?_, P.mh.nt, fun b m => ?_⟩, P.ph, P.sz, P.tb⟩
  · by_cases h : b = q
    · subst h
      have e' : upd A.H0 b o b = some u := e
      rw [upd_same] at e'; cases e'; exact hq
    · have e' : upd A.H0 q o b = some u := e
      rw [upd_ne h] at e'; exact P.keep b u m nt e'
  · by_cases h : b = q
    · rw [h]; exact hb
    · have n' : upd A.H0 q o b ≠ none := n
      rw [upd_ne h] at n'; exact P.out b n' z
  · by_cases h : b = q
    · rw [h, hq]; simp
    · have n' : upd A.H0 q o b ≠ none := n
      rw [upd_ne h] at n'; exact P.alive b n'
  · have e0 := P.sub b u e
    show upd A.H0 q o b = some u
    rw [upd_ne (ne_of_none e0 h0)]; exact e0
  · have m0 := P.mh.al b m
    by_cases h : b = q
    · rw [h] at m0; exact absurd h0 m0
    · show upd A.H0 q o b ≠ none
      rw [upd_ne h]; exact m0
  · have m0 := P.mh.tb b m
    by_cases h : b = q
    · rw [h] at m0; exact absurd h0 m0
    · show upd A.H0 q o b ≠ none
      rw [upd_ne h]; exact m0
class NoLC {α : Type} (c : Cl α) : Prop where
  no : ∀ {B : Hp} {p : Addr} {vs : List V} {o : HO} {a : α}, B p = some (.lst vs) → c.ok B o a → c.ok (ers B p) o a
theorem paired_noL {α : Type} {r : Rp α} [NoL r] {B : Hp} {p : Addr} {vs : List V} (hp : B p = some (.lst vs)) : ∀ {us : List V} {xs : List α}, Paired (r.rel B) us xs → Paired (r.rel (ers B p)) us xs
  | _, _, .nil => .nil
  | _, _, .cons h t => .cons (NoL.no hp h) (paired_noL hp t)
instance {α : Type} (r : Rp α) [NoL r] : NoLC (cLst r) := ⟨fun hp ⟨us, e, k⟩ => ⟨us, e, paired_noL hp k⟩⟩
instance {α : Type} (r : Rp α) [NoL r] : NoLC (cTpl r) := ⟨fun hp ⟨us, e, k⟩ => ⟨us, e, paired_noL hp k⟩⟩
/-- the frame's own list is read while a new object is made -/
theorem ec_frz {α β : Type} {r : Rp α} {c : Cl β} {te : TE} {Γ : List Sl} {i : Nat} {p : Addr} {xs : List α} {b : β} [NoLC c] (hi : Γ[i]? = some (.cel p (cLst r) xs)) (h : EvC c te (frz Γ i (.imm (rLst r) xs)) (frz Γ i (.imm (rLst r) xs)) b) : EvC c te Γ Γ b := fun A σ H B F Q q => by
  obtain ⟨vs, hBp, _, F'⟩ := frz_in F hi
  refine h _ σ H _ F' _ fun q0 o H2 B2 F2 n2 s2 k2 => ?_
  have n2' : H q0 = none := n2
  obtain ⟨h1, h2, h3⟩ := frz_out F hBp (F2.drop n2 F'.sub F'.mh) s2
  have hq : H2 q0 = some o := F2.hid n2 F'.mh
  have hb : ers B2 p q0 = none := by
    by_cases e : q0 = p
    · rw [e]; exact ers_self
    · rw [ers_ne e]; exact F2.hidB n2 F'.sub
  have P3 := h3.post.hide (F.H0none n2') hq hb
  refine q q0 o H2 _ (F.move P3 h2 fun b hot => ?_) (F.H0none n2') h2 (NoLC.no h1 k2)
  have hne : b ≠ q0 := fun e => hot.2.1 (by rw [e]; exact n2')
  refine ⟨?_, ?_, fun u e => ?_⟩
  · by_cases e : b = p
    · rw [e]; exact ers_self
    · rw [ers_ne e]
      refine F2.out b ?_ (by show upd B p (.lst vs) b = none; rw [upd_ne e]; exact hot.1)
      show upd H q0 o b ≠ none
      rw [upd_ne hne]; exact hot.2.1
  · rcases hot.2.2 with m | m
    · left; show upd A.H0 q0 o b = none; rw [upd_ne hne]; exact m
    · exact .inr m
  · exact F2.keep b u (fun z => z) (hot.nt F.mh) (by show upd H q0 o b = some u; rw [upd_ne hne]; exact e)
end G
namespace G
variable [TabL]
open PySem PySem.Spec PyProof.Rows L2
theorem nx_freezeC {α : Type} {c : Cl α} {a : α} {p : Addr} {A : Amb} {Γ : List Sl} {P : L2.St → Hp → Prop} (i : Nat) (e : Γ[i]? = some (.cel p c a)) (hm : ∀ q, ¬ A.m q) (h : Nx A P (Γ.set i (.imm (rOb c) a))) : Nx A P Γ := nx_freeze i (hm p) e h
theorem nx_freezeCS {α γ : Type} {c : Cl α} {a : α} {p p0 : Addr} {cc : Cl γ} {st : γ} {j : Nat} {A : Amb} {Γ : List Sl} {P : L2.St → Hp → Prop} (i : Nat) (e : Γ[i]? = some (.cel p c a)) (ej : Γ[j]? = some (.cel p0 cc st)) (ne : i ≠ j) (hm : ∀ q, A.m q → q = p0) (h : Nx A P (Γ.set i (.imm (rOb c) a))) : Nx A P Γ := fun σ H B F => by
  have hp : ¬ A.m p := fun z => ne (F.ds i j p (by rw [e]; rfl) (by rw [ej, ← hm p z]; rfl))
  exact nx_freeze i hp e h σ H B F
end G

set_option maxHeartbeats 4000000
/-! # G: defs that may change several of their parameters -/
namespace G
variable [TabL]

open PySem PySem.Spec PyProof.Rows L2
structure Mw (γ α : Type) where
  own : Hp → Hp → (Addr → Prop) → List V → γ → Prop
  imm : Hp → List V → α → Prop
  len : Nat
  olen : ∀ {B H : Hp} {o : Addr → Prop} {vs : List V} {g : γ}, own B H o vs g → vs.length = len
section
variable {α β γ ρ κ τ : Type}
def mwN : Mw Unit Unit := ⟨fun _ _ _ vs _ => vs = [], fun _ vs _ => vs = [], 0, fun h => by rw [h]; rfl⟩
def mwI (r : Rp ρ) (w : Mw γ α) : Mw γ (ρ × α) := ⟨fun B H o vs g => ∃ v t, vs = v :: t ∧ w.own B H o t g, fun B vs a => ∃ v t, vs = v :: t ∧ r.rel B v a.1 ∧ w.imm B t a.2, w.len + 1, fun ⟨v, t, e, k⟩ => by rw [e, List.length_cons, w.olen k]⟩
def mwK (c : Cl κ) (w : Mw γ α) : Mw (κ × γ) α := ⟨fun B H o vs g => ∃ p t u, vs = .ref p :: t ∧ o p ∧ H p = some u ∧ c.ok B u g.1 ∧ w.own B H (fun q => o q ∧ q ≠ p) t g.2, fun B vs a => ∃ v t, vs = v :: t ∧ w.imm B t a, w.len + 1, fun ⟨p, t, u, e, _, _, _, k⟩ => by rw [e, List.length_cons, w.olen k]⟩
def mwT (c : Tr τ) (w : Mw γ α) : Mw (τ × γ) α := ⟨fun B H o vs g => ∃ v t o1 o2, vs = v :: t ∧ (∀ p, o1 p → o p) ∧ (∀ p, o2 p → o p) ∧ (∀ p, o1 p → ¬ o2 p) ∧ c.ok B H o1 v g.1 ∧ w.own B H o2 t g.2, fun B vs a => ∃ v t, vs = v :: t ∧ w.imm B t a, w.len + 1, fun ⟨v, t, o1, o2, e, _, _, _, _, k⟩ => by rw [e, List.length_cons, w.olen k]⟩
def ambM (B H : Hp) (o : Addr → Prop) : Amb := ⟨B, H, o, fun _ => True, fun _ _ _ _ => trivial⟩
/-- the ambient of a def that may change o -/
structure AtM (A : Amb) (H0 : Hp) (o : Addr → Prop) : Prop where
  m : A.m = o
  h : A.H0 = H0
def HotM (H0 : Hp) (o : Addr → Prop) (H B : Hp) (p : Addr) : Prop := B p = none ∧ H p ≠ none ∧ (H0 p = none ∨ o p)
theorem AtM.hot {A : Amb} {H0 : Hp} {o : Addr → Prop} (k : AtM A H0 o) {H B : Hp} {p : Addr} (h : Hot A H B p) : HotM H0 o H B p := ⟨h.1, h.2.1, by rw [← k.m, ← k.h]; exact h.2.2⟩
def psiM (H0 : Hp) (m : Addr → Prop) (w : Mw γ α) (vs : List V) (t : Tr β) (b : β × γ) (H B : Hp) (v : V) : Prop := ∃ o1 o2 : Addr → Prop, (∀ p, o1 p → HotM H0 m H B p ∧ H0 p = none) ∧ (∀ p, o2 p → HotM H0 m H B p) ∧ (∀ p, o1 p → ¬ o2 p) ∧ t.ok B H o1 v b.1 ∧ w.own B H o2 vs b.2
def SpM (w : Mw γ α) (t : Tr β) (m : γ → α → Option (β × γ)) : Sp := fun vs H Q _ => ∃ B o g a b, SzT H B ∧ Same B H ∧ (∀ p, o p → B p = none ∧ H p ≠ none ∧ ¬ isTab p) ∧ w.own B H o vs g ∧ w.imm B vs a ∧ m g a = some b ∧ Rt (ambM B H o) (psiM H o w vs t) b Q
/-! ### a def -/
def StOk (Γs : List Sl) (vs : List V) (B H : Hp) (o : Addr → Prop) : Prop := Γs.length = vs.length ∧ ∃ ow : Nat → Addr → Prop, (∀ i s, Γs[i]? = some s → ∀ σ : L2.St, (∀ v, vs[i]? = some v → σ[i]? = some (some v)) → SlO σ H B (ow i) i s) ∧ (∀ i j p, ow i p → ow j p → i = j) ∧ ∀ i p, ow i p → o p
variable {r : Rp ρ} {c : Cl κ} {t : Tr τ} {w : Mw γ α} {Γ Γs Γ1 Γ2 Γ3 : List Sl} {vs : List V} {B H : Hp} {o : Addr → Prop} {v : V} {a : α} {g : γ} {x : ρ} {y : κ} {z : τ} {A : Amb} {p : Addr} {k i : Nat} {is : List Nat}
theorem st_N : StOk [] [] B H o := ⟨rfl, fun _ _ => False, fun i s e => by simp at e, fun _ _ _ h => h.elim, fun _ _ h => h.elim⟩
/-- one slot more ahead -/
theorem st_cons {s : Sl} {o1 o2 : Addr → Prop} (h : ∀ σ : L2.St, σ[0]? = some (some v) → SlO σ H B o1 0 s) (h1 : ∀ p, o1 p → o p) (h2 : ∀ p, o2 p → o p) (hd : ∀ p, o1 p → ¬ o2 p) (S : StOk Γs vs B H o2) : StOk (s :: Γs) (v :: vs) B H o := by
  obtain ⟨hl, ow, hs, dj, ho⟩ := S
  refine ⟨by rw [List.length_cons, List.length_cons, hl], fun i q => match i with | 0 => o1 q | i + 1 => ow i q, fun i s' e σ hv => ?_, fun i j q hi hj => ?_, fun i q hi => ?_⟩
  · cases i with
    | zero => cases e; exact h σ (hv v rfl)
    | succ i =>
      have g := hs i s' (by simpa using e) σ.tail fun u hu => by
        have := hv u (by simpa using hu)
        cases σ with
        | nil => simp at this
        | cons x y => simpa using this
      exact slok_shift g (by cases σ <;> simp)
  · cases i with
    | zero => cases j with
      | zero => rfl
      | succ j => exact absurd (ho j q hj) (hd q hi)
    | succ i => cases j with
      | zero => exact absurd (ho i q hi) (hd q hj)
      | succ j => rw [dj i j q hi hj]
  · cases i with
    | zero => exact h1 q hi
    | succ i => exact h2 q (ho i q hi)
theorem st_I (k : r.rel B v x) (S : StOk Γs vs B H o) : StOk (.imm r x :: Γs) (v :: vs) B H o := st_cons (o1 := fun _ => False) (o2 := o) (fun σ e => ⟨v, e, k⟩) (fun _ h => h.elim) (fun _ h => h) (fun _ h => h.elim) S
theorem st_K {u : HO} (op : o p) (hp : H p = some u) (k : c.ok B u y) (S : StOk Γs vs B H (fun q => o q ∧ q ≠ p)) : StOk (.cel p c y :: Γs) (.ref p :: vs) B H o := st_cons (o1 := fun q => q = p) (fun σ e => ⟨e, rfl, u, hp, k⟩) (fun q h => by rw [h]; exact op) (fun q h => h.1) (fun q h n => n.2 h) S
theorem st_T {o1 o2 : Addr → Prop} (h1 : ∀ p, o1 p → o p) (h2 : ∀ p, o2 p → o p) (hd : ∀ p, o1 p → ¬ o2 p) (k : t.ok B H o1 v z) (S : StOk Γs vs B H o2) : StOk (.tre v t z :: Γs) (v :: vs) B H o := st_cons (o1 := o1) (fun σ e => ⟨e, k⟩) h1 h2 hd S
theorem frm_startM {N : List Str} {n : Nat} (S : StOk Γs vs B H o) (z : SzT H B) (s : Same B H) (ho : ∀ p, o p → B p = none ∧ H p ≠ none ∧ ¬ isTab p) (hN : N.length = vs.length + n) : Frm (ambM B H o) (L2.start N vs) H B (Γs ++ List.replicate n .no) := by
  obtain ⟨hl, ow, hs, dj, oo⟩ := S
  refine ⟨⟨s, Same.refl _, fun _ _ _ _ e => e, fun _ _ e => e, fun _ n => n, s, ⟨fun q m => (ho q m).2.1, fun q m => (ho q m).2.2, fun _ m n => z.tb.ne n m⟩, trivial, z.sz, z.tb⟩, ?_, ow, fun i s' e => ?_, dj, fun i q h => ⟨(ho q (oo i q h)).1, (ho q (oo i q h)).2.1, .inr (oo i q h)⟩⟩
  · rw [start_len (by omega), List.length_append, List.length_replicate, hl]; exact hN
  · rcases rep_sp e with e | rfl
    · exact hs i s' e _ fun v hv => start_get hv
    · trivial
class Mm (w : Mw γ α) : Prop where
  up : ∀ {B H o o' vs g}, (∀ p, o p → o' p) → w.own B H o vs g → w.own B H o' vs g
instance : Mm mwN := ⟨fun _ h => h⟩
instance (r : Rp ρ) (w : Mw γ α) [m : Mm w] : Mm (mwI r w) := ⟨fun n ⟨v, t, e, k⟩ => ⟨v, t, e, m.up n k⟩⟩
instance (c : Cl κ) (w : Mw γ α) [m : Mm w] : Mm (mwK c w) := ⟨fun n ⟨p, t, u, e, op, hp, k, q⟩ => ⟨p, t, u, e, n p op, hp, k, m.up (fun q z => ⟨n q z.1, z.2⟩) q⟩⟩
instance (c : Tr τ) (w : Mw γ α) [m : Mm w] : Mm (mwT c w) := ⟨fun n ⟨v, t, o1, o2, e, h1, h2, hd, k, q⟩ => ⟨v, t, o1, o2, e, fun p z => n p (h1 p z), fun p z => n p (h2 p z), hd, k, q⟩⟩
/-- the own parameters, from the k-th slot on, of n -/
def OwnAt (Γ : List Sl) (n k : Nat) (w : Mw γ α) (vs : List V) (g : γ) : Prop := ∀ A σ H B ow, Own A σ H B Γ ow → w.own B H (fun p => ∃ j, k ≤ j ∧ j < n ∧ ow j p) vs g
variable {n : Nat}
theorem oa_N : OwnAt Γ n k mwN [] () := fun _ _ _ _ _ _ => rfl
theorem oa_I [m : Mm w] (h : OwnAt Γ n (k + 1) w vs g) : OwnAt Γ n k (mwI r w) (v :: vs) g := fun A σ H B ow W => ⟨v, vs, rfl, m.up (fun p ⟨j, hj, z⟩ => ⟨j, by omega, z⟩) (h A σ H B ow W)⟩
theorem oa_K [m : Mm w] (e : Γ[k]? = some (.cel p c y)) (h : OwnAt Γ n (k + 1) w vs g) (hk : k < n := by decide) : OwnAt Γ n k (mwK c w) (.ref p :: vs) (y, g) := fun A σ H B ow W => by
  obtain ⟨_, op, u, hu, q⟩ := W.so k _ e
  refine ⟨p, vs, u, rfl, ⟨k, Nat.le_refl _, hk, op⟩, hu, q, m.up (fun b ⟨j, hj, hn, z⟩ => ⟨⟨j, by omega, hn, z⟩, fun e2 => ?_⟩) (h A σ H B ow W)⟩
  have := W.dj j k p (by rw [← e2]; exact z) op
  omega
theorem oa_T [m : Mm w] (e : Γ[k]? = some (.tre v t z)) (h : OwnAt Γ n (k + 1) w vs g) (hk : k < n := by decide) : OwnAt Γ n k (mwT t w) (v :: vs) (z, g) := fun A σ H B ow W => by
  obtain ⟨_, q⟩ := W.so k _ e
  refine ⟨v, vs, ow k, fun p => ∃ j, k + 1 ≤ j ∧ j < n ∧ ow j p, rfl, fun p z => ⟨k, Nat.le_refl _, hk, z⟩, fun p ⟨j, hj, z⟩ => ⟨j, by omega, z⟩, fun p z1 ⟨j, hj, _, z2⟩ => ?_, q, h A σ H B ow W⟩
  have := W.dj j k p z2 z1
  omega
section
variable {te : TE} {D : Ends} {u : TS} {rb : Rp β} {b : β} {bb : β × γ}
variable {H0 : Hp} {mo : Addr → Prop}
theorem nx_retM (am : AtM A H0 mo) (h : EvX rb te Γ Γ1 b) (ho : OwnAt Γ1 n 0 w vs g) (e : some (b, g) = some bb) (k : Rt A (psiM H0 mo w vs (tI rb)) bb D.rt) : Nx A (tRet te D) Γ := fun σ H B F => h A σ H B F _ fun v H' B' F' _ q => by
  obtain ⟨ow, W⟩ := F'.own
  cases e
  exact k H' B' v F'.post ⟨fun _ => False, _, fun _ z => z.elim, fun p ⟨j, _, _, z⟩ => am.hot (W.ht j p z), fun _ z => z.elim, q, ho A σ H' B' ow W⟩
theorem sq_retM (am : AtM A H0 mo) (h : EvX rb te Γ Γ1 b) (ho : OwnAt Γ1 n 0 w vs g) (e : some (b, g) = some bb) (k : Rt A (psiM H0 mo w vs (tI rb)) bb D.rt) : Nx A (tSeq (tRet te) u D) Γ := nx_retM (D := { D with nx := u D }) am h ho e k
/-- an own list that is not a parameter is handed back -/
theorem sq_retMV {cb : Cl β} (am : AtM A H0 mo) (hi : Γ[i]? = some (.cel p cb b)) (hp : ¬ A.m p) (hn : ¬ i < n) (ho : OwnAt Γ n 0 w vs g) (e : some (b, g) = some bb) (k : Rt A (psiM H0 mo w vs (tK cb)) bb D.rt) : Nx A (tSeq (tRet (tVar i)) u D) Γ := fun σ H B F => by
  obtain ⟨ow, W⟩ := id F.own
  obtain ⟨e1, op, u, hu, q⟩ := W.so i _ hi
  cases e
  refine ⟨_, e1, k H B _ F.post ⟨fun q => q = p, _, fun q z => ?_, fun p ⟨j, _, _, z⟩ => am.hot (W.ht j p z), fun q z ⟨j, _, hj, z2⟩ => ?_, ⟨p, u, rfl, rfl, hu, q⟩, ho A σ H B ow W⟩⟩
  · rw [z]; exact ⟨am.hot (W.ht i p op), by rw [← am.h]; exact (W.ht i p op).2.2.resolve_right hp⟩
  · have := W.dj j i p (by rw [← z]; exact z2) op
    omega
/-- a new object is handed back -/
theorem sq_retMC {cb : Cl β} (am : AtM A H0 mo) (h : EvC cb te Γ Γ1 b) (ho : OwnAt Γ1 n 0 w vs g) (e : some (b, g) = some bb) (k : Rt A (psiM H0 mo w vs (tK cb)) bb D.rt) : Nx A (tSeq (tRet te) u D) Γ := fun σ H B F => h A σ H B F _ fun p o H' B' F' n0 _ q => by
  have D := F'.drop n0 F.sub F.mh
  obtain ⟨ow, W⟩ := id F'.own
  cases e
  have hm : ¬ A.m p := fun m => F.mh.al p m n0
  have hH := F'.hid n0 F.mh
  refine k H' B' _ D.post ⟨fun q => q = p, _, fun q z => ?_, fun q ⟨j, _, _, z⟩ => am.hot ⟨(W.ht j q z).1, (W.ht j q z).2.1, (W.ht j q z).base n0⟩, fun q z ⟨j, _, hj, z2⟩ => ?_, ⟨p, o, rfl, rfl, hH, q⟩, ho (A.add p o) σ H' B' ow W⟩
  · rw [z]; exact ⟨am.hot ⟨F'.hidB n0 F.sub, by rw [hH]; simp, .inl n0⟩, by rw [← am.h]; exact n0⟩
  · exact (W.ht j q z2).ne hm z
end
/-! ### a call -/
abbrev AR := L2.St → Hp → List V → Prop
def EvA (ta : TA) (Γ Γ' : List Sl) (R : AR) : Prop := ∀ (A : Amb) (σ : L2.St) (H B : Hp), Frm A σ H B Γ → ∀ Q : List V → Hp → Prop, (∀ vs H' B', Frm A σ H' B' Γ' → Same B B' → R σ B' vs → Q vs H') → ta σ H Q
def ra0 : AR := fun _ _ vs => vs = []
def raI (r : Rp ρ) (x : ρ) (R : AR) : AR := fun σ B vs => ∃ v t, vs = v :: t ∧ r.rel B v x ∧ R σ B t
def raV (i : Nat) (R : AR) : AR := fun σ B vs => ∃ v t, vs = v :: t ∧ σ[i]? = some (some v) ∧ R σ B t
variable {R : AR} {ta te : TE} {tr : TA}
theorem ea_0 : EvA tNil Γ Γ ra0 := fun A σ H B F Q q => q _ H B F (Same.refl _) rfl
theorem ea_I (h : EvX r te Γ Γ1 x) (hr : EvA tr Γ1 Γ2 R) : EvA (tCons te tr) Γ Γ2 (raI r x R) := fun A σ H B F Q q =>
  h A σ H B F _ fun v H1 B1 F1 s1 k1 => hr A σ H1 B1 F1 _ fun vs H2 B2 F2 s2 k2 => q _ H2 B2 F2 (s1.trans s2) ⟨v, vs, rfl, r.mono s2 k1, k2⟩
theorem ea_K (e : Γ[i]? = some (.cel p c y)) (hr : EvA tr Γ Γ2 R) : EvA (tCons (tVar i) tr) Γ Γ2 (raV i R) := fun A σ H B F Q q => by
  have hv := (F.sl i _ e).1
  exact ⟨_, hv, hr A σ H B F _ fun vs H2 B2 F2 s2 k2 => q _ H2 B2 F2 s2 ⟨_, vs, rfl, hv, k2⟩⟩
theorem ea_T (e : Γ[i]? = some (.tre v t z)) (hr : EvA tr Γ Γ2 R) : EvA (tCons (tVar i) tr) Γ Γ2 (raV i R) := fun A σ H B F Q q => by
  have hv := (F.sl i _ e).1
  exact ⟨_, hv, hr A σ H B F _ fun vs H2 B2 F2 s2 k2 => q _ H2 B2 F2 s2 ⟨_, vs, rfl, hv, k2⟩⟩
def CallOk (Γ : List Sl) (R : AR) (w : Mw γ α) (is : List Nat) (g : γ) (a : α) : Prop := ∀ A σ H B ow, Own A σ H B Γ ow → ∀ vs, R σ B vs → w.own B H (fun p => ∃ i, i ∈ is ∧ ow i p) vs g ∧ w.imm B vs a
theorem co_0 : CallOk Γ ra0 mwN [] () () := fun _ _ _ _ _ _ _ h => ⟨h, h⟩
theorem co_I (h : CallOk Γ R w is g a) : CallOk Γ (raI r x R) (mwI r w) is g (x, a) := fun A σ H B ow W vs ⟨v, t, e, k, q⟩ => by
  obtain ⟨h1, h2⟩ := h A σ H B ow W t q
  exact ⟨⟨v, t, e, h1⟩, v, t, e, k, h2⟩
theorem co_K [m : Mm w] (e : Γ[i]? = some (.cel p c y)) (n : i ∉ is) (h : CallOk Γ R w is g a) : CallOk Γ (raV i R) (mwK c w) (i :: is) (y, g) a := fun A σ H B ow W vs ⟨v, t, e2, hv, q⟩ => by
  obtain ⟨h1, h2⟩ := h A σ H B ow W t q
  obtain ⟨e3, op, u, hu, k⟩ := W.so i _ e
  rw [hv] at e3
  cases e3
  refine ⟨⟨p, t, u, e2, ⟨i, List.mem_cons_self, op⟩, hu, k, m.up (fun b ⟨j, hj, z⟩ => ⟨⟨j, List.mem_cons_of_mem _ hj, z⟩, fun e4 => ?_⟩) h1⟩, _, t, e2, h2⟩
  have := W.dj j i p (by rw [← e4]; exact z) op
  rw [this] at hj; exact n hj
theorem co_T [m : Mm w] (e : Γ[i]? = some (.tre v t z)) (n : i ∉ is) (h : CallOk Γ R w is g a) : CallOk Γ (raV i R) (mwT t w) (i :: is) (z, g) a := fun A σ H B ow W vs ⟨v', t', e2, hv, q⟩ => by
  obtain ⟨h1, h2⟩ := h A σ H B ow W t' q
  obtain ⟨e3, k⟩ := W.so i _ e
  rw [hv] at e3
  cases e3
  refine ⟨⟨_, t', ow i, fun p => ∃ j, j ∈ is ∧ ow j p, e2, fun p z => ⟨i, List.mem_cons_self, z⟩, fun p ⟨j, hj, z⟩ => ⟨j, List.mem_cons_of_mem _ hj, z⟩, fun p z1 ⟨j, hj, z2⟩ => ?_, k, h1⟩, _, t', e2, h2⟩
  have := W.dj j i p z2 z1
  rw [this] at hj; exact n hj
/-- what comes back -/
def BackOk (Γ1 Γ2 : List Sl) (R : AR) (w : Mw γ α) (is : List Nat) (g : γ) : Prop := ∀ (σ : L2.St) (B H B' H' : Hp) (vs : List V) (o : Addr → Prop), (∀ i s, i ∈ is → Γ1[i]? = some s → ∃ o, SlO σ H B o i s) → R σ B vs → w.own B' H' o vs g →
  ∃ pc : Nat → Addr → Prop, (∀ i s, i ∈ is → Γ2[i]? = some s → SlO σ H' B' (pc i) i s) ∧ (∀ i p, pc i p → o p ∧ i ∈ is) ∧ ∀ i j p, pc i p → pc j p → i = j
theorem bo_0 : BackOk Γ1 Γ2 ra0 mwN [] () := fun σ B H B' H' vs o _ _ _ => ⟨fun _ _ => False, fun _ _ h => (nomatch h), fun _ _ h => h.elim, fun _ _ _ h => h.elim⟩
theorem bo_I (h : BackOk Γ1 Γ2 R w is g) : BackOk Γ1 Γ2 (raI r x R) (mwI r w) is g := fun σ B H B' H' vs o hs ⟨v, t, e, _, q⟩ ⟨v', t', e', k⟩ => by
  rw [e] at e'; cases e'
  exact h σ B H B' H' t o hs q k
theorem bo_put {o o1 o2 : Addr → Prop} {σ : L2.St} {B' H' : Hp} {s : Sl} {pc : Nat → Addr → Prop} (n : i ∉ is) (e : Γ2[i]? = some s) (h1 : ∀ p, o1 p → o p) (h2 : ∀ p, o2 p → o p) (hd : ∀ p, o1 p → ¬ o2 p) (so : SlO σ H' B' o1 i s)
    (a1 : ∀ i s, i ∈ is → Γ2[i]? = some s → SlO σ H' B' (pc i) i s) (a2 : ∀ i p, pc i p → o2 p ∧ i ∈ is) (a3 : ∀ i j p, pc i p → pc j p → i = j) :
    ∃ pc : Nat → Addr → Prop, (∀ j s, j ∈ i :: is → Γ2[j]? = some s → SlO σ H' B' (pc j) j s) ∧ (∀ j p, pc j p → o p ∧ j ∈ i :: is) ∧ ∀ i j p, pc i p → pc j p → i = j := by
  refine ⟨fun j p => if j = i then o1 p else pc j p, fun j s' hj ej => ?_, fun j p hj => ?_, fun j l p hj hl => ?_⟩
  · by_cases c : j = i
    · subst c; rw [e] at ej; cases ej; simpa using so
    · have := a1 j s' ((List.mem_cons.mp hj).resolve_left c) ej
      simpa [if_neg c] using this
  · have hj : (if j = i then o1 p else pc j p) := hj
    by_cases c : j = i
    · rw [if_pos c] at hj; exact ⟨h1 p hj, by rw [c]; exact List.mem_cons_self⟩
    · rw [if_neg c] at hj; exact ⟨h2 p (a2 j p hj).1, List.mem_cons_of_mem _ (a2 j p hj).2⟩
  · have hj : (if j = i then o1 p else pc j p) := hj
    have hl : (if l = i then o1 p else pc l p) := hl
    by_cases c : j = i
    · by_cases d : l = i
      · rw [c, d]
      · rw [if_pos c] at hj; rw [if_neg d] at hl; exact absurd (a2 l p hl).1 (hd p hj)
    · by_cases d : l = i
      · rw [if_neg c] at hj; rw [if_pos d] at hl; exact absurd (a2 j p hj).1 (hd p hl)
      · rw [if_neg c] at hj; rw [if_neg d] at hl; exact a3 j l p hj hl
theorem bo_K {y' : κ} (e : Γ1[i]? = some (.cel p c y)) (e2 : Γ2[i]? = some (.cel p c y')) (n : i ∉ is) (h : BackOk Γ1 Γ2 R w is g) : BackOk Γ1 Γ2 (raV i R) (mwK c w) (i :: is) (y', g) := fun σ B H B' H' vs o hs ⟨v, t, ev, hv, q⟩ ⟨p', t', u, ev', op, hp, k, kw⟩ => by
  rw [ev] at ev'; cases ev'
  obtain ⟨_, e3, _⟩ := hs i _ List.mem_cons_self e
  rw [hv] at e3; cases e3
  obtain ⟨pc, a1, a2, a3⟩ := h σ B H B' H' t _ (fun j s hj ej => hs j s (List.mem_cons_of_mem _ hj) ej) q kw
  exact bo_put n e2 (o1 := fun q => q = p) (fun q z => by rw [z]; exact op) (fun q z => z.1) (fun q z m => m.2 z) ⟨hv, rfl, u, hp, k⟩ a1 a2 a3
theorem bo_T {z' : τ} (e : Γ1[i]? = some (.tre v t z)) (e2 : Γ2[i]? = some (.tre v t z')) (n : i ∉ is) (h : BackOk Γ1 Γ2 R w is g) : BackOk Γ1 Γ2 (raV i R) (mwT t w) (i :: is) (z', g) := fun σ B H B' H' vs o hs ⟨v1, t1, ev, hv, q⟩ ⟨v2, t2, o1, o2, ev', h1, h2, hd, k, kw⟩ => by
  rw [ev] at ev'; cases ev'
  obtain ⟨_, e3, _⟩ := hs i _ List.mem_cons_self e
  rw [hv] at e3; cases e3
  obtain ⟨pc, a1, a2, a3⟩ := h σ B H B' H' t1 _ (fun j s hj ej => hs j s (List.mem_cons_of_mem _ hj) ej) q kw
  exact bo_put n e2 h1 h2 hd ⟨hv, k⟩ a1 a2 a3
def setAll (Γ : List Sl) : List (Nat × Sl) → List Sl
  | [] => Γ
  | (i, s) :: us => setAll (Γ.set i s) us
theorem setAll_len : ∀ (us : List (Nat × Sl)) (Γ : List Sl), (setAll Γ us).length = Γ.length
  | [], _ => rfl
  | (i, s) :: us, Γ => by unfold setAll; rw [setAll_len us, List.length_set]
theorem setAll_off : ∀ (us : List (Nat × Sl)) (Γ : List Sl) (j : Nat), j ∉ us.map (·.1) → (setAll Γ us)[j]? = Γ[j]?
  | [], _, _, _ => rfl
  | (i, s) :: us, Γ, j, h => by
    unfold setAll
    rw [setAll_off us _ j fun z => h (List.mem_cons_of_mem _ z), List.getElem?_set_ne fun z => h (by rw [z]; exact List.mem_cons_self)]
/-- after a call -/
theorem after_callM {σ : L2.St} {H1 B1 H2 B2 : Hp} {ow : Nat → Addr → Prop} {o1 o2 : Addr → Prop} {g' : γ} (F1 : Frm A σ H1 B1 Γ1) (W : Own A σ H1 B1 Γ1 ow) (bo : BackOk Γ1 Γ2 R w is g') (hl : Γ2.length = Γ1.length) (off : ∀ j, j ∉ is → Γ2[j]? = Γ1[j]?) (k1 : R σ B1 vs)
    (P : Post (ambM B1 H1 fun p => ∃ i, i ∈ is ∧ ow i p) H2 B2) (f1 : ∀ p, o1 p → H1 p = none) (ho : ∀ p, o2 p → HotM H1 (fun p => ∃ i, i ∈ is ∧ ow i p) H2 B2 p) (hd : ∀ p, o1 p → ¬ o2 p) (kw : w.own B2 H2 o2 vs g') : ∃ ow2, Own A σ H2 B2 Γ2 ow2 ∧ Post A H2 B2 ∧ ∀ j p, o1 p → ¬ ow2 j p := by
  obtain ⟨pc, a1, a2, a3⟩ := bo σ B1 H1 B2 H2 vs o2 (fun i s _ es => ⟨ow i, W.so i s es⟩) k1 kw
  have no : ∀ j q, j ∉ is → ow j q → ¬ ∃ i, i ∈ is ∧ ow i q := fun j q nj z ⟨i, hi, z2⟩ => nj (by rw [W.dj j i q z z2]; exact hi)
  refine ⟨fun j p => (j ∈ is ∧ pc j p) ∨ (j ∉ is ∧ ow j p), ⟨fun j s ej => ?_, fun j l p hj hl => ?_, fun j p hj => ?_⟩, ⟨P.bh, fun p o e => P.b0 p o (F1.b0 p o e), fun p o nm nt e => P.keep p o (fun ⟨i, _, z⟩ => ?_) nt (F1.keep p o nm nt e), fun p n z => P.out p (F1.alive p n) (F1.out p n z), fun p n => P.alive p (F1.alive p n), F1.sub, F1.mh, A.up _ _ P.b0 F1.ph, P.sz, P.tb⟩, fun j p h1 h => ?_⟩
  · by_cases c : j ∈ is
    · exact slo_mono (a1 j s c ej) rfl (Same.refl _) (fun _ _ _ z => z) fun p z => .inl ⟨c, z⟩
    · rw [off j c] at ej
      exact slo_mono (W.so j s ej) rfl P.b0 (fun p u z hu => P.keep p u (no j p c z) ((W.ht j p z).nt F1.mh) hu) fun p z => .inr ⟨c, z⟩
  · rcases hj with ⟨c, z⟩ | ⟨c, z⟩
    · rcases hl with ⟨d, z2⟩ | ⟨d, z2⟩
      · exact a3 j l p z z2
      · rcases (ho p (a2 j p z).1).2.2 with m | m
        · exact absurd m (W.ht l p z2).2.1
        · exact absurd m (no l p d z2)
    · rcases hl with ⟨d, z2⟩ | ⟨d, z2⟩
      · rcases (ho p (a2 l p z2).1).2.2 with m | m
        · exact absurd m (W.ht j p z).2.1
        · exact absurd m (no j p c z)
      · exact W.dj j l p z z2
  · rcases hj with ⟨c, z⟩ | ⟨c, z⟩
    · obtain ⟨h1, h2, h3⟩ := ho p (a2 j p z).1
      refine ⟨h1, h2, ?_⟩
      rcases h3 with m | ⟨i, _, z3⟩
      · exact .inl (F1.H0none m)
      · exact (W.ht i p z3).2.2
    · have h := W.ht j p z
      exact ⟨P.out p h.2.1 h.1, P.alive p h.2.1, h.2.2⟩
  · rcases (W.ht i p z).2.2 with m | m
    · rw [m] at e; cases e
    · exact nm m
  · rcases h with ⟨c, z⟩ | ⟨c, z⟩
    · exact hd p h1 (a2 j p z).1
    · exact (W.ht j p z).2.1 (f1 p h1)
theorem ev_callM {us : List (Nat × Sl)} {rb : Rp β} {m : γ → α → Option (β × γ)} {b : β} {g' : γ} {E : XK} (h : EvA tr Γ Γ1 R) (co : CallOk Γ1 R w is g a) (bo : BackOk Γ1 (setAll Γ1 us) R w is g') (e : m g a = some (b, g')) (hu : us.map (·.1) = is := by rfl) : EvX rb (tCall (SpM w (tI rb) m) [] E tr) Γ (setAll Γ1 us) b := fun A σ H B F Q q => h A σ H B F _ fun vs H1 B1 F1 s1 k1 => by
  rw [List.append_nil]
  obtain ⟨ow, W⟩ := id F1.own
  obtain ⟨c1, c2⟩ := co A σ H1 B1 ow W vs k1
  refine ⟨B1, _, g, a, (b, g'), F1.szt, F1.bh, fun p ⟨i, _, z⟩ => ⟨(W.ht i p z).1, (W.ht i p z).2.1, (W.ht i p z).nt F1.mh⟩, c1, c2, e, fun H2 B2 v P ⟨o1, o2, h1, h2, hd, kv, kw⟩ => ?_⟩
  obtain ⟨ow2, W2, P2, _⟩ := after_callM F1 W bo (setAll_len _ _) (fun j hj => setAll_off _ _ _ (by rw [hu]; exact hj)) k1 P (o1 := o1) (fun p z => (h1 p z).2) h2 hd kw
  exact q v H2 B2 ⟨P2, by rw [setAll_len]; exact F1.len, ow2, W2⟩ (s1.trans P.b0) kv
theorem ec_callM {us : List (Nat × Sl)} {cb : Cl β} {m : γ → α → Option (β × γ)} {b : β} {g' : γ} {E : XK} (h : EvA tr Γ Γ1 R) (co : CallOk Γ1 R w is g a) (bo : BackOk Γ1 (setAll Γ1 us) R w is g') (e : m g a = some (b, g')) (hu : us.map (·.1) = is := by rfl) : EvC cb (tCall (SpM w (tK cb) m) [] E tr) Γ (setAll Γ1 us) b := fun A σ H B F Q q => h A σ H B F _ fun vs H1 B1 F1 s1 k1 => by
  rw [List.append_nil]
  obtain ⟨ow, W⟩ := id F1.own
  obtain ⟨c1, c2⟩ := co A σ H1 B1 ow W vs k1
  refine ⟨B1, _, g, a, (b, g'), F1.szt, F1.bh, fun p ⟨i, _, z⟩ => ⟨(W.ht i p z).1, (W.ht i p z).2.1, (W.ht i p z).nt F1.mh⟩, c1, c2, e, fun H2 B2 v P ⟨o1, o2, h1, h2, hd, ⟨p, u, ev, op, hp, kc⟩, kw⟩ => ?_⟩
  obtain ⟨ow2, W2, P2, nw⟩ := after_callM F1 W bo (setAll_len _ _) (fun j hj => setAll_off _ _ _ (by rw [hu]; exact hj)) k1 P (o1 := o1) (fun p z => (h1 p z).2) h2 hd kw
  have hn : H1 p = none := (h1 p op).2
  have h0 := F1.H0none hn
  subst ev
  refine q p u H2 B2 ⟨P2.hide h0 hp (h1 p op).1.1, by rw [setAll_len]; exact F1.len, ow2, W2.so, W2.dj, fun j b z => ?_⟩ h0 (s1.trans P.b0) kc
  obtain ⟨z1, z2, z3⟩ := W2.ht j b z
  refine ⟨z1, z2, ?_⟩
  rcases z3 with m | m
  · left
    have : b ≠ p := fun e => nw j p op (by rw [← e]; exact z)
    show upd A.H0 p u b = none
    rw [upd_ne this]; exact m
  · exact .inr m
end
end G
namespace G
variable [TabL]
open PySem PySem.Spec PyProof.Rows L2
section
variable {α β γ δ ρ : Type} {r ra : Rp α} {rx : Rp β} {te ta tj : TE} {A : Amb} {D : Ends} {Γ Γ1 Γ2 : List Sl} {i k : Nat} {K : PySem.W.Frag} {u : TS} {p : Addr} {xs ys : List α} {x0 : List β} {y : α} {j : Int}
def pyPop (xs : List α) (j : Int) : Option (α × List α) := match seqIndex? j xs.length with
  | some n => match xs[n]? with
    | some y => if -(2 ^ 63) ≤ j ∧ j < 2 ^ 63 then some (y, xs.eraseIdx n) else none
    | none => none
  | none => none
/-- x.pop(j) -/
theorem ev_popCel (h : EvX rInt te Γ Γ1 j) (hi0 : Γ[i]? = some (.cel p (cLst rx) x0)) (hi : Γ1[i]? = some (.cel p (cLst r) xs)) (e : pyPop xs j = some (y, ys)) : EvX r (tBM K "list" rPopAt (tVar i) (tCons te tNil)) Γ (Γ1.set i (.cel p (cLst r) ys)) y := fun A σ H B F Q q => by
  unfold pyPop at e
  split at e
  · rename_i n hn
    split at e
    · rename_i z hz
      split at e
      · rename_i hb
        cases e
        obtain ⟨e1, vs, hp, kp⟩ := cel_lst F hi0
        refine ⟨_, e1, .inl ⟨rfl, vs, SqL.of hp⟩, h A σ H B F _ fun v H1 B1 F1 s1 k1 => ?_⟩
        obtain ⟨e2, vs2, hp2, kp2⟩ := cel_lst F1 hi
        obtain ⟨o, ho, ko⟩ := Paired.getR kp2 hz
        refine ⟨p, vs2, j, n, o, rfl, by rw [show v = _ from k1], hp2, hb.1, hb.2, by rw [Paired.len kp2]; exact hn, ho, q o _ B1 (F1.write hi (c' := cLst r) (o' := .lst (vs2.eraseIdx n)) ⟨_, rfl, Paired.eraseR n kp2⟩ ?_) s1 ko⟩
        show (vs2.eraseIdx n).length ≤ sizeLine
        exact Nat.le_trans (List.length_eraseIdx_le ..) (F1.sz _ _ hp2)
      · cases e
    · cases e
  · cases e
def rInsC : V → List V → Hp → VK → Prop := fun x vs H Q => ∃ (l : Addr) (xs : List V) (i : Int) (y : V), x = .ref l ∧ vs = [.int i, y] ∧ H l = some (.lst xs) ∧ xs.length < sizeLine ∧ 0 ≤ i ∧ i < 2 ^ 63 ∧
    Q .non (upd H l (.lst (xs.take i.toNat ++ [y] ++ xs.drop i.toNat)))
theorem mt_ins {X : Cx} : MtR X "list.insert" rInsC := mt_insert
def pyIns (xs : List α) (i : Int) (y : α) : Option (List α) := if xs.length < 1000000 ∧ 0 ≤ i ∧ i < 2 ^ 63 then some (xs.take i.toNat ++ [y] ++ xs.drop i.toNat) else none
theorem sq_insCel {tb : TE} (h : EvX rInt te Γ Γ1 j) (hb : EvX r tb Γ1 Γ2 y) (hi0 : Γ[i]? = some (.cel p (cLst rx) x0)) (hi : Γ2[i]? = some (.cel p (cLst r) xs)) (e : pyIns xs j y = some ys) (k : Nx A (u D) (Γ2.set i (.cel p (cLst r) ys))) :
    Nx A (tSeq (tDrop (tBM K "list" rInsC (tVar i) (tCons te (tCons tb tNil)))) u D) Γ := fun σ H B F => by
  unfold pyIns at e
  split at e
  · rename_i hh
    cases e
    obtain ⟨e1, vs, hp, kp⟩ := cel_lst F hi0
    refine ⟨_, e1, .inl ⟨rfl, vs, SqL.of hp⟩, h A σ H B F _ fun v H1 B1 F1 s1 k1 => hb A σ H1 B1 F1 _ fun v2 H2 B2 F2 s2 k2 => ?_⟩
    obtain ⟨e2, vs2, hp2, kp2⟩ := cel_lst F2 hi
    have hz : vs2.length < sizeLine := by rw [Paired.len kp2]; exact Nat.lt_of_lt_of_le hh.1 (by decide)
    refine ⟨p, vs2, j, v2, rfl, by rw [show v = _ from k1], hp2, hz, hh.2.1, hh.2.2, k σ _ B2 (F2.write hi (c' := cLst r) (o' := .lst (vs2.take j.toNat ++ [v2] ++ vs2.drop j.toNat)) ⟨_, rfl, Paired.app (Paired.app (Paired.takeN _ kp2) (.cons k2 .nil)) (Paired.dropN _ kp2)⟩ ?_)⟩
    show (vs2.take j.toNat ++ [v2] ++ vs2.drop j.toNat).length ≤ sizeLine
    rw [List.length_append, List.length_append, List.length_take, List.length_drop, List.length_singleton]
    omega
  · cases e
end
end G

set_option maxHeartbeats 4000000
/-! # G: errors with two arguments; two own lists read in one expression -/
namespace G
variable [TabL]

open PySem PySem.Spec PyProof.Rows L2
def SpF2 (C : Addr) (n1 n2 : Str) : Sp := fun vs H Q _ => ∃ a v u, vs = [.ref a, v, u] ∧ H a = some (exo a C none) ∧ ∀ dx, H dx = none → dx ≠ a → Q .non (upd (upd (upd H dx (exd dx [(n1, v)])) a (exo a C (some dx))) dx (exd dx [(n2, u), (n1, v)]))
section
variable {P : Program} {w : World} {K : PySem.W.Frag} {mg : Str → Option Value} {base : Heap}
/-- the body «self.n1 = p1; self.n2 = p2» -/
theorem okE2 {f C : Addr} {fd : FuncData} {st : Stmt} {N : List Str} {qual n1 n2 p1 p2 : Str} {pos1 pos2 pos3 pos4 pos5 pos6 pos7 pos8 : Pos} (F : Fun K "__init__" qual st f fd) (S : FnScope N ["self", p1, p2] (defScope st)) (T : OexC K C) (na1 : PySem.W.findIn K (.ref C) n1 = some none) (na2 : PySem.W.findIn K (.ref C) n2 = some none)
    (hb : defBody st = [.Assign [.Attribute (.Name "self" pos1) n1 pos2] (.Name p1 pos3) pos4, .Assign [.Attribute (.Name "self" pos5) n2 pos6] (.Name p2 pos7) pos8]) (h0 : N[0]? = some ("self" : Str)) (h1 : N[1]? = some p1) (h2 : N[2]? = some p2) (v0 : Vis (defScope st) ("self" : Str)) (v1 : Vis (defScope st) p1) (v2 : Vis (defScope st) p2)
    (d0 : (p1 == ("__debug__" : Str)) = false) (d1 : (p1 == ("__classdict__" : Str)) = false) (d2 : (p2 == ("__debug__" : Str)) = false) (d3 : (p2 == ("__classdict__" : Str)) = false) (hl : N.length = 3) : FnOk P w K mg base CX0 1 f fd ["self", p1, p2] (SpF2 C n1 n2) := by
  refine F.ok S (fun vs H Q E h => ?_) (fun cdv A outer s H vs Q E hr h => ?_)
  · obtain ⟨a, v, u, rfl, _⟩ := h; rfl
  · obtain ⟨a, v, u, rfl, ha, k⟩ := h
    rw [hb]
    refine ⟨_, pss_cons (ps_ost (pe_var (i := 0) h0 v0) (pe_var (i := 1) h1 v1 d0 d1)) (pss_cons (ps_ost (pe_var (i := 0) h0 v0) (pe_var (i := 2) h2 v2 d2 d3)) pss_nil), ?_⟩
    have hN : L2.start N [.ref a, v, u] = [some (.ref a), some v, some u] := by
      unfold L2.start; simp [hl]
    rw [hN]
    refine ⟨v, rfl, _, rfl, a, C, rfl, T, na1, .inl ⟨ha, fun dx n ne => ⟨u, rfl, _, rfl, a, C, rfl, T, na2, .inr ⟨dx, [(n1, v)], upd_same, ?_, (by show 1 ≤ 900; decide), k dx n ne⟩⟩⟩⟩
    rw [upd_ne ne, upd_same]
end
theorem del_made2 {H : Hp} {a dx : Addr} {o1 o2 o3 o4 o5 : HO} (ha : H a = none) (ne : dx ≠ a) : upd (del (upd (upd (upd (upd H a o1) dx o2) a o3) dx o4) a) dx o5 = upd H dx o5 := by
  funext c
  by_cases h1 : c = dx
  · rw [h1, upd_same, upd_same]
  · rw [upd_ne h1, upd_ne h1]
    by_cases h2 : c = a
    · rw [h2, del_same, ha]
    · rw [del_ne h2, upd_ne h1, upd_ne h2, upd_ne h1, upd_ne h2]
section
variable {α β γ ρ ς ε : Type} {r : Rp α} {rb : Rp β} {te tb : TE} {Γ Γ1 Γ2 : List Sl} {K : PySem.W.Frag} {a : α} {b : β} {C : Addr} {A : Amb} {D : Ends} {u : TS} {R : ER ε} {E : XK}
/-- raise C(x, y) -/
theorem sq_raise2 {n1 n2 : Str} {W : WX} {e : ε} (h : EvX r te Γ Γ1 a) (h2 : EvX rb tb Γ1 Γ2 b) (hn : n1 ≠ n2) (k : RtE A R e E) (hR : ∀ B cls d, ErAt B cls d C [n1, n2] (wC r (w1 rb)) (a, b) → R B cls d e) (hW : ∀ cls d σ H, E cls d H → W cls d σ H) :
    Nx A (tSeq (fun _ σ H => tMkO C (SpF2 C n1 n2) [] (tCons te (tCons tb tNil)) σ H fun cls d H' => W cls d σ H') u D) Γ := fun σ H B F => h A σ H B F _ fun v H0 B0 F0 s0 k0 => h2 A σ H0 B0 F0 _ fun v2 H1 B1 F1 s1 k1 => by
  refine ⟨by show 2 ≤ 1000; decide, fun x hx => ⟨x, v, v2, rfl, upd_same, fun dx n ne => ⟨rfl, dx, [(n2, v2), (n1, v)], ?_, upd_same, ?_, ?_⟩⟩⟩
  · rw [upd_ne (Ne.symm ne), upd_same]
  · rw [upd_ne ne] at n; exact n
  · have m1 : H1 dx = none := by rw [upd_ne ne] at n; exact n
    rw [del_made2 hx ne]
    have up : Same B1 (upd B1 dx (.xd [(n2, v2), (n1, v)])) := fun b o q => by rw [upd_ne (ne_of_none (F1.bh b o q) m1)]; exact q
    refine hW _ _ _ _ (k _ _ _ _ (F1.plus (o := .xd [(n2, v2), (n1, v)]) m1 trivial).post (hR _ _ _ ⟨rfl, dx, [(n2, v2), (n1, v)], [v, v2], rfl, upd_same, ⟨v, [v2], rfl, ?_, v2, rfl, ?_⟩, fun j m hj => ?_⟩))
    · exact r.mono (s1.trans up) k0
    · exact rb.mono up k1
    · have e1 : (n1 == n2) = false := by simpa using hn
      cases j with
      | zero => simp at hj; subst hj; simp [List.lookup, e1]
      | succ j => cases j with
        | zero => simp at hj; subst hj; simp [List.lookup]
        | succ j => simp at hj
end
end G
namespace G
variable [TabL]
open PySem PySem.Spec PyProof.Rows L2
section
variable {α β γ : Type} {r : Rp α} {ra : Rp γ} {rb : Rp β} {te : TE} {Γ : List Sl} {b : β}
/-- two own lists are read in one expression -/
theorem frz2_in {A : Amb} {σ : L2.St} {H B : Hp} {i j : Nat} {p q : Addr} {xs : List α} {ys : List γ} (F : Frm A σ H B Γ) (hi : Γ[i]? = some (.cel p (cLst r) xs)) (hj : Γ[j]? = some (.cel q (cLst ra) ys)) (ne : i ≠ j) : ∃ vs us, p ≠ q ∧ B p = none ∧ B q = none ∧ H p = some (.lst vs) ∧ H q = some (.lst us) ∧
    Frm ⟨upd (upd B p (.lst vs)) q (.lst us), H, fun _ => False, fun _ => True, fun _ _ _ _ => trivial⟩ σ H (upd (upd B p (.lst vs)) q (.lst us)) ((frz Γ i (.imm (rLst r) xs)).set j (.imm (rLst ra) ys)) := by
  obtain ⟨ev, hBp, _, o, ho, vs, rfl, kv⟩ := F.sl i _ hi
  obtain ⟨eu, hBq, _, o2, ho2, us, rfl, ku⟩ := F.sl j _ hj
  have pq : p ≠ q := fun e => ne (F.ds i j p (by rw [hi]; rfl) (by rw [hj, e]; rfl))
  have hB1 : Same B (upd B p (.lst vs)) := fun b u e => by rw [upd_ne (ne_of_none e hBp)]; exact e
  have hq1 : upd B p (.lst vs) q = none := by rw [upd_ne (Ne.symm pq)]; exact hBq
  have hB2 : Same (upd B p (.lst vs)) (upd (upd B p (.lst vs)) q (.lst us)) := fun b u e => by rw [upd_ne (ne_of_none e hq1)]; exact e
  have hB := hB1.trans hB2
  have hs : Same (upd (upd B p (.lst vs)) q (.lst us)) H := fun b u e => by
    by_cases hb : b = q
    · subst hb; rw [upd_same] at e; cases e; exact ho2
    · rw [upd_ne hb] at e
      by_cases hb2 : b = p
      · subst hb2; rw [upd_same] at e; cases e; exact ho
      · rw [upd_ne hb2] at e; exact F.bh b u e
  refine ⟨vs, us, pq, hBp, hBq, ho, ho2, ⟨hs, Same.refl _, fun _ _ _ _ e => e, fun _ _ e => e, fun _ e => e, hs, ⟨fun _ z => z.elim, fun _ z => z.elim, fun _ m n => F.tb.ne n m⟩, trivial, F.sz, (F.tb.fix hB1 (F.tb.nt ho fun _ z => nomatch z)).fix hB2 (F.tb.nt ho2 fun _ z => nomatch z)⟩, by rw [List.length_set]; unfold frz; rw [List.length_set, List.length_map]; exact F.len, fun _ _ => False, fun k s e => ?_, fun _ _ _ z => z.elim, fun _ _ z => z.elim⟩
  rcases getset e with ⟨rfl, rfl, _⟩ | ⟨n2, e⟩
  · exact ⟨_, eu, q, _, rfl, upd_same, us, rfl, Paired.monoR hB ku⟩
  · rcases frz_get e with ⟨rfl, rfl⟩ | ⟨_, u, hu, ht, hc⟩
    · exact ⟨_, ev, p, _, rfl, by rw [upd_ne pq]; exact upd_same, vs, rfl, Paired.monoR hB kv⟩
    · rcases ht with rfl | rfl
      · have hs := F.sl k _ hu
        cases s with
        | no => trivial
        | imm r a => obtain ⟨v, e1, e2⟩ := hs; exact ⟨v, e1, r.mono hB e2⟩
        | cel q c a => cases hc
        | tre q c a => cases hc
      · trivial
theorem frz2_out {A : Amb} {σ : L2.St} {H B H2 B2 : Hp} {p q : Addr} {vs us : List V} {Γ' : List Sl} {φ : Hp → Prop} {up : ∀ B B', Same B B' → φ B → φ B'} (F : Frm A σ H B Γ) (pq : p ≠ q) (hBp : B p = none) (hBq : B q = none) (F2 : Frm ⟨upd (upd B p (.lst vs)) q (.lst us), H, fun _ => False, φ, up⟩ σ H2 B2 Γ') (s2 : Same (upd (upd B p (.lst vs)) q (.lst us)) B2) :
    B2 q = some (.lst us) ∧ ers B2 q p = some (.lst vs) ∧ Same B (ers (ers B2 q) p) ∧ Frm A σ H2 (ers (ers B2 q) p) Γ := by
  have hq2 : B2 q = some (.lst us) := s2 _ _ upd_same
  have hp2 : B2 p = some (.lst vs) := s2 _ _ (by rw [upd_ne pq]; exact upd_same)
  have kp : ∀ b u, ¬ isTab b → H b = some u → H2 b = some u := fun b u nt e => F2.keep b u (fun z => z) nt e
  have s3 : Same B (ers (ers B2 q) p) := fun b u e => by
    rw [ers_ne (ne_of_none e hBp), ers_ne (ne_of_none e hBq)]
    exact s2 _ _ (by rw [upd_ne (ne_of_none e hBq), upd_ne (ne_of_none e hBp)]; exact e)
  have out : ∀ b, B b = none → H b ≠ none → ers (ers B2 q) p b = none := fun b e n => by
    by_cases hb : b = p
    · rw [hb]; exact ers_self
    · rw [ers_ne hb]
      by_cases hb2 : b = q
      · rw [hb2]; exact ers_self
      · rw [ers_ne hb2]; exact F2.out b n (by show upd (upd B p (.lst vs)) q (.lst us) b = none; rw [upd_ne hb2, upd_ne hb]; exact e)
  refine ⟨hq2, by rw [ers_ne pq]; exact hp2, s3, F.move ⟨fun b u e => ?_, fun b u e => s3 _ _ (F.b0 b u e), fun b u m nt e => kp b u nt (F.keep b u m nt e), fun b n z => out b (F.out b n z) (F.alive b n), fun b n => F2.alive b (F.alive b n), F.sub, F.mh, A.up _ _ s3 F.ph, F2.sz, (F2.tb.ers hq2).ers (by rw [ers_ne pq]; exact hp2)⟩ s3 fun b h => ⟨out b h.1 h.2.1, h.2.2, fun u => kp b u (h.nt F.mh)⟩⟩
  · by_cases hb : b = p
    · rw [hb, ers_self] at e; cases e
    · rw [ers_ne hb] at e
      by_cases hb2 : b = q
      · rw [hb2, ers_self] at e; cases e
      · rw [ers_ne hb2] at e; exact F2.bh b u e
theorem ev_frz2 {i j : Nat} {p q : Addr} {xs : List α} {ys : List γ} [NoL rb] (hi : Γ[i]? = some (.cel p (cLst r) xs)) (hj : Γ[j]? = some (.cel q (cLst ra) ys)) (ne : i ≠ j) (h : EvX rb te ((frz Γ i (.imm (rLst r) xs)).set j (.imm (rLst ra) ys)) ((frz Γ i (.imm (rLst r) xs)).set j (.imm (rLst ra) ys)) b) : EvX rb te Γ Γ b := fun A σ H B F Q k => by
  obtain ⟨vs, us, pq, hBp, hBq, _, _, F'⟩ := frz2_in F hi hj ne
  refine h _ σ H _ F' _ fun v H2 B2 F2 s2 k2 => ?_
  obtain ⟨h1, h2, h3, h4⟩ := frz2_out F pq hBp hBq F2 s2
  exact k v H2 _ h4 h3 (NoL.no h2 (NoL.no h1 k2))
theorem et_frz2 {tt : TT} {i j : Nat} {p q : Addr} {xs : List α} {ys : List γ} {b : Bool} (hi : Γ[i]? = some (.cel p (cLst r) xs)) (hj : Γ[j]? = some (.cel q (cLst ra) ys)) (ne : i ≠ j) (h : EvT tt ((frz Γ i (.imm (rLst r) xs)).set j (.imm (rLst ra) ys)) ((frz Γ i (.imm (rLst r) xs)).set j (.imm (rLst ra) ys)) b) : EvT tt Γ Γ b := fun A σ H B F Q k => by
  obtain ⟨vs, us, pq, hBp, hBq, _, _, F'⟩ := frz2_in F hi hj ne
  refine h _ σ H _ F' _ fun H2 B2 F2 s2 => ?_
  obtain ⟨h1, h2, h3, h4⟩ := frz2_out F pq hBp hBq F2 s2
  exact k H2 _ h4 h3
end
end G
namespace G
variable [TabL]
open PySem PySem.Spec PyProof.Rows L2
/-- o.m(e, ..), which may raise, within a try -/
def tMx (C : Addr) (m : Str) (sp : Sp) (E : L2.St → XK) (ta : TE) (t : TA) : TE := fun σ H Q => ta σ H fun x H1 => ∃ a dx fs, x = .ref a ∧ H1 a = some (.ins C dx fs) ∧ fs.lookup m = none ∧ t σ H1 fun vs H2 => sp (x :: vs) H2 Q (E σ)
section
variable {X : Cx} {CX : CXT} {k : Nat} {f C : Addr} {fd : FuncData} {ps : List Str} {m : Str} {sp : Sp} {E : L2.St → XK} {o e : Expr} {es : List Expr} {ta : TE} {t : TA} {apos pos : Pos}
theorem pe_methX {pl : Sem Bool} (he : PE X o ta) (c : Cls X.K C) (hm : Meth X.K C m f) (F : FnOk X.prog X.w X.K X.mg X.base CX k f fd ps sp) (hr : Room k X.A) (hb : Binds X.K fd ps []) (hx : ∀ σ, PassesAt CX X σ (E σ)) (ha : PA X (e :: es) t)
    (hst : starEach (e :: es) X.env = (false, eval e X.env) :: starEach es X.env := by rfl) (hpl : (backTo pos (starEach es X.env)).any (·.1) = false := by rfl)
    (ht : eval (.Call (.Attribute o m apos) (e :: es) [] pos) X.env = (do
      let ov ← eval o X.env
      standAt apos.atName
      let (f, first) ← holding [ov] (getMethod ov m pl)
      callWith pos f first (backTo pos (starEach (e :: es) X.env)) (backToKw pos (keywordEach [] X.env))) := by rfl) :
    PE X (.Call (.Attribute o m apos) (e :: es) [] pos) (tMx C m sp E ta t) := by
  refine ⟨fun pins s σ H Q I h => ?_⟩
  refine PySem.W.methodCall_KW (pl := pl) (thn (he.run pins s σ H _ I h) fun u s1 ⟨x, H1, I1, rx, a, dx, fs, ex, ea, l, q⟩ => ?_) ht
  subst ex
  obtain rfl : u = Value.ref a := rx
  refine getmeth_ok I1 ea c hm l ?_
  refine PySem.W.callWith_K (first := [.ref a]) (h₀ := X.base) I.ok.mod.kin hm.kp (thn (ha.run pos pins s1 σ H1 _ I1 q) fun us s2 ⟨vs, H2, I2, r, q2⟩ => ⟨I2.kIn, ?_⟩) hst hpl
  exact run_fnS (us := .ref a :: us) (vs := .ref a :: vs) F hr hb (hx σ) I2 (.cons rfl r) q2
end
section
variable {α β γ ε : Type} {w : Rw α} {w' : Rw β} {rc : Rp γ} {Γ Γ1 Γ2 : List Sl} {te : TE} {ta : TA} {a : α} {b : β} {R : ER ε} {C : Addr} {names : List Str} {nm : Str} {wb : Rw β}
theorem er_meth {m : α × β → Option (Res ε γ)} {x : Res ε γ} (h : EvX (rIns C names w) te Γ Γ1 a) (hb : EvW w' ta Γ1 Γ2 b) (e : m (a, b) = some x) (hn : nm ∉ names) :
    EvR R rc (fun E => tMx C nm (SpX R (wC (rIns C names w) w') rc m) E te ta) Γ Γ2 x := fun A σ H B F E Q qo qe => h A σ H B F _ fun v H1 B1 F1 s1 k1 => by
  obtain ⟨p, dx, vs, rfl, hp, l, kw⟩ := ob_ins F1.bh k1
  refine ⟨p, dx, _, rfl, hp, ins_no hn, hb A σ H1 B1 F1 _ fun us H2 B2 F2 s2 k2 => ?_⟩
  exact ⟨B2, (a, b), x, F2.szt, F2.bh, ⟨_, us, rfl, (rIns C names w).mono s2 k1, k2⟩, e, fun y hy H3 B3 v3 P k3 => qo y hy v3 H3 B3 (F2.after P) ((s1.trans s2).trans P.b0) k3, fun y hy cls d H3 B3 P k3 => qe y hy cls d H3 B3 (F2.after P) ((s1.trans s2).trans P.b0) k3⟩
/-- C(e, ..), where it does not raise -/
theorem ev_mkOk {wa : Rw α} {m : α → Option (Res ε β)} {x : Res ε β} {E : L2.St → XK} (hmono : ∀ {H H' cls d e}, Same H H' → R H cls d e → R H' cls d e) (h : EvW wa ta Γ Γ1 a) (e : m a = some x) (e2 : okR x = some b) : EvX (rIns C names wb) (tMakeS C (SpI R C wa (cIns C names wb) m) E ta) Γ Γ1 b :=
  ev_ok (tf := fun E => tMakeS C (SpI R C wa (cIns C names wb) m) E ta) (er_make hmono h e) (okR_eq e2) E
theorem sq_asgMx {A : Amb} {D : Ends} {u : TS} {i : Nat} {δ : Type} {W : WX} {m : α × β → Option (Res ε γ)} {x : Res ε γ} {k : γ → Option δ} {l : ε → Option δ} {z : δ} (h : EvX (rIns C names w) te Γ Γ1 a) (hb : EvW w' ta Γ1 Γ2 b) (e : m (a, b) = some x) (hn : nm ∉ names) (q : resX x k l = some z)
    (ko : ∀ y, k y = some z → Nx A (u D) (Γ2.set i (.imm rc y))) (ke : ∀ y, l y = some z → NxE W A Γ2 R y) : Nx A (tSeq (tAsg (tMx C nm (SpX R (wC (rIns C names w) w') rc m) (WE W) te ta) (gName i)) u D) Γ :=
  sq_asgR (tf := fun E => tMx C nm (SpX R (wC (rIns C names w) w') rc m) E te ta) (er_meth h hb e hn) q ko ke
end
end G
namespace G
variable [TabL]
open PySem PySem.Spec PyProof.Rows L2
/-- e is True, e is False; e a bool -/
def tIsB (c : Bool) (ta : TE) : TE := fun σ H Q => ta σ H fun x H1 => ∃ b, x = .bl b ∧ Q (.bl (decide (b = c))) H1
section
variable {X : Cx} {a : Expr} {ta te : TE} {Γ Γ1 : List Sl} {b c : Bool}
theorem pc_isB {j pos'} (ha : PE X a ta) : PC X .Is a (.Constant (.bool c) j pos') (tIsB c ta) := by
  refine ⟨fun pins s σ H Q I h => ?_⟩
  refine thn (ha.run pins s σ H _ I h) fun v s1 ⟨x, H1, I1, r1, b, e, q1⟩ => ?_
  subst e
  cases (show v = Value.bool b from r1)
  refine Constant_bool ?_
  refine wpAny_pure ⟨.bl (decide (b = c)), H1, I1, ?_, q1⟩
  show Value.bool _ = Value.bool _
  cases b <;> cases c <;> rfl
theorem ev_isB (h : EvX rBool te Γ Γ1 b) : EvX rBool (tIsB c te) Γ Γ1 (decide (b = c)) := fun A σ H B F Q q => h A σ H B F _ fun v H' B' F' s k => ⟨b, k, q _ H' B' F' s rfl⟩
end
end G

set_option maxHeartbeats 4000000
/-! # G: errors that leave loops, operators and nested calls; values of one of two types -/
namespace G
variable [TabL]
open PySem PySem.Spec PyProof.Rows L2
/-! ### a loop that raises -/
structure ContsX {ρ ς ε : Type} (A : Amb) (ψ : ρ → Hp → Hp → V → Prop) (R : ER ε) (E : XK) (D : Ends) (mk : ς → List Sl) (st : Step (Res ε ρ) ς) : Prop where
  nx : ∀ s, st = .nx s → Nx A D.nx (mk s)
  ct : ∀ s, st = .nx s → Nx A D.ct (mk s)
  bk : ∀ s, st = .brk s → Nx A D.bk (mk s)
  rt : ∀ b, st = .ret (.ok b) → Rt A ψ b D.rt
  er : ∀ e, st = .ret (.er e) → RtE A R e E
section
variable {α β γ ρ ς ε : Type} {r : Rp α} {Γ Γ1 Γ2 : List Sl} {xs : List α} {K : PySem.W.Frag} {u : TS}
theorem nx_forX {A : Amb} {ψ : ρ → Hp → Hp → V → Prop} {R : ER ε} {E : XK} {wi : TI} {g : TG} {tb : TS} {D : Ends} {vs : List Nat} (f : α → ς → Option (Step (Res ε ρ) ς)) (mk : ς → List Sl) {Γf : α → ς → List Sl} {s0 : ς} {R0 : Step (Res ε ρ) ς}
    (hi : ItX r wi Γ Γ1 xs) (e : forL f xs s0 = some R0) (h0 : ∀ A' : Amb, A'.m = A.m ∧ A'.H0 = A.H0 → Nx A' (Fin A' (mk s0)) Γ1)
    (hg : ∀ s, TgX g r vs (mk s) (fun x => Γf x s))
    (hb : ∀ (A' : Amb) (D' : Ends) (x : α) (s : ς) (st : Step (Res ε ρ) ς), A'.m = A.m ∧ A'.H0 = A.H0 → f x s = some st → ContsX A' ψ R E D' mk st → Nx A' (tb D') (Γf x s))
    (hr : ∀ b, R0 = .ret (.ok b) → Rt A ψ b D.rt) (he : ∀ b, R0 = .ret (.er b) → RtE A R b E) (hd : ∀ s, R0 = .nx s → Nx A D.nx (mk s)) : Nx A (tFor wi g tb D) Γ := fun σ H B F => by
  refine hi A σ H B F _ fun J H1 B1 F1 s1 Y => ?_
  refine ⟨fun i m σ H => m = xs.length - i ∧ i ≤ xs.length ∧ ∃ B s, Frm (A.and B1) σ H B (mk s) ∧ forL f (xs.drop i) s = some R0, ?_, ?_⟩
  · obtain ⟨B2, F2⟩ := h0 (A.and B1) ⟨rfl, rfl⟩ σ H1 B1 (F1.and (Same.refl _))
    exact ⟨_, rfl, Nat.zero_le _, B2, s0, F2, by rw [List.drop_zero]; exact e⟩
  · rintro i m σ2 H2 ⟨rfl, hi, B2, s2, F2, e2⟩
    by_cases hlt : i < xs.length
    · right
      have hx : xs[i]? = some xs[i] := List.getElem?_eq_getElem hlt
      rw [List.drop_eq_getElem_cons hlt] at e2
      refine ⟨Y.go i H2 B2 F2.ph.2 F2.bh hlt, fun σ3 H3 => ∃ s3, Fin (A.and B1) (mk s3) σ3 H3 ∧ forL f (xs.drop (i + 1)) s3 = some R0, fun σ3 H3 ⟨s3, ⟨B3, F3⟩, e3⟩ => ⟨_, by omega, rfl, by omega, B3, s3, F3, e3⟩, fun v H3 hy => ?_⟩
      obtain ⟨B3, F3, s3, k3⟩ := Y.yld i _ H2 B2 v H3 F2.ph.2 F2.bh hx hy (A.and B1) σ2 (mk s2) F2
      refine hg s2 (A.and B1) σ2 H3 B3 v xs[i] F3 k3 _ fun σ4 F4 _ _ => ?_
      unfold forL at e2
      cases q : f xs[i] s2 with
      | none => rw [q] at e2; cases e2
      | some st =>
        rw [q] at e2
        refine hb (A.and B1) _ xs[i] s2 st ⟨rfl, rfl⟩ q ⟨fun s5 z => ?_, fun s5 z => ?_, fun s5 z => ?_, fun b z => ?_, fun b z => ?_⟩ σ4 H3 B3 F4
        · subst z
          exact fun σ5 H5 B5 F5 => ⟨s5, ⟨B5, F5⟩, e2⟩
        · subst z
          exact fun σ5 H5 B5 F5 => ⟨s5, ⟨B5, F5⟩, e2⟩
        · subst z
          exact fun σ5 H5 B5 F5 => hd s5 (Option.some.inj e2).symm σ5 H5 B5 F5.unand
        · subst z
          exact fun H5 B5 v5 P5 k5 => hr b (Option.some.inj e2).symm H5 B5 v5 P5.unand k5
        · subst z
          exact fun cls d H5 B5 P5 k5 => he b (Option.some.inj e2).symm cls d H5 B5 P5.unand k5
    · left
      have hil : i = xs.length := by omega
      subst hil
      refine ⟨Y.stop H2 B2 F2.ph.2 F2.bh, ?_⟩
      rw [List.drop_length] at e2
      unfold forL at e2
      exact hd s2 (Option.some.inj e2).symm σ2 H2 B2 F2.unand
theorem sq_forX {A : Amb} {ψ : ρ → Hp → Hp → V → Prop} {R : ER ε} {E : XK} {wi : TI} {g : TG} {tb : TS} {D : Ends} {vs : List Nat} (f : α → ς → Option (Step (Res ε ρ) ς)) (mk : ς → List Sl) {Γf : α → ς → List Sl} {s0 : ς} {R0 : Step (Res ε ρ) ς}
    (hi : ItX r wi Γ Γ1 xs) (e : forL f xs s0 = some R0) (h0 : ∀ A' : Amb, A'.m = A.m ∧ A'.H0 = A.H0 → Nx A' (Fin A' (mk s0)) Γ1)
    (hg : ∀ s, TgX g r vs (mk s) (fun x => Γf x s))
    (hb : ∀ (A' : Amb) (D' : Ends) (x : α) (s : ς) (st : Step (Res ε ρ) ς), A'.m = A.m ∧ A'.H0 = A.H0 → f x s = some st → ContsX A' ψ R E D' mk st → Nx A' (tb D') (Γf x s))
    (hr : ∀ b, R0 = .ret (.ok b) → Rt A ψ b D.rt) (he : ∀ b, R0 = .ret (.er b) → RtE A R b E) (hd : ∀ s, R0 = .nx s → Nx A (u D) (mk s)) : Nx A (tSeq (tFor wi g tb) u D) Γ := nx_forX (D := { D with nx := u D }) f mk hi e h0 hg hb hr he hd
end
/-! ### operators and calls that may raise -/
def tBinX (C : Addr) (sp : Sp) (E : L2.St → XK) (ta tb : TE) : TE := fun σ H Q => ta σ H fun x H1 => tb σ H1 fun y H2 => rBinO C sp (E σ) x y H2 Q
section
variable {X : Cx} {CX : CXT} {C f : Addr} {fd : FuncData} {ps : List Str} {n : Nat} {sp : Sp} {E : L2.St → XK} {K : PySem.W.Frag} {a b : Expr} {ta tb : TE} {pos : Pos}
theorem pe_binX {op : Operator} (hK : X.K = K) (hs : PySem.W.findIn K (.ref C) (PySem.dunder op.info.2) = some (some (.ref f))) (hf : PySem.W.isFn K (.ref f) = true) (sf : PySem.W.selfFirst K C = true) (F : FnOk X.prog X.w X.K X.mg X.base CX n f fd ps sp) (hr : Room n X.A) (hb : Binds K fd ps [])
    (hx : ∀ σ, PassesAt CX X σ (E σ)) (he : PE X a ta) (he2 : PE X b tb) : PE X (.BinOp a op b pos) (tBinX C sp E ta tb) := by
  subst hK
  refine ⟨fun pins s σ H Q I h => wpAny_BinOp (binT he he2 I h fun v u s2 x y H2 I2 rx ry q => ?_)⟩
  obtain ⟨a, dx, fs, b, dy, gs, rfl, rfl, ha, hb2, q⟩ := q
  cases (show v = Value.ref a from rx)
  cases (show u = Value.ref b from ry)
  obtain ⟨mA, J, _⟩ := ins_get I2.hok ha
  obtain ⟨od, J, _⟩ := J.look
  obtain ⟨mB, J', _⟩ := ins_get I2.hok hb2
  obtain ⟨od', J', _⟩ := J'.look
  obtain ⟨m, hF⟩ := I2.fr
  refine PySem.W.binop_K hF I2.ok.mod.kin J J'.type sf hs hf ?_
  refine wpAny_mono (run_fnS (us := [.ref a, .ref b]) (vs := [.ref a, .ref b]) F hr hb (hx σ) I2 (.cons rfl (.cons rfl .nil)) q) (fun w s' z => ?_) fun _ _ e => e
  obtain ⟨z', H', I', rz, qz⟩ := z
  exact SlX.cmpback rz ⟨z', H', I', rz, qz⟩
end
def resM {ε β γ : Type} (x : Res ε β) (m : β → Option γ) : Option (Res ε γ) := match x with
  | .ok a => (m a).map .ok
  | .er e => some (.er e)
section
variable {α β γ ε δ : Type} {r ra : Rp α} {rb : Rp β} {rc : Rp γ} {te ta tb : TE} {t : TA} {Γ Γ1 Γ2 : List Sl} {K : PySem.W.Frag} {w : Rw α} {C : Addr} {names : List Str} {R : ER ε} {tf : (L2.St → XK) → TE} {A : Amb} {D : Ends} {u : TS}
theorem er_binX {m : α × α → Option (Res ε γ)} {z : Res ε γ} {x y : α} (ha : EvX (rIns C names w) ta Γ Γ1 x) (hb : EvX (rIns C names w) tb Γ1 Γ2 y) (e : m (x, y) = some z) :
    EvR R rc (fun E => tBinX C (SpX R (wC (rIns C names w) (w1 (rIns C names w))) rc m) E ta tb) Γ Γ2 z := fun A σ H B F E Q qo qe =>
  ha A σ H B F _ fun u H1 B1 F1 s1 k1 => hb A σ H1 B1 F1 _ fun v H2 B2 F2 s2 k2 => by
    have k1' := (rIns C names w).mono s2 k1
    obtain ⟨p, dx, vs, rfl, hp, l, kw⟩ := ob_ins F2.bh k1'
    obtain ⟨p2, dx2, vs2, rfl, hp2, l2, kw2⟩ := ob_ins F2.bh k2
    exact ⟨p, dx, _, p2, dx2, _, rfl, rfl, hp, hp2, B2, (x, y), z, F2.szt, F2.bh, ⟨_, _, rfl, k1', _, rfl, k2⟩, e, fun b hb H3 B3 v3 P k3 => qo b hb v3 H3 B3 (F2.after P) ((s1.trans s2).trans P.b0) k3, fun b hb cls d H3 B3 P k3 => qe b hb cls d H3 B3 (F2.after P) ((s1.trans s2).trans P.b0) k3⟩
theorem ev_binOk {m : α × α → Option (Res ε γ)} {z : Res ε γ} {x y : α} {c : γ} (E : L2.St → XK) (ha : EvX (rIns C names w) ta Γ Γ1 x) (hb : EvX (rIns C names w) tb Γ1 Γ2 y) (e : m (x, y) = some z) (e2 : okR z = some c) :
    EvX rc (tBinX C (SpX R (wC (rIns C names w) (w1 (rIns C names w))) rc m) E ta tb) Γ Γ2 c := ev_ok (er_binX ha hb e) (okR_eq e2) E
theorem er_callX {w : Rw α} {m : α → Option (Res ε β)} {a : α} {x : Res ε β} (h : EvW w t Γ Γ1 a) (e : m a = some x) : EvR R rb (fun E => tCallS (SpX R w rb m) E t) Γ Γ1 x := fun A σ H B F E Q qo qe => h A σ H B F _ fun vs H1 B1 F1 s1 k1 =>
  ⟨B1, a, x, F1.szt, F1.bh, k1, e, fun b hb H2 B2 v P k2 => qo b hb v H2 B2 (F1.after P) (s1.trans P.b0) k2, fun y hy cls d H2 B2 P k2 => qe y hy cls d H2 B2 (F1.after P) (s1.trans P.b0) k2⟩
theorem ev_callOk {w : Rw α} {m : α → Option (Res ε β)} {a : α} {x : Res ε β} {c : β} (E : L2.St → XK) (h : EvW w t Γ Γ1 a) (e : m a = some x) (e2 : okR x = some c) : EvX rb (tCallS (SpX R w rb m) E t) Γ Γ1 c := ev_ok (er_callX h e) (okR_eq e2) E
/-- C(e), e may raise and the __init__ does not -/
theorem er_make1 {wb : Rw β} {m : α → Option β} {E0 : XK} {x : Res ε α} {y : Res ε β} (hmono : ∀ {H H' : Hp} {cls d e}, Same H H' → R H cls d e → R H' cls d e) (h : EvR R r tf Γ Γ1 x) (e : resM x m = some y) :
    EvR R (rIns C names wb) (fun E => tMake C (SpJ C (w1 r) (cIns C names wb) m) [] E0 (tCons (tf E) tNil)) Γ Γ1 y := fun A σ H B F E Q qo qe => by
  refine h A σ H B F E _ (fun a ha v H1 B1 F1 s1 k1 => ?_) fun z hz cls d H1 B1 F1 s1 k1 => ?_
  · subst ha
    obtain ⟨b, hb, rfl⟩ := Option.map_eq_some_iff.mp e
    intro z dz hy hd ne
    obtain ⟨p1, p2, p3, p4⟩ := made_pre (C := C) F1 hy hd ne
    refine ⟨z, dz, [v], upd B1 dz (.own z), a, b, by rw [List.append_nil], upd_same, p3, p1, p2, ⟨v, rfl, r.mono p4 k1⟩, hb, fun H2 B2 P ⟨o, ho, k⟩ => ⟨rfl, ?_⟩⟩
    have F2 := made_frame (A := A) F1 hy hd ne P ho
    have F3 := F2.adopt (F1.H0none hy) F1.sub F1.mh
    have hB2 : B2 z = none := P.out z (by show upd (upd H1 dz (.own z)) z (.ins C dz []) z ≠ none; rw [upd_same]; simp) p3.1
    have s3 : Same B2 (upd B2 z o) := fun q u e => by rw [upd_ne (ne_of_none e hB2)]; exact e
    exact qo b rfl _ _ _ F3 (s1.trans (p4.trans (P.b0.trans s3))) ⟨z, o, rfl, upd_same, (cIns C names wb).mono s3 k⟩
  · subst hz
    cases e
    exact qe z rfl cls d H1 B1 F1 s1 k1
/-- return e, where e may raise -/
theorem sq_retX {x : Res ε α} {W : WX} {E : XK} (h : EvR R r tf Γ Γ1 x) (ko : ∀ b, x = .ok b → Rt A (psi r) b D.rt) (ke : ∀ e, x = .er e → RtE A R e E) (hW : ∀ cls d σ H, E cls d H → W cls d σ H) : Nx A (tSeq (tRet (tf (WE W))) u D) Γ := fun σ H B F =>
  h A σ H B F (WE W) _ (fun b hb v H' B' F' _ k => ko b hb H' B' v F'.post k) fun e he cls d H' B' F' _ k => hW _ _ _ _ (ke e he cls d H' B' F'.post k)
end
section
variable {α β γ ε δ κ : Type} {r : Rp α} {rb : Rp β} {rc : Rp γ} {ta tb : TE} {t : TA} {Γ Γ1 Γ2 : List Sl} {w : Rw α} {C : Addr} {names : List Str} {R : ER ε} {A : Amb} {D : Ends} {u : TS} {i : Nat}
theorem sq_asgBX {W : WX} {m : α × α → Option (Res ε γ)} {z : Res ε γ} {x y : α} {k : γ → Option δ} {l : ε → Option δ} {q : δ} (ha : EvX (rIns C names w) ta Γ Γ1 x) (hb : EvX (rIns C names w) tb Γ1 Γ2 y) (e : m (x, y) = some z) (h : resX z k l = some q)
    (ko : ∀ y, k y = some q → Nx A (u D) (Γ2.set i (.imm rc y))) (ke : ∀ y, l y = some q → NxE W A Γ2 R y) : Nx A (tSeq (tAsg (tBinX C (SpX R (wC (rIns C names w) (w1 (rIns C names w))) rc m) (WE W) ta tb) (gName i)) u D) Γ :=
  sq_asgR (tf := fun E => tBinX C (SpX R (wC (rIns C names w) (w1 (rIns C names w))) rc m) E ta tb) (er_binX ha hb e) h ko ke
theorem sq_dropBX {W : WX} {m : α × α → Option (Res ε γ)} {z : Res ε γ} {x y : α} {k : γ → Option δ} {l : ε → Option δ} {q : δ} (ha : EvX (rIns C names w) ta Γ Γ1 x) (hb : EvX (rIns C names w) tb Γ1 Γ2 y) (e : m (x, y) = some z) (h : resX z k l = some q)
    (ko : ∀ y, k y = some q → Nx A (u D) Γ2) (ke : ∀ y, l y = some q → NxE W A Γ2 R y) : Nx A (tSeq (tDrop (tBinX C (SpX R (wC (rIns C names w) (w1 (rIns C names w))) rc m) (WE W) ta tb)) u D) Γ :=
  sq_dropR (tf := fun E => tBinX C (SpX R (wC (rIns C names w) (w1 (rIns C names w))) rc m) E ta tb) (er_binX ha hb e) h ko ke
theorem sq_retMkC {wb : Rw β} {m : α → Option β} {E0 : XK} {W : WX} {E : XK} {wg : Rw κ} {g : κ → Option (Res ε α)} {a : κ} {x : Res ε α} {y : Res ε β} (hmono : ∀ {H H' : Hp} {cls d e}, Same H H' → R H cls d e → R H' cls d e) (h : EvW wg t Γ Γ1 a) (e : g a = some x) (e2 : resM x m = some y)
    (ko : ∀ b, y = .ok b → Rt A (psi (rIns C names wb)) b D.rt) (ke : ∀ e, y = .er e → RtE A R e E) (hW : ∀ cls d σ H, E cls d H → W cls d σ H) : Nx A (tSeq (tRet (tMake C (SpJ C (w1 r) (cIns C names wb) m) [] E0 (tCons (tCallS (SpX R wg r g) (WE W) t) tNil))) u D) Γ :=
  sq_retX (tf := fun E => tMake C (SpJ C (w1 r) (cIns C names wb) m) [] E0 (tCons (tCallS (SpX R wg r g) E t) tNil)) (er_make1 (R := R) hmono (er_callX h e) e2) ko ke hW
end
/-! ### values of one of two types -/
section
variable {α β γ δ : Type} {ra : Rp α} {rb : Rp β} {rc : Rp γ} {te : TE} {Γ Γ1 Γ2 : List Sl} {K : PySem.W.Frag} {w : Rw α} {wb : Rw β} {a : α} {b : β}
def rAlt {α β : Type} (ra : Rp α) (rb : Rp β) : Rp (α ⊕ β) := ⟨fun H v x => match x with
  | .inl a => ra.rel H v a
  | .inr b => rb.rel H v b, fun {H H' v x} s h => by
  cases x with
  | inl a => exact ra.mono s h
  | inr b => exact rb.mono s h⟩
theorem ev_inl (h : EvX ra te Γ Γ1 a) : EvX (rAlt ra rb) te Γ Γ1 (.inl a) := fun A σ H B F Q q => h A σ H B F Q q
theorem ev_inr (h : EvX rb te Γ Γ1 b) : EvX (rAlt ra rb) te Γ Γ1 (.inr b) := fun A σ H B F Q q => h A σ H B F Q q
theorem un_inl (h : EvX (rAlt ra rb) te Γ Γ1 (.inl a)) : EvX ra te Γ Γ1 a := fun A σ H B F Q q => h A σ H B F Q q
theorem un_inr (h : EvX (rAlt ra rb) te Γ Γ1 (.inr b)) : EvX rb te Γ Γ1 b := fun A σ H B F Q q => h A σ H B F Q q
def dAlt {α β : Type} (f : α → PyData) (g : β → PyData) : α ⊕ β → PyData
  | .inl a => f a
  | .inr b => g b
theorem da_alt {f : α → PyData} {g : β → PyData} (h : Da K ra f) (k : Da K rb g) : Da K (rAlt ra rb) (dAlt f g) := fun H v x e => by
  cases x with
  | inl a => exact h H v a e
  | inr b => exact k H v b e
def altO {α β γ : Type} (x : α ⊕ β) (f : α → γ) (g : β → γ) : γ := match x with
  | .inl a => f a
  | .inr b => g b
/-- a reading of both -/
theorem ev_altO {T : TE → TE} {x : α ⊕ β} {f : α → γ} {g : β → γ} (hl : ∀ a, EvX ra te Γ Γ1 a → EvX rc (T te) Γ Γ1 (f a)) (hr : ∀ b, EvX rb te Γ Γ1 b → EvX rc (T te) Γ Γ1 (g b)) (h : EvX (rAlt ra rb) te Γ Γ1 x) : EvX rc (T te) Γ Γ1 (altO x f g) := by
  cases x with
  | inl a => exact hl a (un_inl h)
  | inr b => exact hr b (un_inr h)
/-- x[k] of a tuple of one of two shapes -/
theorem ev_altI {κ : Type} {k : Nat} {ta : TE} {x : α ⊕ β} {rk : Rp κ} {f : α → κ} {g : β → κ} (hl : Acc w k rk f) (hr : Acc wb k rk g) (h : EvX (rAlt (rTup w) (rTup wb)) ta Γ Γ1 x) : EvX rk (tOp (rIxT K) ta (tC (.int (k : Int)))) Γ Γ1 (altO x f g) :=
  ev_altO (T := fun te => tOp (rIxT K) te (tC (.int (k : Int)))) (fun _ hz => ev_ixU hz hl) (fun _ hz => ev_ixU hz hr) h
/-- the second of them -/
def altR {α β : Type} : α ⊕ β → Option β
  | .inl _ => none
  | .inr b => some b
def altL {α β : Type} : α ⊕ β → Option α
  | .inl a => some a
  | .inr _ => none
theorem ev_altR {x : α ⊕ β} (h : EvX (rAlt ra rb) te Γ Γ1 x) (e : altR x = some b) : EvX rb te Γ Γ1 b := by
  cases x with
  | inl a => cases e
  | inr y => cases e; exact un_inr h
theorem ev_altL {x : α ⊕ β} (h : EvX (rAlt ra rb) te Γ Γ1 x) (e : altL x = some a) : EvX ra te Γ Γ1 a := by
  cases x with
  | inl y => cases e; exact un_inl h
  | inr y => cases e
end
end G

set_option maxHeartbeats 4000000
/-! # G: enumerate(tuple) -/
namespace G
variable [TabL]

open PySem PySem.Spec PyProof.Rows L2
/-- enumerate(v) with the count at its start: what it makes -/
def enObj (N : Nat) : Obj := { cls := .type "enumerate", data := .fields #[.none, .bool false, .ref N, rawInt 0, .none, .none] }
set_option maxHeartbeats 8000000 in
theorem en_meets {x : Value} {o : Obj} {P : Heap → Prop} (B : Begins x o P) :
    Meets (Builtin.«enumerate.__new__» ⟨[.type "enumerate", x], []⟩)
      (fun _ R s => P s.heap ∧ R (.ok (.ret (.ref (s.heap.push o).objs.size))) { s with heap := (s.heap.push o).push (enObj s.heap.objs.size) }) :=
  .of_wp fun prog w A R s h => by
    obtain ⟨hh, gg, dd, tt, oo⟩ := s
    obtain ⟨hP, hR⟩ := h
    have hs := sub_enumerate
    have itr : ∀ {A' : Around} {E Q : Value → Shared → Prop}, Q (.ref hh.objs.size) ⟨hh.push o, gg, dd, tt, oo⟩ → wpAny (model prog w) A' (pyIter x) Q E ⟨hh, gg, dd, tt, oo⟩ := fun q => B.iter prog w _ _ ⟨hh, gg, dd, tt, oo⟩ _ hP q
    wp_walk using itr
    refine wpAny_stack_any (fun ss => wpAny_pure ?_)
    split
    · rename_i cc _ _ _ _ _
      cases (cc == Value.type "enumerate") <;> (wp_walk using itr; exact ⟨_, rfl, hR⟩)
    · wp_walk using itr; exact ⟨_, rfl, hR⟩
theorem en_call {prog : Program} {w : World} {A : Around} {E Q : Value → Shared → Prop} {s : Shared} {x : Value} {o : Obj} {P : Heap → Prop} (B : Begins x o P) (hP : P s.heap)
    (h : ∀ h', IsEnum h' (s.heap.objs.size + 1) s.heap.objs.size 0 .none → h'.get? s.heap.objs.size = some o → (∀ b ob, s.heap.get? b = some ob → h'.get? b = some ob) → Q (.ref (s.heap.objs.size + 1)) { s with heap := h' }) :
    wpAny (model prog w) A (call (.type "enumerate") [x]) Q E s := by
  refine callType_new F.called_enumerate (by decide) (F.typeCall_enumerate_1 _) (F.newCall_enumerate_1 _) (fun q => F.args_object_init_2 q _) F.entry_enumerate_new (en_meets B) ⟨hP, ?_⟩
  have z1 : (s.heap.push o).objs.size = s.heap.objs.size + 1 := Heap.size_push ..
  have z2 : IsEnum ((s.heap.push o).push (enObj s.heap.objs.size)) (s.heap.objs.size + 1) s.heap.objs.size 0 .none := by
    have z3 := Heap.get?_push_size (s.heap.push o) (o := enObj s.heap.objs.size) rfl
    rw [z1] at z3; exact z3
  show _ ∧ _
  rw [z1]
  exact ⟨⟨_, z2, rfl⟩, h _ z2 (Heap.get?_push_of_some _ (Heap.get?_push_size _ B.free)) (fun b ob y => Heap.get?_push_of_some _ (Heap.get?_push_of_some _ y))⟩
theorem en_end {prog : Program} {w : World} {A : Around} {E : Value → Shared → Prop} {Q : Option Value → Shared → Prop} {s : Shared} {e it a : Addr} {i : Nat} {items : Array Value} {old : Value} (hh : A.handled = none) (he : IsEnum s.heap e it i old) (hit : s.heap.IsTupleIter it a i) (ha : s.heap.IsTuple a items) (hx : items[i]? = none)
    (k : ∀ h', Heap.ExtBut it s.heap h' → Q none { s with heap := h' }) : wpAny (model prog w) A (pyNext (.ref e)) Q E s := by
  have ty : s.TypeIs (.ref e) "enumerate" := ⟨_, he, rfl⟩
  unfold pyNext
  refine wpAny_bind (wpAny_attempt (wpAny_callSpecial?_slot (name := Str.ofString "__next__") ty F.slot_enumerate_next (wpAny_call_entry F.slot_enumerate_next ty F.entry_enumerate_next ?_ (F.args_enumerate_next_1 _))))
  show wpAny _ _ ((field (.ref e) 2) >>= _) _ _ _
  refine wpAny_bind (wpAny_field (he) rfl (x := .ref it) rfl ?_)
  refine wpAny_bind (wpAny_nextOf_tuple_end hh hit ha hx fun h' x ex hc => ?_)
  obtain ⟨ob, hob, hcl⟩ := hc
  exact wpAny_bind (wpAny_isInstance (T := "StopIteration") (b := true) ⟨ob, hob, hcl⟩ isSubtype_stop (wpAny_pure (k _ ex)))
/-- the tuple at a, each item in a new pair -/
def IteT (K : PySem.W.Frag) (a : Addr) : It :=
  ⟨fun i H => ∃ (xs : List V) (x : V), SqT K H a xs ∧ xs[i]? = some x, fun i H v H' => ∃ T x, v = .ref T ∧ H T = none ∧ H' = upd H T (.tup [.int (i : Nat), x]) ∧ ∀ xs, SqT K H a xs → xs[i]? = some x, fun i H => ∃ xs : List V, SqT K H a xs ∧ xs.length ≤ i⟩
theorem en_turn {P : Program} {w : World} {K : PySem.W.Frag} {elts : List Expr} {kk : Nat} {tpos : Pos} (a e it : Addr) :
    Turn P w K (.Tuple elts kk tpos) (IteT K a) [e, it] e (fun i h => (∃ old, IsEnum h e it ((i : Nat) : Int) old) ∧ h.IsTupleIter it a i ∧ e ≠ it) where
  mem := by simp
  obj := fun i h ⟨⟨old, he⟩, ⟨o, ho, hc, hd⟩, _⟩ b hb => by
    rcases (show b = e ∨ b = it by simpa using hb) with rfl | rfl
    · exact ⟨_, he, fun v q => nomatch q⟩
    · exact ⟨o, ho, fun v q => by rw [hd] at q; cases q⟩
  keep := fun i h h' ⟨⟨old, he⟩, hi, hne⟩ k => ⟨⟨old, k e (by simp) _ he⟩, hi.at (fun o q => k it (by simp) o q), hne⟩
  item := by
    intro X hP hw hK hc i pins s σ H E I hf st hg
    subst hP; subst hw; subst hK
    obtain ⟨⟨old, he⟩, hit, hne⟩ := st
    obtain ⟨xs, x, hq, hx⟩ := hg
    obtain ⟨its, rv, p, _⟩ := I.tuple hq
    obtain ⟨u, hu, ru⟩ := rv.get hx
    have hsz : i < its.toArray.size := by
      have := (List.getElem?_eq_some_iff.mp hu).1
      simpa using this
    have hta : s.heap.IsTuple a its.toArray := p
    have nea : e ≠ a := by
      rintro rfl
      obtain ⟨o2, q2, c2, _⟩ := hta
      have := he.symm.trans q2; cases this
      injection c2 with z; exact absurd z (by decide)
    have nia : a ≠ it := by
      rintro rfl
      obtain ⟨o2, q2, c2, _⟩ := hta
      obtain ⟨o3, q3, c3, _⟩ := hit
      have := q3.symm.trans q2; cases this
      rw [c2] at c3; injection c3 with z; exact absurd z (by decide)
    have hel : e < s.heap.objs.size := Heap.lt_size he
    have hil : it < s.heap.objs.size := by obtain ⟨_, q, _⟩ := hit; exact Heap.lt_size q
    refine wpAny_pyNext_enum_itemD (Draws.tuple (A := X.A.in1) (I.ok.hd hc) it a nia its.toArray) he ⟨hit, hta⟩ hsz hne (by simp [hne, nea]) fun y h' tk hy ho hit' hT hz hk => ?_
    have : u = y := by
      have e1 : its.toArray[i]? = some u := by simpa using hu
      rw [e1] at hy; exact Option.some.inj hy
    subst this
    refine ⟨_, rfl, wpAny_letOwnedTupleGo_enum (s := { s with heap := h', toks := tk + 1 }) ho fun h2 he2 sb => ?_⟩
    have hT2 : h2.get? s.heap.objs.size = some { cls := .type "tuple", data := .seq #[.int i tk, u] } := (sb.2 _ (Nat.ne_of_gt hel)).trans hT
    have new : ObjOk X.prog X.w (upd H s.heap.objs.size (.tup [.int (i : Nat), x])) h2 s.heap.objs.size (.tup [.int (i : Nat), x]) :=
      ⟨by show 2 ≤ sizeLine; decide, [.int i tk, u], .cons ⟨_, rfl⟩ (.cons ru .nil), ⟨_, hT2, rfl, _, rfl⟩⟩
    have I1 : Inv X pins σ (upd H s.heap.objs.size (.tup [.int (i : Nat), x])) { s with heap := h2, toks := tk + 1 } :=
      I.turnedNew (ch := [e, it]) (fun b ob hb q => (sb.2 b (fun z => hb (by simp [z]))).trans (hk b ob (fun z => hb (by simp [z])) (fun z => hb (by simp [z])) q)) hf (Nat.le_refl _) new
    refine ⟨.ref s.heap.objs.size, _, I1, rfl, ⟨_, x, rfl, I.hok.fresh (Nat.le_refl _), rfl, fun ys hy => by rw [I.tuple_inj hy hq]; exact hx⟩, ⟨⟨u, ?_⟩, hit'.1.at fun o q => (sb.2 it (Ne.symm hne)).trans q, hne⟩, fun b hb => ?_⟩
    · rw [show ((i + 1 : Nat) : Int) = (i : Int) + 1 by omega]; exact he2
    · have hb' : b < s.heap.objs.size := by
        rcases (show b = e ∨ b = it by simpa using hb) with z | z
        · rw [z]; exact hel
        · rw [z]; exact hil
      rw [upd_ne (Nat.ne_of_lt hb')]
      exact (hf b hb).1
  done := by
    intro X hP hw hK hc i pins s σ H E I hf st hg
    subst hP; subst hw; subst hK
    obtain ⟨⟨old, he⟩, hit, hne⟩ := st
    obtain ⟨xs, hq, hx⟩ := hg
    obtain ⟨its, rv, p, _⟩ := I.tuple hq
    have hta : s.heap.IsTuple a its.toArray := p
    obtain ⟨f0, f1, f2, f3, f4, f5⟩ := hf it (by simp)
    have hl := rv.length
    have nia : a ≠ it := by
      rintro rfl
      obtain ⟨o2, q2, c2, _⟩ := hta
      obtain ⟨o3, q3, c3, _⟩ := hit
      have := q3.symm.trans q2; cases this
      rw [c2] at c3; injection c3 with z; exact absurd z (by decide)
    exact en_end (I.ok.hd hc) he hit hta (by simp; omega) fun h' eb => ⟨rfl, I.turned (t' := s.toks) (fun b o hb q => eb b o hb q) f0 f1 f3 f4 f5⟩
  self := fun A i s Q E ⟨⟨_, he⟩, _⟩ h => wpAny_pyIter_enum he h
def iEnumT (K : PySem.W.Frag) (ta : TA) : TI := fun σ H R => ta σ H fun vs H1 => ∃ a xs, vs = [.ref a] ∧ SqT K H1 a xs ∧ R (IteT K a) H1
theorem pi_enumT {X : Cx} {e : Expr} {ta : TA} {p pos tpos : Pos} {elts : List Expr} {kk : Nat} (hg : Gl X "enumerate") (hm : X.mg "enumerate" = none) (ha : PA X [e] ta) (hs : starEach [e] X.env = [(false, eval e X.env)] := by rfl) :
    PI X (.Tuple elts kk tpos) (.Call (.Name "enumerate" p) [e] [] pos) (iEnumT X.K ta) := ⟨fun pins s σ H R I h => by
  refine Call_ (ld_blt I hg hm boot_enumerate (PyProof.Rows.callWith_type1 (thn (ha.run pos pins s σ H _ I h) fun us s1 ⟨vs, H1, I1, r1, a, xs, ex, hq, q⟩ => ?_) hs rfl))
  subst ex
  cases r1 with
  | cons r rr =>
    cases rr; cases r
    obtain ⟨its, rv, p', _⟩ := I1.tuple hq
    have ht : s1.heap.IsTuple a its.toArray := p'
    refine en_call (begins_tuple a its.toArray) ht fun h' he hit hk => wpAny_pyIter_enum he ?_
    have I2 : Inv X pins σ H1 { s1 with heap := h' } := I1.kept (t' := s1.toks) hk
    refine ⟨s1.heap.objs.size + 1, [s1.heap.objs.size + 1, s1.heap.objs.size], _, _, H1, rfl, I2, en_turn a (s1.heap.objs.size + 1) s1.heap.objs.size, ⟨⟨.none, he⟩, ⟨_, hit, rfl, rfl⟩, Nat.succ_ne_self _⟩, fun b hb => ?_, q⟩
    have hle : s1.heap.objs.size ≤ b := by
      rcases (show b = s1.heap.objs.size + 1 ∨ b = s1.heap.objs.size by simpa using hb) with z | z
      · rw [z]; exact Nat.le_add_right _ _
      · rw [z]; exact Nat.le_refl _
    exact I1.fpOk hle (I1.hok.fresh hle)⟩
section
variable {α : Type} {r : Rp α} {te : TE} {Γ Γ1 : List Sl} {xs : List α} {K : PySem.W.Frag}
theorem it_enumT (h : EvX (rTpl r) te Γ Γ1 xs) : ItX (rTup (wC rInt (w1 r))) (iEnumT K (tCons te tNil)) Γ Γ1 (enumL xs) := fun A σ H B F R q => h A σ H B F _ fun v H' B' F' s k => by
  obtain ⟨p, o, rfl, hp, vs, rfl, kp⟩ := k
  refine ⟨p, vs, rfl, SqT.of (F'.bh _ _ hp), q _ H' B' F' s ⟨by rw [enumL_len, ← Paired.len kp]; exact F'.sz _ _ (F'.bh _ _ hp), fun H2 B2 s1 s2 => ?_, fun i H2 B2 s1 s2 hi => ?_, fun i x H2 B2 v H3 s1 s2 hx hy A σ Γ F => ?_⟩⟩
  · exact ⟨vs, SqT.of (s2 _ _ (s1 _ _ hp)), by rw [enumL_len, Paired.len kp]; exact Nat.le_refl _⟩
  · rw [enumL_len] at hi
    obtain ⟨y, hy⟩ : ∃ y, vs[i]? = some y := ⟨_, List.getElem?_eq_getElem (by rw [Paired.len kp]; exact hi)⟩
    exact ⟨vs, y, SqT.of (s2 _ _ (s1 _ _ hp)), hy⟩
  · obtain ⟨T, y', rfl, hT, rfl, hv⟩ := hy
    obtain ⟨a, ha, rfl⟩ := enumF_get hx
    obtain ⟨y2, hy', ky⟩ := Paired.getR kp ha
    have e := (hv vs (SqT.of (s2 _ _ (s1 _ _ hp)))).symm
    rw [hy'] at e; obtain rfl := Option.some.inj e
    have hB : B2 T = none := by
      cases q : B2 T with
      | none => rfl
      | some u => have := F.bh T u q; rw [hT] at this; cases this
    have s' : Same B2 (upd B2 T (.tup [.int (i : Nat), y'])) := fun b u e => by rw [upd_ne (ne_of_none e hB)]; exact e
    refine ⟨_, F.plus (o := .tup [.int (i : Nat), y']) hT (by show 2 ≤ sizeLine; decide), s', T, _, rfl, upd_same, _, rfl, .int (i : Nat), [y'], rfl, ?_, y', rfl, r.mono s' (r.mono s1 ky)⟩
    show V.int (i : Nat) = V.int ((0 + i : Nat) : Int)
    rw [Nat.zero_add]
/-- what the second part changes is known no more -/
theorem ev_andF {ta tb : TE} {a b : Bool} (i : Nat) (h1 : EvX rBool ta Γ Γ1 a) (h2 : a = true → ∃ Γ2, EvX rBool tb Γ1 Γ2 b ∧ Γ2.set i .no = Γ1.set i .no) (h3 : a = false → b = false) : EvX rBool (tAndV ta tb) Γ (Γ1.set i .no) b := fun A σ H B F Q q => h1 A σ H B F _ fun v H' B' F' s k => ⟨a, k, by
  cases a with
  | true =>
    obtain ⟨Γ2, e, w⟩ := h2 rfl
    exact e A σ H' B' F' Q fun v2 H2 B2 F2 s2 k2 => q v2 H2 B2 (w ▸ F2.forget i) (s.trans s2) k2
  | false => obtain rfl := h3 rfl; exact q _ H' B' (F'.forget i) s rfl⟩
end
end G

set_option maxHeartbeats 4000000
/-! # G: dicts whose keys are tuples in tuples -/
namespace G
variable [TabL]

open PySem PySem.Spec PyProof.Rows L2
abbrev NK := NestedKey
abbrev NE := NK × Addr × V
abbrev KN : List NE → List (NK × Addr × Value) → Prop := Paired fun p q => p.1 = q.1 ∧ p.2.1 = q.2.1 ∧ RelV p.2.2 q.2.2
def RawN (P : Program) (w : World) (a : Addr) (o : Obj) (kvs : List NE) (h : Heap) : Prop :=
  kvs.length ≤ sizeLine ∧ (a == sysModules) = false ∧ (kvs.map (·.1)).Nodup ∧ ∃ xs, KN kvs xs ∧ h.get? a = some o ∧ o.ExactDict ∧ ∃ es ep, o.data = .dict es ep ∧ es.toList = xs.map (entryOfKey (nestedKind P w))
/-- a dict with such keys, at a: the object o -/
def dNO (P : Program) (w : World) (a : Addr) (o : Obj) (kvs : List NE) : HO := .ext (RawN P w a o kvs)
def valN (kvs : List NE) (k : NK) : Option V := (kvs.find? fun e => decide (e.1 = k)).map (·.2.2)
def putN (kvs : List NE) (k : NK) (b : Addr) (v : V) : List NE := if (kvs.any fun e => decide (e.1 = k)) = true then kvs.map (fun e => if e.1 = k then (e.1, e.2.1, v) else e) else kvs ++ [(k, b, v)]
theorem putN_len (kvs : List NE) (k : NK) (b : Addr) (v : V) : (putN kvs k b v).length ≤ kvs.length + 1 := by
  unfold putN
  split
  · rw [List.length_map]; omega
  · rw [List.length_append, List.length_singleton]; omega
theorem valN_any (k : NK) : ∀ kvs : List NE, (kvs.any fun e => decide (e.1 = k)) = (valN kvs k).isSome
  | [] => rfl
  | e :: r => by
    rw [List.any_cons, valN_any k r]
    unfold valN
    by_cases h : e.1 = k
    · rw [List.find?_cons_of_pos (by simpa using h), decide_eq_true h]; rfl
    · rw [List.find?_cons_of_neg (by simpa using h), decide_eq_false h, Bool.false_or]
theorem KN.val (k : NK) : ∀ {kvs : List NE} {xs : List (NK × Addr × Value)}, KN kvs xs → RelO (valN kvs k) ((atKey xs k).map (·.2))
  | _, _, .nil => True.intro
  | _, _, .cons (a := p) (b := q) (l₁ := ps) (l₂ := qs) h t => by
    have ih := KN.val k t
    unfold valN atKey at ih ⊢
    by_cases e : p.1 = k
    · rw [List.find?_cons_of_pos (by simpa using e), List.find?_cons_of_pos (by simpa using h.1.symm.trans e)]
      exact h.2.2
    · rw [List.find?_cons_of_neg (by simpa using e), List.find?_cons_of_neg (by simpa using fun z => e (h.1.trans z))]
      exact ih
theorem KN.repl (k : NK) {v : V} {u : Value} (r : RelV v u) : ∀ {kvs : List NE} {xs : List (NK × Addr × Value)}, KN kvs xs → KN (kvs.map fun e => if e.1 = k then (e.1, e.2.1, v) else e) (xs.map (putAt k u))
  | _, _, .nil => .nil
  | _, _, .cons (a := p) (b := q) h t => by
    rw [List.map_cons, List.map_cons]
    refine .cons ?_ (KN.repl k r t)
    unfold putAt
    by_cases e : p.1 = k
    · rw [if_pos e, if_pos (h.1.symm.trans e)]; exact ⟨h.1, h.2.1, r⟩
    · rw [if_neg e, if_neg fun z => e (h.1.trans z)]; exact h
theorem KN.put {kvs : List NE} {xs : List (NK × Addr × Value)} (h : KN kvs xs) (k : NK) (b : Addr) {v : V} {u : Value} (r : RelV v u) : KN (putN kvs k b v) (storedH xs k b u) := by
  have e : (kvs.any fun e => decide (e.1 = k)) = (atKey xs k).isSome := by rw [valN_any, (h.val k).isSome_eq, Option.isSome_map]
  unfold putN storedH
  rw [e]
  by_cases q : (atKey xs k).isSome = true
  · rw [if_pos q, if_pos q]; exact h.repl k r
  · rw [if_neg q, if_neg q]; exact Paired.snoc h ⟨rfl, rfl, r⟩
theorem KN.keys : ∀ {kvs : List NE} {xs : List (NK × Addr × Value)}, KN kvs xs → kvs.map (·.1) = xs.map (·.1)
  | _, _, .nil => rfl
  | _, _, .cons h t => by rw [List.map_cons, List.map_cons, h.1, KN.keys t]
def NkOk (P : Program) (w : World) (H : Hp) (b : Addr) (k : NK) : Prop := k.depth ≤ 8 ∧ ∀ h, HOk P w H h → NestedIs h k (.ref b)
def AllK (P : Program) (w : World) (H : Hp) (kvs : List NE) : Prop := ∀ e ∈ kvs, NkOk P w H e.2.1 e.1
section
variable {P : Program} {w : World} {H : Hp} {h : Heap} {a : Addr} {o : Obj} {kvs : List NE}
theorem dn_mk (r : RawN P w a o kvs h) : ObjOk P w H h a (dNO P w a o kvs) := by
  refine ⟨r, ?_, fun h1 h2 r k => ?_⟩
  · obtain ⟨_, _, _, _, _, e, _⟩ := r; exact ⟨o, e⟩
  · obtain ⟨z, y, nd, xs, kn, e, q⟩ := r
    exact ⟨z, y, nd, xs, kn, k o e, q⟩
theorem dn_of (ok : HOk P w H h) (e : H a = some (dNO P w a o kvs)) : RawN P w a o kvs h := (show ObjOk P w H h a (dNO P w a o kvs) from ok a _ e).1
theorem dn_dict (ok : HOk P w H h) (e : H a = some (dNO P w a o kvs)) (ak : AllK P w H kvs) : kvs.length ≤ sizeLine ∧ (a == sysModules) = false ∧ ∃ xs, KN kvs xs ∧ h.DictOfH (nestedKind P w) a xs := by
  obtain ⟨z, y, nd, xs, kn, e1, e2, es, ep, e3, e4⟩ := dn_of ok e
  refine ⟨z, y, xs, kn, o, es, ep, e1, e2, e3, e4, fun x hx => ?_, by rw [← kn.keys]; exact nd⟩
  have all : ∀ {l : List NE} {m : List (NK × Addr × Value)}, KN l m → (∀ e ∈ l, NkOk P w H e.2.1 e.1) → ∀ x ∈ m, (nestedKind P w).is h x.1 x.2.1 := by
    intro l m q
    induction q with
    | nil => intro _ x hx; exact nomatch hx
    | cons hq t ih =>
      intro hk x hx
      rcases List.mem_cons.mp hx with rfl | hx
      · have := hk _ List.mem_cons_self
        rw [hq.1, hq.2.1] at this
        exact ⟨this.2 h ok, this.1⟩
      · exact ih (fun e he => hk e (List.mem_cons_of_mem _ he)) x hx
  exact all kn ak x hx
end
/-! ### readings -/
def tDNewN (P : Program) (w : World) : TE := fun _ H Q => ∀ p o, H p = none → Q (.ref p) (upd H p (dNO P w p o []))
/-- what the dict at x holds at the key y -/
def NGet (P : Program) (w : World) (H : Hp) (x y : V) (a : Addr) (r : Option V) : Prop := ∃ o kvs b k, x = .ref a ∧ H a = some (dNO P w a o kvs) ∧ AllK P w H kvs ∧ y = .ref b ∧ NkOk P w H b k ∧ r = valN kvs k
def tNGet (P : Program) (w : World) (td ty : TE) : TE := fun σ H Q => td σ H fun x H1 => ty σ H1 fun y H2 => ∃ a v, NGet P w H2 x y a (some v) ∧ Q v H2
def tNIn (P : Program) (w : World) (ty td : TE) : TE := fun σ H Q => ty σ H fun y H1 => td σ H1 fun x H2 => ∃ a o, NGet P w H2 x y a o ∧ Q (.bl o.isSome) H2
def tNNotIn (P : Program) (w : World) (ty td : TE) : TE := fun σ H Q => ty σ H fun y H1 => td σ H1 fun x H2 => ∃ a o, NGet P w H2 x y a o ∧ Q (.bl (!o.isSome)) H2
def tNGet1 (P : Program) (w : World) (td ty : TE) : TE := fun σ H Q => td σ H fun x H1 => (∃ a o kvs, x = .ref a ∧ H1 a = some (dNO P w a o kvs)) ∧ ty σ H1 fun y H2 => ∃ a o, NGet P w H2 x y a o ∧ Q (o.getD .non) H2
def sNPut (P : Program) (w : World) (td ty tv : TE) : TS := fun D σ H => tv σ H fun v H1 => td σ H1 fun x H2 => ty σ H2 fun y H3 => ∃ a o kvs b k, x = .ref a ∧ H3 a = some (dNO P w a o kvs) ∧ AllK P w H3 kvs ∧ y = .ref b ∧ NkOk P w H3 b k ∧ kvs.length < sizeLine ∧ ∀ o', D.nx σ (upd H3 a (dNO P w a o' (putN kvs k b v)))
section
variable {X : Cx} {o i e value : Expr} {pos pos' tpos apos cpos : Pos} {td ty tv : TE}
theorem pe_dnewN : PE X (.Dict [] [] pos) (tDNewN X.prog X.w) := ⟨fun pins s σ H Q I h =>
  wpAny_Dict_empty ⟨.ref s.heap.objs.size, _, I.laid (a := s.heap.objs.size) (o := dNO X.prog X.w s.heap.objs.size { cls := .type "dict", data := .dict #[] } []) (t' := s.toks) (fun _ _ q => Heap.get?_push_of_some _ q) (Nat.le_refl _)
    (dn_mk ⟨Nat.zero_le _, beq_eq_false_iff_ne.mpr (Ne.symm (Nat.ne_of_lt I.big)), List.nodup_nil, [], .nil, Heap.get?_push_size _ rfl, ⟨rfl, rfl, rfl⟩, #[], 0, rfl, rfl⟩), rfl, h _ _ (I.hok.fresh (Nat.le_refl _))⟩⟩
theorem ng_type {pins : List (Addr × Obj)} {σ : L2.St} {H : Hp} {s : Shared} {a : Addr} {ob : Obj} {kvs : List NE} (I : Inv X pins σ H s) (e : H a = some (dNO X.prog X.w a ob kvs)) : s.TypeIs (.ref a) "dict" ∧ (∀ b, Value.ref a = .ref b → ∃ ob, s.heap.get? b = some ob ∧ ob.dict = none) := by
  obtain ⟨_, _, _, xs, _, e1, e2, _⟩ := dn_of I.hok e
  exact ⟨⟨ob, e1, e2.1⟩, fun b q => by cases q; exact ⟨ob, e1, e2.2.1⟩⟩
theorem pe_nget (hu : X.A.in1.units + 8 < cLine) (ho : PE X o td) (hi : PE X i ty) (hs : NoSl i) : PE X (.Subscript o i pos) (tNGet X.prog X.w td ty) := ⟨fun pins s σ H Q I h => by
  refine subD_of PySem.F.slot_dict_getitem.lookup hs (thn (ho.run pins s σ H _ I h) fun u s1 ⟨x, H1, I1, rx, q1⟩ => thn (hi.run pins s1 σ H1 _ I1 q1) fun iv s2 ⟨y, H2, I2, ry, a, v, g, q2⟩ => ?_)
  obtain ⟨od, kvs, b, k, rfl, hp, ak, rfl, nk, l⟩ := g
  obtain rfl : u = Value.ref a := rx
  obtain rfl : iv = Value.ref b := ry
  obtain ⟨z, hd, xs, kn, dd⟩ := dn_dict I2.hok hp ak
  obtain ⟨w', hw, rw'⟩ := RelO.some_of (v := v) (o := (atKey xs k).map (·.2)) (by rw [l]; exact kn.val k)
  obtain ⟨p, hp1, hp2⟩ := Option.map_eq_some_iff.mp hw
  refine ⟨(ng_type I2 hp).1, wpAny_getItem_heap (knd := nestedKind X.prog X.w) hu ⟨nk.2 _ I2.hok, nk.1⟩ dd hp1 ?_⟩
  rw [hp2]
  exact ⟨v, H2, I2.tok _, rw', q2⟩⟩
theorem pc_nin (hu : X.A.in1.units + 8 < cLine) (hi : PE X i ty) (ho : PE X o td) : PC X .In i o (tNIn X.prog X.w ty td) := ⟨fun pins s σ H Q I h => by
  refine thn (hi.run pins s σ H _ I h) fun iv s1 ⟨y, H1, I1, ry, q1⟩ => thn (ho.run pins s1 σ H1 _ I1 q1) fun u s2 ⟨x, H2, I2, rx, a, ov, g, q2⟩ => ?_
  obtain ⟨od, kvs, b, k, rfl, hp, ak, rfl, nk, rfl⟩ := g
  obtain rfl : u = Value.ref a := rx
  obtain rfl : iv = Value.ref b := ry
  obtain ⟨z, hd, xs, kn, dd⟩ := dn_dict I2.hok hp ak
  refine wpAny_in_heap (knd := nestedKind X.prog X.w) hu ⟨nk.2 _ I2.hok, nk.1⟩ hd dd ?_
  have q := (kn.val k).isSome_eq
  rw [Option.isSome_map] at q
  exact ⟨.bl _, H2, I2.tok _, by show _ = _; rw [q], q2⟩⟩
theorem pc_nnotin (hu : X.A.in1.units + 8 < cLine) (hi : PE X i ty) (ho : PE X o td) : PC X .NotIn i o (tNNotIn X.prog X.w ty td) := ⟨fun pins s σ H Q I h => by
  refine thn (hi.run pins s σ H _ I h) fun iv s1 ⟨y, H1, I1, ry, q1⟩ => thn (ho.run pins s1 σ H1 _ I1 q1) fun u s2 ⟨x, H2, I2, rx, a, ov, g, q2⟩ => ?_
  obtain ⟨od, kvs, b, k, rfl, hp, ak, rfl, nk, rfl⟩ := g
  obtain rfl : u = Value.ref a := rx
  obtain rfl : iv = Value.ref b := ry
  obtain ⟨z, hd, xs, kn, dd⟩ := dn_dict I2.hok hp ak
  refine wpAny_notIn_heap (knd := nestedKind X.prog X.w) hu ⟨nk.2 _ I2.hok, nk.1⟩ hd dd ?_
  have q := (kn.val k).isSome_eq
  rw [Option.isSome_map] at q
  exact ⟨.bl _, H2, I2.tok _, by show _ = _; rw [q], q2⟩⟩
theorem pe_nget1 (hu : X.A.in1.units + 8 < cLine) (ho : PE X o td) (he : PE X e ty) (m : M1 X o "get" apos e cpos) : PE X (.Call (.Attribute o "get" apos) [e] [] cpos) (tNGet1 X.prog X.w td ty) := ⟨fun pins s σ H Q I h => by
  refine wpAny_Call_method m.base m.few m.line PySem.F.plainAttrs_dict PySem.F.slot_dict_get PySem.F.type_dict_get (thn (ho.run pins s σ H _ I h) fun u s1 ⟨x, H1, I1, rx, q0, q1⟩ => ?_)
  obtain ⟨a0, o0, kvs0, ex0, hp0⟩ := q0
  subst ex0
  obtain rfl : u = Value.ref a0 := rx
  obtain ⟨t1, t2⟩ := ng_type I1 hp0
  refine ⟨t1, t2, ?_⟩
  rw [m.trees]
  refine Calls.callWith_builtin rfl (Calls.evalArgs_plain (Calls.spliced_cons (thn (he.run pins s1 σ H1 _ I1 q1) fun iv s2 ⟨y, H2, I2, ry, a, ov, g, q2⟩ => Calls.spliced_nil ?_)))
  obtain ⟨od, kvs, b, k, ex, hp, ak, rfl, nk, rfl⟩ := g
  cases ex
  obtain rfl : iv = Value.ref b := ry
  obtain ⟨z, hd, xs, kn, dd⟩ := dn_dict I2.hok hp ak
  exact call_meetsIn PySem.F.slot_dict_get dd.typeIs PySem.F.entry_dict_get (PySem.F.args_dict_get_2 _ _) (meetsH_dict_get (nestedKind X.prog X.w) a0 b hd) ⟨hu, k, xs, ⟨nk.2 _ I2.hok, nk.1⟩, dd, ⟨_, H2, I2.tok _, RelO.getD (d := V.non) (d' := Value.none) (kn.val k) (show Value.none = Value.none from rfl), q2⟩⟩⟩
theorem putN_nodup {kvs : List NE} {k : NK} {b : Addr} {v : V} (h : (kvs.map (·.1)).Nodup) : ((putN kvs k b v).map (·.1)).Nodup := by
  unfold putN
  split
  · rw [List.map_map]
    have : ((fun e : NE => e.1) ∘ fun e : NE => if e.1 = k then (e.1, e.2.1, v) else e) = fun e => e.1 := by
      funext e
      show (if e.1 = k then (e.1, e.2.1, v) else e).1 = e.1
      split <;> rfl
    rw [this]; exact h
  · rename_i hn
    rw [List.map_append]
    refine List.nodup_append.mpr ⟨h, by simp, fun x hx y hy e => ?_⟩
    have hy' : y = k := by simpa using hy
    obtain ⟨z, hz, rfl⟩ := List.mem_map.mp hx
    exact hn (List.any_eq_true.mpr ⟨z, hz, decide_eq_true (e.trans hy')⟩)
theorem ps_nput (hu : X.A.in1.units + 8 < cLine) (ho : PE X o td) (hi : PE X i ty) (hv : PE X value tv) (hs : swapsWith value (some (.Subscript o i pos')) pos.line X.env = pure false) :
    PS X (.Assign [.Subscript o i pos'] value pos) (sNPut X.prog X.w td ty tv) := ⟨fun pins s σ H D I h => by
  refine wpAny_Assign_Subscript (thn (hv.run pins s σ H _ I h) fun r s1 ⟨v, H1, I1, rv, q1⟩ => thn (ho.run pins s1 σ H1 _ I1 q1) fun u s2 ⟨x, H2, I2, rx, q2⟩ => thn (hi.run pins s2 σ H2 _ I2 q2) fun iv s3 ⟨y, H3, I3, ry, a, od, kvs, b, k, ex, hp, ak, ey, nk, hl, q3⟩ => ?_) hs
  subst ex ey
  obtain rfl : u = Value.ref a := rx
  obtain rfl : iv = Value.ref b := ry
  obtain ⟨z, hd, xs, kn, dd⟩ := dn_dict I3.hok hp ak
  have nd := (dn_of I3.hok hp).2.2.1
  refine wpAny_setItem_heap (knd := nestedKind X.prog X.w) (hsz := by rw [← Paired.len kn]; exact z) hu ⟨nk.2 _ I3.hok, nk.1⟩ dd fun h' dd' hs => ?_
  obtain ⟨q, es, ep, hq, h2, h3, h4, _, h5⟩ := dd'
  refine ⟨σ, _, ?_, q3 q⟩
  refine d_write I3 (by rw [hp]; exact True.intro) hs ⟨q, hq⟩ (dn_mk ⟨?_, hd, putN_nodup nd, _, kn.put k b rv, hq, h2, es, ep, h3, h4⟩)
  have := putN_len kvs k b v
  omega⟩
end
end G

set_option maxHeartbeats 4000000
/-! # G: such dicts: what an expression gives -/
namespace G
variable [TabL]

open PySem PySem.Spec PyProof.Rows L2
/-- a key that is a tuple -/
structure KyN {κ : Type} [DecidableEq κ] (r : Rp κ) where
  key : κ → NK
  inj : ∀ {a b}, key a = key b → a = b
  dep : ∀ k, (key k).depth ≤ 8
  ref : ∀ {H v k}, r.rel H v k → ∃ b, v = .ref b
  is : ∀ {P w} {H : Hp} {h : Heap} {b : Addr} {k : κ}, HOk P w H h → r.rel H (.ref b) k → NestedIs h (key k) (.ref b)
section
variable {P : Program} {w : World} {κ β α γ : Type} [DecidableEq κ] {rk : Rp κ} {rv : Rp β} {r : Rp α} {te ta tb tk tv : TE} {Γ Γ1 Γ2 : List Sl} {K : PySem.W.Frag}
def NRel (ky : KyN rk) (rv : Rp β) (H : Hp) (e : NE) (x : κ × β) : Prop := e.1 = ky.key x.1 ∧ rk.rel H (.ref e.2.1) x.1 ∧ rv.rel H e.2.2 x.2
theorem NRel.mono {ky : KyN rk} {H H' : Hp} (s : Same H H') {e : NE} {x : κ × β} (h : NRel ky rv H e x) : NRel ky rv H' e x := ⟨h.1, rk.mono s h.2.1, rv.mono s h.2.2⟩
def rDicN (P : Program) (w : World) (ky : KyN rk) (rv : Rp β) : Rp (List (κ × β)) := ⟨fun H v l => ∃ p o kvs, v = .ref p ∧ H p = some (dNO P w p o kvs) ∧ Paired (NRel ky rv H) kvs l, fun s ⟨p, o, kvs, e, h, k⟩ => ⟨p, o, kvs, e, s _ _ h, Paired.imp2 (fun _ _ q => q.mono s) k⟩⟩
def cDicN (P : Program) (w : World) (p : Addr) (ky : KyN rk) (rv : Rp β) : Cl (List (κ × β)) := ⟨fun H o l => ∃ ob kvs, o = dNO P w p ob kvs ∧ Paired (NRel ky rv H) kvs l, fun s ⟨ob, kvs, e, k⟩ => ⟨ob, kvs, e, Paired.imp2 (fun _ _ q => q.mono s) k⟩⟩
theorem nn_dicN {ky : KyN rk} : NN (rDicN P w ky rv) := fun _ _ _ ⟨p, _, _, e, _⟩ e' => by rw [e'] at e; cases e
theorem nk_ok (ky : KyN rk) {H : Hp} {b : Addr} {k : κ} (h : rk.rel H (.ref b) k) : NkOk P w H b (ky.key k) := ⟨ky.dep k, fun _ ok => ky.is ok h⟩
theorem allKN (ky : KyN rk) {H : Hp} : ∀ {kvs : List NE} {l : List (κ × β)}, Paired (NRel ky rv H) kvs l → AllK P w H kvs
  | _, _, .nil => fun _ z => nomatch z
  | _, _, .cons q t => fun e he => by
    rcases List.mem_cons.mp he with rfl | he
    · have := nk_ok (P := P) (w := w) ky q.2.1
      rw [q.1]; exact this
    · exact allKN ky t e he
theorem any_keyN (ky : KyN rk) {H : Hp} (k : κ) : ∀ {kvs : List NE} {l : List (κ × β)}, Paired (NRel ky rv H) kvs l → (kvs.any fun e => decide (e.1 = ky.key k)) = l.any fun e => decide (e.1 = k)
  | _, _, .nil => rfl
  | _, _, .cons (a := a) (b := b) q t => by
    rw [List.any_cons, List.any_cons, any_keyN ky k t]
    congr 1
    by_cases h : b.1 = k
    · rw [decide_eq_true h, decide_eq_true (by rw [q.1, h])]
    · rw [decide_eq_false h, decide_eq_false fun e => h (ky.inj (by rw [← q.1]; exact e))]
theorem map_pairN (ky : KyN rk) {H : Hp} {k : κ} {v : V} {b : β} (hv : rv.rel H v b) : ∀ {kvs : List NE} {l : List (κ × β)}, Paired (NRel ky rv H) kvs l → Paired (NRel ky rv H) (kvs.map fun e => if e.1 = ky.key k then (e.1, e.2.1, v) else e) (l.map fun e => if e.1 = k then (e.1, b) else e)
  | _, _, .nil => .nil
  | _, _, .cons (a := a) (b := b') q t => by
    rw [List.map_cons, List.map_cons]
    refine .cons ?_ (map_pairN ky hv t)
    by_cases e : b'.1 = k
    · rw [if_pos e, if_pos (by rw [q.1, e])]; exact ⟨q.1, q.2.1, hv⟩
    · rw [if_neg e, if_neg fun z => e (ky.inj (by rw [← q.1]; exact z))]; exact q
theorem put_pairN (ky : KyN rk) {H : Hp} {k : κ} {c : Addr} {v : V} {b : β} (hk : rk.rel H (.ref c) k) (hv : rv.rel H v b) {kvs : List NE} {l : List (κ × β)} (h : Paired (NRel ky rv H) kvs l) : Paired (NRel ky rv H) (putN kvs (ky.key k) c v) (putM l k b) := by
  unfold putN putM
  rw [any_keyN ky k h]
  split
  · exact map_pairN ky hv h
  · exact Paired.app h (.cons ⟨rfl, hk, hv⟩ .nil)
theorem get_pairN (ky : KyN rk) {H : Hp} (k : κ) : ∀ {kvs : List NE} {l : List (κ × β)}, Paired (NRel ky rv H) kvs l → (∀ b, getM l k = some b → ∃ v, valN kvs (ky.key k) = some v ∧ rv.rel H v b) ∧ (getM l k = none → valN kvs (ky.key k) = none)
  | _, _, .nil => ⟨(fun b e => by cases e), fun _ => rfl⟩
  | _, _, .cons (a := a) (b := b) (l₁ := l1) (l₂ := l2) q t => by
    have ih := get_pairN ky k t
    unfold getM valN at ih ⊢
    by_cases h : b.1 = k
    · have h2 : a.1 = ky.key k := by rw [q.1, h]
      rw [List.find?_cons_of_pos (by simpa using h), List.find?_cons_of_pos (by simpa using h2)]
      exact ⟨fun c e => ⟨a.2.2, rfl, by have e' : b.2 = c := Option.some.inj e; exact e' ▸ q.2.2⟩, fun e => by cases e⟩
    · have h2 : ¬ a.1 = ky.key k := fun e => h (ky.inj (by rw [← q.1]; exact e))
      rw [List.find?_cons_of_neg (by simpa using h), List.find?_cons_of_neg (by simpa using h2)]
      exact ih
theorem some_getN (ky : KyN rk) {H : Hp} {k : κ} {kvs : List NE} {l : List (κ × β)} (h : Paired (NRel ky rv H) kvs l) : (valN kvs (ky.key k)).isSome = (getM l k).isSome := by
  obtain ⟨h1, h2⟩ := get_pairN ky k h
  cases q : getM l k with
  | none => rw [h2 q]; rfl
  | some b => obtain ⟨v, e, _⟩ := h1 b q; rw [e]; rfl
theorem ob_dicN (ky : KyN rk) {B H : Hp} {u : V} {l : List (κ × β)} (s : Same B H) (h : (rDicN P w ky rv).rel B u l) : ∃ p o kvs, u = .ref p ∧ H p = some (dNO P w p o kvs) ∧ Paired (NRel ky rv H) kvs l := by
  obtain ⟨p, o, kvs, e, hp, k⟩ := (rDicN P w ky rv).mono s h
  exact ⟨p, o, kvs, e, hp, k⟩
theorem ng_of (ky : KyN rk) {B H : Hp} {u y : V} {k : κ} {l : List (κ × β)} (s : Same B H) (h : (rDicN P w ky rv).rel B u l) (hk : rk.rel B y k) : ∃ p kvs, Paired (NRel ky rv H) kvs l ∧ NGet P w H u y p (valN kvs (ky.key k)) := by
  obtain ⟨p, o, kvs, rfl, hp, kp⟩ := ob_dicN ky s h
  obtain ⟨b, rfl⟩ := ky.ref hk
  exact ⟨p, kvs, kp, o, kvs, b, ky.key k, rfl, hp, allKN ky kp, rfl, nk_ok ky (rk.mono s hk), rfl⟩
theorem ev_nin (ky : KyN rk) {k : κ} {l : List (κ × β)} (hk : EvX rk tk Γ Γ1 k) (hd : EvX (rDicN P w ky rv) ta Γ1 Γ2 l) : EvX rBool (tNIn P w tk ta) Γ Γ2 ((getM l k).isSome) := fun A σ H B F Q q =>
  hk A σ H B F _ fun y H1 B1 F1 s1 k1 => hd A σ H1 B1 F1 _ fun x H2 B2 F2 s2 k2 => by
    obtain ⟨p, kvs, kp, g⟩ := ng_of ky F2.bh k2 (rk.mono s2 k1)
    exact ⟨p, _, g, q _ _ _ F2 (s1.trans s2) (by show V.bl _ = V.bl _; rw [some_getN ky kp])⟩
theorem ev_nnin (ky : KyN rk) {k : κ} {l : List (κ × β)} (hk : EvX rk tk Γ Γ1 k) (hd : EvX (rDicN P w ky rv) ta Γ1 Γ2 l) : EvX rBool (tNNotIn P w tk ta) Γ Γ2 (!(getM l k).isSome) := fun A σ H B F Q q =>
  hk A σ H B F _ fun y H1 B1 F1 s1 k1 => hd A σ H1 B1 F1 _ fun x H2 B2 F2 s2 k2 => by
    obtain ⟨p, kvs, kp, g⟩ := ng_of ky F2.bh k2 (rk.mono s2 k1)
    exact ⟨p, _, g, q _ _ _ F2 (s1.trans s2) (by show V.bl _ = V.bl _; rw [some_getN ky kp])⟩
theorem ev_nget (ky : KyN rk) {k : κ} {l : List (κ × β)} {b : β} (hd : EvX (rDicN P w ky rv) ta Γ Γ1 l) (hk : EvX rk tk Γ1 Γ2 k) (e : getM l k = some b) : EvX rv (tNGet P w ta tk) Γ Γ2 b := fun A σ H B F Q q =>
  hd A σ H B F _ fun x H1 B1 F1 s1 k1 => hk A σ H1 B1 F1 _ fun y H2 B2 F2 s2 k2 => by
    obtain ⟨p2, o2, kvs2, ex2, hp2, kp2⟩ := (rDicN P w ky rv).mono s2 k1
    obtain ⟨v2, ev2, kv2⟩ := (get_pairN ky k kp2).1 b e
    obtain ⟨c, rfl⟩ := ky.ref k2
    subst ex2
    exact ⟨p2, v2, ⟨o2, kvs2, c, ky.key k, rfl, F2.bh _ _ hp2, allKN ky (Paired.imp2 (fun _ _ q => q.mono F2.bh) kp2), rfl, nk_ok ky (rk.mono F2.bh k2), ev2.symm⟩, q _ _ _ F2 (s1.trans s2) kv2⟩
theorem ev_nget1 (ky : KyN rk) (nn : NN rv) {k : κ} {l : List (κ × β)} (hd : EvX (rDicN P w ky rv) ta Γ Γ1 l) (hk : EvX rk tk Γ1 Γ2 k) : EvX (rOpt rv) (tNGet1 P w ta tk) Γ Γ2 (getM l k) := fun A σ H B F Q q =>
  hd A σ H B F _ fun x H1 B1 F1 s1 k1 => by
    obtain ⟨p, o, kvs, rfl, hp, kp⟩ := k1
    refine ⟨⟨p, o, kvs, rfl, F1.bh _ _ hp⟩, hk A σ H1 B1 F1 _ fun y H2 B2 F2 s2 k2 => ?_⟩
    have kp2 : Paired (NRel ky rv B2) kvs l := Paired.imp2 (fun _ _ q => q.mono s2) kp
    obtain ⟨c, rfl⟩ := ky.ref k2
    refine ⟨p, _, ⟨o, kvs, c, ky.key k, rfl, F2.bh _ _ (s2 _ _ hp), allKN ky (Paired.imp2 (fun _ _ q => q.mono F2.bh) kp2), rfl, nk_ok ky (rk.mono F2.bh k2), rfl⟩, q _ _ _ F2 (s1.trans s2) ?_⟩
    obtain ⟨g1, g2⟩ := get_pairN ky k kp2
    cases e : getM l k with
    | none => rw [g2 e]; rfl
    | some b =>
      obtain ⟨v, ev, kv⟩ := g1 b e
      rw [ev]
      exact ⟨kv, nn _ _ _ kv⟩
/-! ### a dict of one's own -/
variable {A : Amb} {D : Ends} {u : TS} {i j : Nat} {p : Addr}
theorem sq_newN (ky : KyN rk) (rv : Rp β) (k : ∀ p, ¬ A.m p → Nx A (u D) (Γ.set i (.cel p (cDicN P w p ky rv) []))) : Nx A (tSeq (tAsg (tDNewN P w) (gName i)) u D) Γ := fun σ H B F => fun p ob hp => by
  have F2 := F.fresh (o := dNO P w p ob []) hp True.intro
  exact k p (fun m => F.mh.al p m (F.H0none hp)) _ _ _ (F2.own1 (F.H0none hp) F.sub F.mh ⟨ob, [], rfl, .nil⟩)
theorem cel_dicN {σ : L2.St} {H B : Hp} {ky : KyN rk} {l : List (κ × β)} (F : Frm A σ H B Γ) (h : Γ[i]? = some (.cel p (cDicN P w p ky rv) l)) : σ[i]? = some (some (V.ref p)) ∧ ∃ ob kvs, H p = some (dNO P w p ob kvs) ∧ Paired (NRel ky rv B) kvs l := by
  obtain ⟨e, o, ho, ob, kvs, rfl, k⟩ := cel_at F h
  exact ⟨e, ob, kvs, ho, k⟩
theorem ng_cel {σ : L2.St} {H B : Hp} {ky : KyN rk} {l : List (κ × β)} {y : V} {k : κ} (F : Frm A σ H B Γ) (h : Γ[i]? = some (.cel p (cDicN P w p ky rv) l)) (hk : rk.rel B y k) : σ[i]? = some (some (V.ref p)) ∧ ∃ kvs, Paired (NRel ky rv B) kvs l ∧ NGet P w H (.ref p) y p (valN kvs (ky.key k)) := by
  obtain ⟨e, ob, kvs, hp, kp⟩ := cel_dicN F h
  obtain ⟨c, rfl⟩ := ky.ref hk
  exact ⟨e, kvs, kp, ob, kvs, c, ky.key k, rfl, hp, allKN ky (Paired.imp2 (fun _ _ q => q.mono F.bh) kp), rfl, nk_ok ky (rk.mono F.bh hk), rfl⟩
theorem ev_ninCelN {ky : KyN rk} {l : List (κ × β)} {k : κ} (hk : EvX rk tk Γ Γ1 k) (h : Γ1[i]? = some (.cel p (cDicN P w p ky rv) l)) : EvX rBool (tNIn P w tk (tVar i)) Γ Γ1 ((getM l k).isSome) := fun A σ H B F Q q =>
  hk A σ H B F _ fun y H1 B1 F1 s1 k1 => by
    obtain ⟨e, kvs, kp, g⟩ := ng_cel F1 h k1
    exact ⟨_, e, p, _, g, q _ _ _ F1 s1 (by show V.bl _ = V.bl _; rw [some_getN ky kp])⟩
theorem ev_nninCelN {ky : KyN rk} {l : List (κ × β)} {k : κ} (hk : EvX rk tk Γ Γ1 k) (h : Γ1[i]? = some (.cel p (cDicN P w p ky rv) l)) : EvX rBool (tNNotIn P w tk (tVar i)) Γ Γ1 (!(getM l k).isSome) := fun A σ H B F Q q =>
  hk A σ H B F _ fun y H1 B1 F1 s1 k1 => by
    obtain ⟨e, kvs, kp, g⟩ := ng_cel F1 h k1
    exact ⟨_, e, p, _, g, q _ _ _ F1 s1 (by show V.bl _ = V.bl _; rw [some_getN ky kp])⟩
def pyPutD {κ β : Type} [DecidableEq κ] (l : List (κ × β)) (k : κ) (v : β) : Option (List (κ × β)) := if l.length < 1000000 then some (putM l k v) else none
theorem sq_nput {ky : KyN rk} {l l' : List (κ × β)} {k : κ} {b : β} (hv : EvX rv tv Γ Γ1 b) (hk : EvX rk tk Γ1 Γ2 k) (h1 : Γ1[i]? = some (.cel p (cDicN P w p ky rv) l)) (h2 : Γ2[i]? = some (.cel p (cDicN P w p ky rv) l)) (e : pyPutD l k b = some l') (n : Nx A (u D) (Γ2.set i (.cel p (cDicN P w p ky rv) l'))) :
    Nx A (tSeq (sNPut P w (tVar i) tk tv) u D) Γ := fun σ H B F => by
  unfold pyPutD at e
  split at e
  · rename_i hl
    cases e
    refine hv A σ H B F _ fun v H1 B1 F1 s1 k1 => ⟨_, (cel_dicN F1 h1).1, hk A σ H1 B1 F1 _ fun y H2 B2 F2 s2 k2 => ?_⟩
    obtain ⟨e2, ob, kvs, hp, kp⟩ := cel_dicN F2 h2
    obtain ⟨c, rfl⟩ := ky.ref k2
    have pw := put_pairN ky k2 (rv.mono s2 k1) kp
    refine ⟨p, ob, kvs, c, ky.key k, rfl, hp, allKN ky (Paired.imp2 (fun _ _ q => q.mono F2.bh) kp), rfl, nk_ok ky (rk.mono F2.bh k2), ?_, fun o' => n _ _ _ (F2.write h2 ⟨o', _, rfl, pw⟩ True.intro)⟩
    rw [Paired.len kp]
    exact Nat.lt_of_lt_of_le hl (by decide)
  · cases e
/-- what is handed back is changed no more -/
theorem sq_retCelN {ky : KyN rk} {l b : List (κ × β)} (hi : Γ[i]? = some (.cel p (cDicN P w p ky rv) l)) (hm : ∀ q, ¬ A.m q) (e : some l = some b) (k : Rt A (psi (rDicN P w ky rv)) b D.rt) : Nx A (tSeq (tRet (tVar i)) u D) Γ := fun σ H B F => by
  cases e
  obtain ⟨o, ho, e1, s, Q, q⟩ := post_own F hi (hm p)
  obtain ⟨p', o', ev, hp', ob, kvs, rfl, kp⟩ := q
  cases ev
  exact ⟨_, e1, k H _ _ Q ⟨p, ob, kvs, rfl, hp', kp⟩⟩
end
/-! ### (a text, numbers) as a key -/
abbrev rPlc : Rp (Str × List Int) := rOb (cTup (wC rStr (w1 (rOb (cTpl rInt)))))
def keyPlc (k : Str × List Int) : NK := .tup [.text k.1, .tup (k.2.map .num)]
theorem ints_is {h : Heap} : ∀ {is : List Int} {us : List Value}, Vals (is.map V.int) us → NestedAll h (is.map .num) us
  | [], us, r => by cases r; exact .nil
  | i :: is, us, r => by
    cases r with
    | cons q t => obtain ⟨tk, rfl⟩ := q; exact .cons (.int i tk) (ints_is t)
theorem rint_map {H : Hp} : ∀ {vs : List V} {is : List Int}, Paired (rInt.rel H) vs is → vs = is.map V.int
  | _, _, .nil => rfl
  | _, _, .cons q t => by rw [List.map_cons, ← rint_map t, show _ = V.int _ from q]
theorem tup_at {P : Program} {w : World} {H : Hp} {h : Heap} (ok : HOk P w H h) {b : Addr} {vs : List V} (e : H b = some (.tup vs)) : ∃ its : List Value, Vals vs its ∧ ∃ o n, h.get? b = some o ∧ o.cls = .type "tuple" ∧ o.data = .seq its.toArray n := by
  obtain ⟨_, its, r, o, h1, h2, n, h3⟩ := (show ObjOk P w H h b (.tup vs) from ok b _ e)
  exact ⟨its, r, o, n, h1, h2, h3⟩
theorem nums_inj : ∀ {a b : List Int}, a.map NestedKey.num = b.map NestedKey.num → a = b
  | [], [], _ => rfl
  | [], _ :: _, e => by cases e
  | _ :: _, [], e => by cases e
  | x :: a, y :: b, e => by
    injection e with e1 e2
    injection e1 with e1
    rw [e1, nums_inj e2]
theorem dep_nums : ∀ is : List Int, NestedKey.depthAll (is.map .num) = 0
  | [] => by simp [NestedKey.depthAll]
  | i :: is => by rw [List.map_cons]; simp [NestedKey.depthAll, NestedKey.depth, dep_nums is]
def kyPlc : KyN rPlc where
  key := keyPlc
  inj := fun {a b} e => by
    injection e with e
    injection e with e1 e2
    injection e1 with e1
    injection e2 with e2 _
    injection e2 with e2
    exact Prod.ext e1 (nums_inj e2)
  dep := fun k => by unfold keyPlc; simp [NestedKey.depth, NestedKey.depthAll, dep_nums]
  ref := fun ⟨p, o, e, _⟩ => ⟨p, e⟩
  is := fun {P w H h b k} ok ⟨p, o, e, hp, vs, ho, v, t, ev, k1, v2, et, k2⟩ => by
    cases e
    subst ho et ev
    obtain ⟨q, o2, rfl, hq, vs2, rfl, kk⟩ := k2
    cases (show v = V.str k.1 from k1)
    rw [rint_map kk] at hq
    obtain ⟨its, r, ob, n, g1, g2, g3⟩ := tup_at ok hp
    obtain ⟨its2, r2, ob2, n2, g4, g5, g6⟩ := tup_at ok hq
    cases r with
    | cons ra rb => cases rb with
      | cons rc rd =>
        cases rd
        obtain ⟨tk, rfl⟩ := ra
        cases (show _ = Value.ref q from rc)
        refine .tup g1 g2 g3 ?_
        exact .cons (.text k.1 tk) (.cons (.tup g4 g5 g6 (ints_is r2)) .nil)
end G

set_option maxHeartbeats 4000000
/-! # G: walks over such dicts -/
namespace G
variable [TabL]
open PySem PySem.Spec PyProof.Rows L2
def Itkn (P : Program) (w : World) (d : Addr) (o : Obj) (kvs : List NE) : It :=
  ⟨fun i H => H d = some (dNO P w d o kvs) ∧ i < kvs.length, fun i H x H' => H' = H ∧ ∃ e, kvs[i]? = some e ∧ x = .ref e.2.1, fun i H => H d = some (dNO P w d o kvs) ∧ kvs.length ≤ i⟩
section
variable {P : Program} {w : World} {K : PySem.W.Frag} {tg : Expr} {d : Addr} {o : Obj} {es : Array DictEntry} {ep : Nat}
theorem dn_raw {H : Hp} {h : Heap} {kvs : List NE} (ok : HOk P w H h) (e : H d = some (dNO P w d o kvs)) : (d == sysModules) = false ∧ h.get? d = some o ∧ o.ExactDict ∧ ∃ es ep, o.data = .dict es ep ∧ es.size = kvs.length ∧ ∀ (i : Nat) (q : NE), kvs[i]? = some q → ∃ en : DictEntry, es[i]? = some en ∧ en.key = .ref q.2.1 := by
  obtain ⟨z, y, nd, xs, kn, e1, e2, es, ep, e3, e4⟩ := dn_of ok e
  refine ⟨y, e1, e2, es, ep, e3, ?_, fun i q hq => ?_⟩
  · have l1 : es.size = xs.length := size_of_entries e4
    have l2 : kvs.length = xs.length := Paired.len kn
    omega
  · obtain ⟨b, hb, k1, k2, k3⟩ := paired_get kn hq
    have q2 := entry_at e4 i
    rw [hb] at q2
    exact ⟨_, q2, by rw [k2]; rfl⟩
theorem turn_keysN {kvs : List NE} (it : Addr) (hod : o.data = .dict es ep) : Turn P w K tg (Itkn P w d o kvs) [it] it (fun i h => h.IsKeyIter it d i kvs.length ep) where
  mem := by simp
  obj := fun i h ⟨oi, e, c, dd⟩ b hb => by
    obtain rfl : b = it := by simpa using hb
    exact ⟨oi, e, fun v z => by rw [dd] at z; cases z⟩
  keep := fun i h h' st k => st.at fun oi e => k it (by simp) oi e
  item := by
    intro X hP hw hK hc i pins s σ H E I hf st hg
    subst hP; subst hw; subst hK
    obtain ⟨hd, hi⟩ := hg
    obtain ⟨f0, f1, f2, f3, f4, f5⟩ := hf it (by simp)
    obtain ⟨hs, hgd, hx, es', ep', hdt, hsz, ent⟩ := dn_raw I.hok hd
    obtain ⟨rfl, rfl⟩ := dict_ep hod hdt
    obtain ⟨q, hq⟩ : ∃ q, kvs[i]? = some q := ⟨kvs[i], List.getElem?_eq_getElem hi⟩
    obtain ⟨en, hen, hkey⟩ := ent i q hq
    refine next_key_item st hgd hdt hsz hen fun h' st' sb => ?_
    have I1 : Inv X pins σ H { s with heap := h' } := I.turned (t' := s.toks) (fun b ob hb e => (sb.2 b hb).trans e) f0 f1 f3 f4 f5
    obtain ⟨oi, e, c, dd⟩ := id st'
    exact ⟨en.key, rfl, go_of (s := { s with heap := h' }) e c dd (by decide) ⟨.ref q.2.1, H, I1, hkey, ⟨rfl, q, hq, rfl⟩, st', fun b hb => (hf b hb).1⟩⟩
  done := by
    intro X hP hw hK hc i pins s σ H E I hf st hg
    subst hP; subst hw; subst hK
    obtain ⟨hd, hi⟩ := hg
    obtain ⟨f0, f1, f2, f3, f4, f5⟩ := hf it (by simp)
    obtain ⟨hs, hgd, hx, es', ep', hdt, hsz, ent⟩ := dn_raw I.hok hd
    obtain ⟨rfl, rfl⟩ := dict_ep hod hdt
    exact next_key_end (I.ok.hd hc) st hgd hdt hsz hi fun h' eb => ⟨rfl, I.turned (t' := s.toks) (fun b ob hb e => eb b ob hb e) f0 f1 f3 f4 f5⟩
  self := fun A i s Q E st h => by
    refine wpAny_pyIter_slot st.typeIs F.slot_dict_keyiterator_iter (wpAny_call_entry F.slot_dict_keyiterator_iter st.typeIs F.entry_dict_keyiterator_iter ?_ (F.args_dict_keyiterator_iter_1 _))
    show wpAny _ _ (ret (.ref it)) _ _ s
    exact wpAny_pure ⟨_, rfl, "dict_keyiterator", _, st.typeIs, F.slot_dict_keyiterator_next.lookup, h⟩
end
def iKeysN (P : Program) (w : World) (td : TE) : TI := fun σ H R => td σ H fun x H1 => ∃ d o kvs, x = .ref d ∧ H1 d = some (dNO P w d o kvs) ∧ R (Itkn P w d o kvs) H1
theorem pi_keysN {X : Cx} {tg e : Expr} {td : TE} (he : PE X e td) : PI X tg e (iKeysN X.prog X.w td) := ⟨fun pins s σ H R I h => by
  refine thn (he.run pins s σ H _ I h) fun u s1 ⟨x, H1, I1, rx, d, o, kvs, ex, hd, q⟩ => ?_
  subst ex
  obtain rfl : u = Value.ref d := rx
  obtain ⟨hs, hgd, hx, es, ep, hdt, hsz, ent⟩ := dn_raw I1.hok hd
  refine iter_keys hs hgd hx hdt (pi_one (tk := s1.toks) I1 _ (turn_keysN _ hdt) ⟨_, Heap.get?_push_size _ rfl, rfl, ?_⟩ q)
  rw [hsz] <;> rfl⟩
section
variable {P : Program} {w : World} {κ β : Type} [DecidableEq κ] {rk : Rp κ} {rv : Rp β} {te : TE} {Γ Γ1 : List Sl} {l : List (κ × β)}
theorem it_keysN (ky : KyN rk) (h : EvX (rDicN P w ky rv) te Γ Γ1 l) (hl : l.length ≤ 1000000) : ItX rk (iKeysN P w te) Γ Γ1 (l.map Prod.fst) := fun A σ H B F R q => h A σ H B F _ fun v H' B' F' s k => by
  obtain ⟨p, o, kvs, rfl, hp, kp⟩ := k
  refine ⟨p, o, kvs, rfl, F'.bh _ _ hp, q _ H' B' F' s ⟨by rw [List.length_map]; exact Nat.le_trans hl (by decide), fun H2 B2 s1 s2 => ?_, fun i H2 B2 s1 s2 hi => ?_, fun i x H2 B2 v H3 s1 s2 hx hy A σ Γ F => ?_⟩⟩
  · exact ⟨s2 _ _ (s1 _ _ hp), by rw [List.length_map, Paired.len kp]; exact Nat.le_refl _⟩
  · rw [List.length_map] at hi
    exact ⟨s2 _ _ (s1 _ _ hp), by rw [Paired.len kp]; exact hi⟩
  · obtain ⟨rfl, e, he, rfl⟩ := hy
    rw [List.getElem?_map] at hx
    cases q2 : l[i]? with
    | none => rw [q2] at hx; cases hx
    | some y =>
      rw [q2] at hx; cases hx
      obtain ⟨e2, he2, k2⟩ := Paired.getR kp q2
      rw [he] at he2; cases he2
      exact ⟨B2, F, Same.refl _, rk.mono s1 k2.2.1⟩
end
end G

set_option maxHeartbeats 4000000
/-! # G: sorted lists of tuples in tuples -/
namespace G
open PySem PySem.Spec PyProof.Rows L2
/-! ### orders and ranks -/
structure Ord (α : Type) where
  lt : α → α → Bool
  irr : ∀ a, lt a a = false
  tr : ∀ {a b c}, lt a b = true → lt b c = true → lt a c = true
  tri : ∀ {a b}, lt a b = false → lt b a = false → a = b
section
variable {α : Type} (O : Ord α)
theorem Ord.not {a b : α} (h : O.lt a b = true) : O.lt b a = false := by
  cases q : O.lt b a with
  | false => rfl
  | true => have := O.tr h q; rw [O.irr] at this; cases this
def Ord.sort (xs : List α) : List α := xs.mergeSort fun a b => !O.lt b a
theorem Ord.tot (a b : α) : ((!O.lt b a) || (!O.lt a b)) = true := by
  cases q : O.lt b a with
  | false => rfl
  | true => rw [O.not q]; rfl
theorem Ord.trn (a b c : α) (h1 : (!O.lt b a) = true) (h2 : (!O.lt c b) = true) : (!O.lt c a) = true := by
  cases q : O.lt c a with
  | false => rfl
  | true =>
    have e1 : O.lt b a = false := by simpa using h1
    have e2 : O.lt c b = false := by simpa using h2
    cases q2 : O.lt a b with
    | true => have := O.tr q q2; rw [e2] at this; cases this
    | false => rw [O.tri q2 e1] at q; rw [q] at e2; cases e2
theorem Ord.sort_perm (xs : List α) : (O.sort xs).Perm xs := List.mergeSort_perm _ _
theorem Ord.sort_asc (xs : List α) : (O.sort xs).Pairwise fun a b => O.lt b a = false :=
  (List.pairwise_mergeSort (le := fun a b => !O.lt b a) (fun a b c h1 h2 => O.trn a b c h1 h2) (fun a b => O.tot a b) xs).imp fun q => by simpa using q
theorem Ord.sort_eq {xs ys : List α} (h1 : ys.Perm xs) (h2 : ys.Pairwise fun a b => O.lt b a = false) : ys = O.sort xs :=
  List.Perm.eq_of_pairwise (fun a b _ _ h1 h2 => O.tri h2 h1) h2 (O.sort_asc xs) (h1.trans (O.sort_perm xs).symm)
def Ord.rk (L : List α) (k : α) : Int := ((L.countP fun j => O.lt j k : Nat) : Int)
theorem countP_strict {p q : α → Bool} (h : ∀ x, p x = true → q x = true) : ∀ {L : List α} {a : α}, a ∈ L → p a = false → q a = true → L.countP p < L.countP q
  | x :: L, a, hm, hp, hq => by
    rw [List.countP_cons, List.countP_cons]
    rcases List.mem_cons.mp hm with rfl | hm
    · have := List.countP_mono_left (l := L) (fun x _ => h x)
      rw [hp, hq]
      simp only [Bool.false_eq_true, if_false, if_true]
      omega
    · have ih := countP_strict h hm hp hq
      cases e : p x with
      | true => rw [h x e]; simp only [if_true]; omega
      | false => simp only [Bool.false_eq_true, if_false]; omega
theorem Ord.rk_lt {L : List α} {a b : α} (h : O.lt a b = true) (hm : a ∈ L) : O.rk L a < O.rk L b := by
  have := countP_strict (p := fun j => O.lt j a) (q := fun j => O.lt j b) (fun x hx => O.tr hx h) hm (O.irr a) h
  unfold Ord.rk
  omega
theorem Ord.rk_le {L : List α} {a b : α} (h : O.lt a b = false) : O.rk L b ≤ O.rk L a := by
  have := List.countP_mono_left (l := L) (p := fun j => O.lt j b) (q := fun j => O.lt j a) (fun x _ hx => by
    cases q : O.lt b a with
    | true => exact O.tr hx q
    | false => rw [O.tri h q]; exact hx)
  unfold Ord.rk
  omega
theorem Ord.rk_iff {L : List α} {a b : α} (hm : a ∈ L) : decide (O.rk L a < O.rk L b) = O.lt a b := by
  cases h : O.lt a b with
  | true => exact decide_eq_true (O.rk_lt h hm)
  | false => exact decide_eq_false (by have := O.rk_le (L := L) h; omega)
end
def ltI : List Int → List Int → Bool
  | [], [] => false
  | [], _ :: _ => true
  | _ :: _, [] => false
  | x :: xs, y :: ys => if x = y then ltI xs ys else decide (x < y)
theorem ltI_irr : ∀ a, ltI a a = false
  | [] => rfl
  | x :: xs => by unfold ltI; rw [if_pos rfl]; exact ltI_irr xs
theorem ltI_tr : ∀ {a b c}, ltI a b = true → ltI b c = true → ltI a c = true
  | [], [], _, h, _ => by cases h
  | [], _ :: _, [], _, h => by cases h
  | [], _ :: _, _ :: _, _, _ => rfl
  | _ :: _, [], _, h, _ => by cases h
  | _ :: _, _ :: _, [], _, h => by cases h
  | x :: xs, y :: ys, z :: zs, h1, h2 => by
    unfold ltI at h1 h2 ⊢
    by_cases e1 : x = y
    · rw [if_pos e1] at h1
      by_cases e2 : y = z
      · rw [if_pos e2] at h2; rw [if_pos (e1.trans e2)]; exact ltI_tr h1 h2
      · rw [if_neg e2] at h2; rw [e1, if_neg e2]; exact h2
    · rw [if_neg e1] at h1
      have q1 := of_decide_eq_true h1
      by_cases e2 : y = z
      · rw [← e2, if_neg e1]; exact h1
      · rw [if_neg e2] at h2
        have q2 := of_decide_eq_true h2
        rw [if_neg (by omega)]; exact decide_eq_true (by omega)
theorem ltI_tri : ∀ {a b}, ltI a b = false → ltI b a = false → a = b
  | [], [], _, _ => rfl
  | [], _ :: _, h, _ => by cases h
  | _ :: _, [], _, h => by cases h
  | x :: xs, y :: ys, h1, h2 => by
    unfold ltI at h1 h2
    by_cases e : x = y
    · rw [if_pos e] at h1; rw [if_pos e.symm] at h2; rw [e, ltI_tri h1 h2]
    · rw [if_neg e] at h1; rw [if_neg (fun z => e z.symm)] at h2
      have q1 := of_decide_eq_false h1; have q2 := of_decide_eq_false h2
      omega
def oI : Ord (List Int) := ⟨ltI, ltI_irr, ltI_tr, ltI_tri⟩
def ltS (a b : Str) : Bool := decide (a.cps.toList < b.cps.toList)
theorem str_ext {a b : Str} (h : a.cps.toList = b.cps.toList) : a = b := by
  cases a; cases b
  congr 1
  exact Array.toList_inj.mp h
theorem ltS_tri {a b : Str} (h1 : ltS a b = false) (h2 : ltS b a = false) : a = b :=
  str_ext (List.le_antisymm (List.not_lt.mp (of_decide_eq_false h2)) (List.not_lt.mp (of_decide_eq_false h1)))
def ltP (a b : Str × List Int) : Bool := if a.1 = b.1 then ltI a.2 b.2 else ltS a.1 b.1
def oP : Ord (Str × List Int) where
  lt := ltP
  irr := fun a => by unfold ltP; rw [if_pos rfl]; exact ltI_irr _
  tr := fun {a b c} h1 h2 => by
    unfold ltP at h1 h2 ⊢
    by_cases e1 : a.1 = b.1
    · rw [if_pos e1] at h1
      by_cases e2 : b.1 = c.1
      · rw [if_pos e2] at h2; rw [if_pos (e1.trans e2)]; exact ltI_tr h1 h2
      · rw [if_neg e2] at h2; rw [e1, if_neg e2]; exact h2
    · rw [if_neg e1] at h1
      have q1 := of_decide_eq_true h1
      by_cases e2 : b.1 = c.1
      · rw [← e2, if_neg e1]; exact h1
      · rw [if_neg e2] at h2
        have q2 := of_decide_eq_true h2
        have q3 : a.1.cps.toList < c.1.cps.toList := List.lt_trans q1 q2
        rw [if_neg (fun z => by rw [z] at q3; exact List.lt_irrefl _ q3)]; exact decide_eq_true q3
  tri := fun {a b} h1 h2 => by
    unfold ltP at h1 h2
    by_cases e : a.1 = b.1
    · rw [if_pos e] at h1; rw [if_pos e.symm] at h2; exact Prod.ext e (ltI_tri h1 h2)
    · rw [if_neg e] at h1; rw [if_neg (fun z => e z.symm)] at h2; exact absurd (ltS_tri h1 h2) e
/-! ### the sort's questions -/
def PlcIn (h : Heap) (v : Value) (k : Str × List Int) : Prop := ∃ (a q : Addr) (t : Tok) (xs : Array Value), v = .ref a ∧ IsTup h a #[.str k.1 t, .ref q] ∧ IsTup h q xs ∧ IntsAre xs.toList k.2
theorem PlcIn.keeps {h h' : Heap} {v : Value} {k : Str × List Int} (x : PlcIn h v k) (kp : ∀ b o, h.get? b = some o → o.cls = .type "tuple" → h'.get? b = some o) : PlcIn h' v k := by
  obtain ⟨a, q, t, xs, e, ⟨o, ho, hc, r⟩, ⟨o2, ho2, hc2, r2⟩, i⟩ := x
  exact ⟨a, q, t, xs, e, ⟨o, kp _ _ ho hc, hc, r⟩, ⟨o2, kp _ _ ho2 hc2, hc2, r2⟩, i⟩
theorem PlcIn.uniq {h : Heap} {v : Value} {k m : Str × List Int} (x : PlcIn h v k) (y : PlcIn h v m) : k = m := by
  obtain ⟨a, q, t, xs, rfl, ⟨o, ho, hc, n, hd⟩, ⟨o2, ho2, hc2, n2, hd2⟩, i⟩ := x
  obtain ⟨a', q', t', xs', e, ⟨o', ho', hc', n', hd'⟩, ⟨o2', ho2', hc2', n2', hd2'⟩, i'⟩ := y
  cases e
  rw [ho] at ho'; cases ho'
  rw [hd] at hd'
  injection hd' with e1 _
  injection e1 with e1
  injection e1 with e2 e3
  injection e2 with e2 _
  injection e3 with e3 _
  injection e3 with e3
  subst e3
  rw [ho2] at ho2'; cases ho2'
  rw [hd2] at hd2'
  injection hd2' with e4 _
  subst e4
  exact Prod.ext e2 (i.nums.symm.trans i'.nums)
theorem firstLt_map (e r : Nat → Bool) (fin : Bool) : ∀ l : List Nat, SeqAt.firstLt e r fin (l.map Nat.succ) = SeqAt.firstLt (fun j => e (j + 1)) (fun j => r (j + 1)) fin l
  | [] => rfl
  | j :: t => by
    rw [List.map_cons]
    unfold SeqAt.firstLt
    rw [firstLt_map e r fin t]
theorem firstLt_ints : ∀ (a b : List Int), SeqAt.firstLt (fun j => decide (a.getD j 0 = b.getD j 0)) (fun j => decide (a.getD j 0 < b.getD j 0)) (decide (a.length < b.length)) (List.range (min a.length b.length)) = ltI a b
  | [], [] => rfl
  | [], y :: b => by simp [SeqAt.firstLt, ltI]
  | x :: a, [] => by simp [SeqAt.firstLt, ltI]
  | x :: a, y :: b => by
    rw [List.length_cons, List.length_cons, show min (a.length + 1) (b.length + 1) = min a.length b.length + 1 by omega, List.range_succ_eq_map]
    unfold SeqAt.firstLt ltI
    rw [firstLt_map]
    have ih := firstLt_ints a b
    simp only [List.getD_cons_zero, List.getD_cons_succ, Nat.add_lt_add_iff_right] at ih ⊢
    by_cases h : x = y
    · simp only [h, decide_true, if_true]; exact ih
    · simp only [h, decide_false, Bool.false_eq_true, if_false]
theorem ints_at {xs : List Value} {ns : List Int} (i : IntsAre xs ns) : ∀ (j : Nat), j < xs.length → ∃ t, xs[j]? = some (.int (ns.getD j 0) t) := by
  induction i with
  | nil => intro j h; cases h
  | @cons p t xs ns i ih =>
    intro j h
    cases j with
    | zero => exact ⟨t, rfl⟩
    | succ j =>
      obtain ⟨t', e⟩ := ih j (by rw [List.length_cons] at h; omega)
      exact ⟨t', by simpa using e⟩
variable [TabL]
section
variable {prog : Program} {w : World} {A : Around} {E : Value → Shared → Prop} {s : Shared}
theorem lt_ints {l b : Addr} {xs ys : Array Value} {ns ms : List Int} (hl : IsTup s.heap l xs) (hb : IsTup s.heap b ys) (i1 : IntsAre xs.toList ns) (i2 : IntsAre ys.toList ms) (hu : A.units < cLine) : SeqAt.RcLt A s (.ref l) (.ref b) (ltI ns ms) := by
  have l1 : xs.size = ns.length := by have := i1.length; rw [Array.length_toList] at this; exact this
  have l2 : ys.size = ms.length := by have := i2.length; rw [Array.length_toList] at this; exact this
  have at1 : ∀ j (h : j < xs.size), ∃ t, xs[j] = .int (ns.getD j 0) t := fun j h => by
    obtain ⟨t, e⟩ := ints_at i1 j (by rw [Array.length_toList]; exact h)
    refine ⟨t, ?_⟩
    rw [Array.getElem?_toList, Array.getElem?_eq_getElem h] at e
    exact Option.some.inj e
  have at2 : ∀ j (h : j < ys.size), ∃ t, ys[j] = .int (ms.getD j 0) t := fun j h => by
    obtain ⟨t, e⟩ := ints_at i2 j (by rw [Array.length_toList]; exact h)
    refine ⟨t, ?_⟩
    rw [Array.getElem?_toList, Array.getElem?_eq_getElem h] at e
    exact Option.some.inj e
  have z := SeqAt.RcLt.tuples (A := A) (s := s) (e := fun j => decide (ns.getD j 0 = ms.getD j 0)) (r := fun j => decide (ns.getD j 0 < ms.getD j 0)) (show s.heap.IsTuple l xs from hl) (show s.heap.IsTuple b ys from hb) hu
    (fun j h1 h2 => by
      obtain ⟨t, e⟩ := at1 j h1
      obtain ⟨u, e2⟩ := at2 j h2
      rw [e, e2]
      have q := SeqAt.EqAt.int_int (A := A.in1) (s := s) (ns.getD j 0) t (ms.getD j 0) u
      have eb : (ns.getD j 0 == ms.getD j 0) = decide (ns.getD j 0 = ms.getD j 0) := rfl
      rw [← eb]; exact q)
    (fun j h1 h2 _ => by
      obtain ⟨t, e⟩ := at1 j h1
      obtain ⟨u, e2⟩ := at2 j h2
      rw [e, e2]
      exact fun prog w E Q h => (PyProof.Rows.lt_int h : wpAny (model prog w) A.in1 (compareOp .Lt (.int _ t) (.int _ u)) Q E s))
  rw [l1, l2, firstLt_ints] at z
  exact z
theorem plc_firsts {h : Heap} : ∀ vs : List Value, (∀ v ∈ vs, ∃ k, PlcIn h v k) → ∃ fs, PySem.W.KatTups h vs fs ∧ fs.length = vs.length ∧ ∀ f ∈ fs, ∃ x t, f = Value.str x t
  | [], _ => ⟨[], PySem.W.KatTups.nil, rfl, fun f hf => by simp at hf⟩
  | v :: vs, x => by
    obtain ⟨fs, k, hl, hi⟩ := plc_firsts vs fun u hu => x u (List.mem_cons_of_mem _ hu)
    obtain ⟨ky, a, q, t, xs, rfl, ⟨o, ho, hc, n, hd⟩, _, _⟩ := x v List.mem_cons_self
    refine ⟨.str ky.1 t :: fs, PySem.W.KatTups.cons ho hc hd rfl k, by simp [hl], fun f hf => ?_⟩
    rcases List.mem_cons.mp hf with rfl | hf
    · exact ⟨_, t, rfl⟩
    · exact hi f hf
theorem inl_inj : ∀ {a b : List Int}, (a.map Sum.inl : List L2.Key) = b.map Sum.inl → a = b
  | [], [], _ => rfl
  | [], _ :: _, e => by cases e
  | _ :: _, [], e => by cases e
  | x :: a, y :: b, e => by
    injection e with e1 e2
    injection e1 with e1
    rw [e1, inl_inj e2]
theorem ints_key {h : Heap} {q : Addr} {xs : Array Value} {ns : List Int} (t : IsTup h q xs) (i : IntsAre xs.toList ns) : IsTupleKey (L2.mixKind prog w) h (ns.map Sum.inl) q := by
  obtain ⟨o, ho, hc, n, hd⟩ := t
  refine ⟨o, xs, n, ho, hc, hd, ?_⟩
  have := items_are (P := prog) (w := w) (ks := ns.map Sum.inl) (us := xs.toList) (by
    rw [List.map_map]
    generalize xs.toList = l at i
    induction i with
    | nil => exact .nil
    | @cons p t xs ns i ih => exact .cons ⟨t, rfl⟩ ih)
  exact this
theorem plc_kind {vs : List Value} {r : Value → Int} (h2 : 2 ≤ vs.length) (hu : A.units + 4 < cLine) (x : ∀ v ∈ vs, ∃ k, PlcIn s.heap v k) (hr : ∀ u ∈ vs, ∀ v ∈ vs, ∀ k m, PlcIn s.heap u k → PlcIn s.heap v m → decide (r u < r v) = ltP k m) (Q : SortKind → Shared → Prop)
    (h : ∀ κ, TS.Cmp prog w A s κ (pairsOf vs) r → Q κ s) : wpAny (model prog w) A (keyKind' vs.toArray) Q E s := by
  obtain ⟨fs, k, hl, hi⟩ := plc_firsts vs x
  refine PySem.W.kat_kind (T := Value.type "str") k (by omega) (fun f hf => ?_) rfl (h _ ?_)
  · obtain ⟨n, t, rfl⟩ := hi f hf
    exact PySem.W.Looks.of_pure rfl
  · intro p q hp hq Q' E' hQ
    rw [pairsOf_toList] at hp hq
    have mp := (mem_zip_self hp).2
    have mq := (mem_zip_self hq).2
    obtain ⟨k1, a, qa, t, xs, e1, ⟨o, ho, hc, n, hd⟩, ta, ia⟩ := x _ mp
    obtain ⟨k2, b, qb, u, ys, e2, ⟨o', ho', hc', n', hd'⟩, tb, ib⟩ := x _ mq
    have hQ' : Q' (ltP k1 k2) s := by
      have z := hr _ mp _ mq k1 k2 ⟨a, qa, t, xs, e1, ⟨o, ho, hc, n, hd⟩, ta, ia⟩ ⟨b, qb, u, ys, e2, ⟨o', ho', hc', n', hd'⟩, tb, ib⟩
      rw [← z]; exact hQ
    rw [e1, e2]
    refine PySem.W.kat_lt ho hd ho' hd' ?_
    show PySem.W.KatLex prog w A true false Q' [(Value.str k1.1 t, Value.str k2.1 u), (Value.ref qa, Value.ref qb)] 0 s
    refine PySem.W.kat_cons (wpAny_eqBool_str ?_)
    unfold ltP at hQ'
    by_cases e : k1.1 = k2.1
    · rw [if_pos e] at hQ'
      rw [decide_eq_true e]
      refine PySem.W.kat_yes (PySem.W.kat_cons (wpAny_eqBool_tuple (by omega) (ints_key ta ia) (ints_key tb ib) ?_))
      refine PySem.W.kat_go (fun e0 => ?_) (fun e0 => ?_)
      · have e3 : k1.2 = k2.2 := by
          have := of_decide_eq_true e0
          exact inl_inj this
        rw [e3, ltI_irr] at hQ'
        exact PySem.W.kat_yes (PySem.W.kat_nil hQ')
      · refine PySem.W.kat_no ?_
        show wpAny _ _ (oneLt' false _ _) _ _ _
        exact PySem.W.kat_one _ _ (lt_ints ta tb ia ib (by omega) prog w _ _ hQ')
    · rw [if_neg e] at hQ'
      rw [decide_eq_false e]
      exact PySem.W.kat_no (PyProof.Rows.oneLt_str hQ')
theorem plc_mid {h h' : Heap} {vs : List Value} {r : Value → Int} (kp : ∀ b o, h.get? b = some o → o.cls = .type "tuple" → h'.get? b = some o) (x : ∀ v ∈ vs, ∃ k, PlcIn h v k) (hr : ∀ u ∈ vs, ∀ v ∈ vs, ∀ k m, PlcIn h u k → PlcIn h v m → decide (r u < r v) = ltP k m) :
    (∀ v ∈ vs, ∃ k, PlcIn h' v k) ∧ ∀ u ∈ vs, ∀ v ∈ vs, ∀ k m, PlcIn h' u k → PlcIn h' v m → decide (r u < r v) = ltP k m := by
  refine ⟨fun v hv => let ⟨k, y⟩ := x v hv; ⟨k, y.keeps kp⟩, fun u hu v hv k m yk ym => ?_⟩
  obtain ⟨k0, y0⟩ := x u hu
  obtain ⟨m0, z0⟩ := x v hv
  rw [yk.uniq (y0.keeps kp), ym.uniq (z0.keeps kp)]
  exact hr u hu v hv k0 m0 y0 z0
theorem plc_sort {a : Addr} {vs : List Value} {n : Nat} {R : PySem.Fin → Shared → Prop} {r : Value → Int} (ho : s.heap.get? a = some (seqObj "list" vs.toArray n)) (h64 : vs.length < 64) (hu : A.units + 4 < cLine) (x : ∀ v ∈ vs, ∃ k, PlcIn s.heap v k)
    (hr : ∀ u ∈ vs, ∀ v ∈ vs, ∀ k m, PlcIn s.heap u k → PlcIn s.heap v m → decide (r u < r v) = ltP k m)
    (h : ∀ out : Array Value, out.toList.Perm vs → (out.toList.Pairwise fun u v => r u ≤ r v) → R (.done (.ret .none)) { s with heap := sortedHeap s.heap a vs out }) : wpAny (model prog w) A (Builtin.«list.sort» ⟨[.ref a], []⟩) R E s := by
  have kp : ∀ b o, s.heap.get? b = some o → o.cls = .type "tuple" → (TS.midHeap s.heap a vs).get? b = some o := fun b o e hc => TS.midHeap_old (by
    rintro rfl
    rw [ho] at e; cases e
    exact absurd (by injection hc) (show ¬ ("list" : String) = "tuple" by decide)) e
  obtain ⟨x2, hr2⟩ := plc_mid kp x hr
  exact SK.plain_sort (r := r) ho h64 (fun h2 Q hQ => plc_kind (s := { s with heap := TS.midHeap s.heap a vs }) h2 hu x2 hr2 Q hQ) fun ps out h1 h2 h3 => (fun z => h out z.1 z.2) (TS.out_rank h1 h2 h3)
theorem plc_sorted {l : Addr} {vs : List Value} {r : Value → Int} {Q : Value → Shared → Prop} (hl : s.heap.IsList l vs.toArray) (h64 : vs.length < 64) (hu : A.units + 16 < cLine) (x : ∀ v ∈ vs, ∃ k, PlcIn s.heap v k)
    (hr : ∀ u ∈ vs, ∀ v ∈ vs, ∀ k m, PlcIn s.heap u k → PlcIn s.heap v m → decide (r u < r v) = ltP k m)
    (h : ∀ out : Array Value, out.toList.Perm vs → (out.toList.Pairwise fun u v => r u ≤ r v) → Q (.ref (s.heap.objs.size + 1)) { s with heap := sortedAll s.heap vs out }) : wpAny (model prog w) A (call (.builtin "sorted") [.ref l]) Q E s := by
  refine Calls.call_function_entry (kind_sorted) (plain_sorted) (entry_sorted) (args_sorted1 _) ?_
  unfold Builtin.«sorted»
  refine wpAny_bind (m := (checkCount "sorted" 1 1 _)) (wpAny_pure ?_)
  have hz : vs.length ≤ sizeLine := Nat.le_of_lt (Nat.lt_of_lt_of_le h64 (by decide))
  refine wpAny_bind (collect_list hl ?_ (by rw [sizeLine_eq]; omega))
  refine wpAny_bind (wpAny_newList ?_ (by rw [sizeLine_eq]; omega))
  have sz : ((s.heap.push (seqObj "list" #[] 0)).update s.heap.objs.size (Obj.mapSeq (· ++ vs.toArray))).objs.size = s.heap.objs.size + 1 := by rw [Heap.size_update, size_push']
  generalize hg : (s.heap.push (seqObj "list" #[] 0)).update s.heap.objs.size (Obj.mapSeq (· ++ vs.toArray)) = g at sz
  have gl : (g.push (seqObj "list" vs.toArray 0)).get? (s.heap.objs.size + 1) = some (seqObj "list" vs.toArray 0) := by rw [← sz]; exact Heap.get?_push_size _ rfl
  have kp : ∀ b o, s.heap.get? b = some o → o.cls = .type "tuple" → (g.push (seqObj "list" vs.toArray 0)).get? b = some o := fun b o q _ => by
    have lt : b < s.heap.objs.size := Heap.lt_size q
    rw [Heap.get?_push_ne _ _ _ (by rw [sz]; exact Nat.ne_of_lt (Nat.lt_succ_of_lt lt)), ← hg, Heap.get?_update_ne _ _ _ _ (Nat.ne_of_lt lt), Heap.get?_push_ne _ _ _ (Nat.ne_of_lt lt)]
    exact q
  obtain ⟨x2, hr2⟩ := plc_mid kp x hr
  show wpAny _ _ _ _ _ { s with heap := g.push (seqObj "list" vs.toArray 0) }
  rw [sz]
  refine wpAny_bind (wpAny_holding (wpAny_call_entry slot_list_sort ⟨_, gl, rfl⟩ entry_list_sort (plc_sort (r := r) gl h64 (by show A.units + 1 + 1 + 4 < cLine; omega) x2 hr2 fun out a1 a2 => ⟨_, rfl, ?_⟩) (args_list_sort _)))
  exact wpAny_pure ⟨_, rfl, by have := h out a1 a2; unfold sortedAll at this; rw [hg] at this; exact this⟩
end
/-! ### the rule -/
def PlcV (K : PySem.W.Frag) (H : Hp) (x : V) (k : Str × List Int) : Prop := ∃ b q, x = .ref b ∧ SqT K H b [.str k.1, .ref q] ∧ SqT K H q (k.2.map V.int)
theorem plcV_raw {X : Cx} {pins : List (Addr × Obj)} {σ : L2.St} {H : Hp} {s : Shared} (I : Inv X pins σ H s) {b : Addr} {k : Str × List Int} (h : PlcV X.K H (.ref b) k) : PlcIn s.heap (.ref b) k := by
  obtain ⟨b', q, e, h1, h2⟩ := h
  cases e
  obtain ⟨its, r1, t1, _⟩ := I.tuple h1
  obtain ⟨its2, r2, t2, _⟩ := I.tuple h2
  cases r1 with
  | cons ra rb => cases rb with
    | cons rc rd =>
      cases rd
      obtain ⟨tk, rfl⟩ := ra
      cases (show _ = Value.ref q from rc)
      refine ⟨b, q, tk, its2.toArray, rfl, t1, t2, ?_⟩
      rw [List.toList_toArray]
      exact ints_vals r2
where
  ints_vals : ∀ {ns : List Int} {us : List Value}, Vals (ns.map V.int) us → IntsAre us ns
  | [], us, r => by cases r; exact .nil
  | n :: ns, us, r => by
    cases r with
    | cons q t => obtain ⟨tk, rfl⟩ := q; exact .cons n tk (ints_vals t)
def rSortN (K : PySem.W.Frag) : List V → Hp → VK → Prop := fun vs H Q => ∃ (a : Addr) (xs : List V) (ks : List (Str × List Int)) (F : V → Str × List Int → Prop), vs = [V.ref a] ∧ SqL K H a xs ∧ xs.length < 64 ∧ Paired F xs ks ∧ (∀ x k, F x k → PlcV K H x k) ∧
  ∀ (ys : List V) (p : Addr), Paired F ys (oP.sort ks) → H p = none → Q (.ref p) (upd H p (.lst ys))
open Classical in
noncomputable def keyOf (h : Heap) (u : Value) : Str × List Int := if e : ∃ k, PlcIn h u k then choose e else (Str.ofString "", [])
theorem keyOf_eq {h : Heap} {u : Value} {k : Str × List Int} (e : PlcIn h u k) : keyOf h u = k := by
  unfold keyOf
  rw [dif_pos ⟨k, e⟩]
  exact (Classical.choose_spec (⟨k, e⟩ : ∃ k, PlcIn h u k)).uniq e
theorem keys_back {F : V → Str × List Int → Prop} {f : Value → Str × List Int} : ∀ {its : List Value} {ks : List (Str × List Int)}, Paired F (its.map bkV) ks → (∀ u ∈ its, ∀ k, F (bkV u) k → f u = k) → its.map f = ks ∧ ∀ u ∈ its, F (bkV u) (f u)
  | [], _, h, _ => by cases h; exact ⟨rfl, fun _ z => nomatch z⟩
  | u :: its, ks, h, g => by
    cases h with
    | cons q t =>
      obtain ⟨e1, e2⟩ := keys_back t fun u hu => g u (List.mem_cons_of_mem _ hu)
      have e := g u List.mem_cons_self _ q
      refine ⟨by rw [List.map_cons, e, e1], fun v hv => ?_⟩
      rcases List.mem_cons.mp hv with rfl | hv
      · rw [e]; exact q
      · exact e2 v hv
theorem paired_maps {α β γ : Type} {F : β → γ → Prop} {f : α → β} {g : α → γ} : ∀ {l : List α}, (∀ u ∈ l, F (f u) (g u)) → Paired F (l.map f) (l.map g)
  | [], _ => .nil
  | u :: l, h => .cons (h u List.mem_cons_self) (paired_maps fun v hv => h v (List.mem_cons_of_mem _ hv))
theorem cr_sortN {X : Cx} (hu : X.A.units + 16 < cLine) : CallR X (.builtin "sorted") (rSortN X.K) := by
  intro pins s σ H vs us Q I rr h
  obtain ⟨a, xs, ks, F, rfl, hs, h64, pk, hF, q⟩ := h
  obtain ⟨its, rv, hl, hz⟩ := I.list hs
  rw [Vals.ref1 rr]
  have isr : ∀ x ∈ xs, ∃ t, x = V.ref t := fun x hx => by
    obtain ⟨j, hj⟩ := List.mem_iff_getElem?.mp hx
    obtain ⟨k, _, hk⟩ := Paired.getL pk hj
    obtain ⟨b, _, e, _⟩ := hF _ _ hk
    exact ⟨b, e⟩
  obtain ⟨e1, e2⟩ := bkV_refs rv isr
  rw [e1] at pk
  have un : ∀ u ∈ its, ∀ k, F (bkV u) k → PlcIn s.heap u k := fun u hu k hk => by
    obtain ⟨b, rfl⟩ := e2 u hu
    exact plcV_raw I (hF _ _ hk)
  obtain ⟨e3, e4⟩ := keys_back (f := keyOf s.heap) pk fun u hu k hk => keyOf_eq (un u hu k hk)
  have inn : ∀ u ∈ its, PlcIn s.heap u (keyOf s.heap u) := fun u hu => un u hu _ (e4 u hu)
  have hk : ∀ u ∈ its, keyOf s.heap u ∈ ks := fun u hu => by rw [← e3]; exact List.mem_map_of_mem hu
  refine plc_sorted (r := fun u => oP.rk ks (keyOf s.heap u)) hl.isList (by rw [← rv.length]; exact h64) hu (fun v hv => ⟨_, inn v hv⟩) (fun u hu v hv k m yk ym => ?_) fun out h1 h2 => ?_
  · rw [keyOf_eq yk, keyOf_eq ym]
    have := hk u hu
    rw [keyOf_eq yk] at this
    exact oP.rk_iff this
  · obtain ⟨ep, he⟩ := PyProof.Rows.sortedAll_at s.heap its out
    have mem : ∀ u ∈ out.toList, u ∈ its := fun u hu => h1.mem_iff.mp hu
    have h3 : ∀ u ∈ out.toList, ∃ a, u = Value.ref a := fun u hu => e2 u (mem u hu)
    have srt : out.toList.map (keyOf s.heap) = oP.sort ks := oP.sort_eq (by rw [← e3]; exact h1.map _) (by
      rw [List.pairwise_map]
      refine h2.imp_of_mem fun {u v} hu hv hle => ?_
      have z := oP.rk_iff (L := ks) (a := keyOf s.heap v) (b := keyOf s.heap u) (hk v (mem v hv))
      rw [← z]
      exact decide_eq_false (by omega))
    have hp : Paired F (out.toList.map bkV) (oP.sort ks) := by
      rw [← srt]
      exact paired_maps fun u hu => e4 u (mem u hu)
    have hlen : (out.toList.map bkV).length ≤ sizeLine := by
      rw [List.length_map, h1.length_eq, ← rv.length]; exact hz
    exact ⟨.ref _, upd H (s.heap.objs.size + 1) (.lst (out.toList.map bkV)), I.laid (t' := s.toks) (fun _ _ => PyProof.Rows.sortedAll_old) (Nat.le_succ _) ⟨hlen, out.toList, ep, bkV_vals h3, he⟩, rfl, q _ _ hp (I.hok.fresh (Nat.le_succ _))⟩
section
variable {te : TE} {Γ Γ1 : List Sl} {K : PySem.W.Frag} {xs : List (Str × List Int)}
def pySortN (xs : List (Str × List Int)) : Option (List (Str × List Int)) := if xs.length < 64 then some (oP.sort xs) else none
theorem plc_rel {B H : Hp} (s : Same B H) {v : V} {k : Str × List Int} (h : rPlc.rel B v k) : PlcV K H v k := by
  obtain ⟨p, o, rfl, hp, vs, rfl, v1, t1, rfl, k1, v2, rfl, q, o2, rfl, hq, vs2, rfl, kk⟩ := h
  cases (show v1 = V.str k.1 from k1)
  rw [rint_map kk] at hq
  exact ⟨p, q, rfl, SqT.of (s _ _ hp), SqT.of (s _ _ hq)⟩
theorem ec_sortN {ys : List (Str × List Int)} (h : EvX (rLst rPlc) te Γ Γ1 xs) (e : pySortN xs = some ys) : EvC (cLst rPlc) (tCB (rSortN K) (tCons te tNil)) Γ Γ1 ys := by
  unfold pySortN at e
  split at e
  · rename_i hl
    cases e
    exact ec_B1 h fun H B u z s k Q q => by
      obtain ⟨p, vs, rfl, hp, kv⟩ := ob_lst s k
      refine ⟨p, vs, xs, rPlc.rel B, rfl, SqL.of hp, by rw [Paired.len kv]; exact hl, kv, fun x k hk => plc_rel s hk, fun ws l pk hn => ?_⟩
      refine q l _ hn ?_ ⟨ws, rfl, pk⟩
      show ws.length ≤ _
      rw [Paired.len pk, (oP.sort_perm xs).length_eq]
      exact Nat.le_of_lt (Nat.lt_of_lt_of_le hl (by decide))
  · cases e
end
end G

set_option maxHeartbeats 4000000
/-! # G: list(d), d a dict with such keys -/
namespace G
variable [TabL]
open PySem PySem.Spec PyProof.Rows L2
def rListN (P : Program) (w : World) : List V → Hp → VK → Prop := fun xs H Q => ∃ d o kvs, xs = [V.ref d] ∧ H d = some (dNO P w d o kvs) ∧ ∀ p, H p = none → Q (.ref p) (upd H p (.lst (kvs.map fun e => V.ref e.2.1)))
theorem call_listN {X : Cx} (hc : X.calm = true) : CallR X (.type "list") (rListN X.prog X.w) := by
  intro pins s σ H xs us Q I r h
  obtain ⟨d, o, kvs, rfl, hd, q⟩ := h
  obtain ⟨u, rfl, rx⟩ := r.one
  cases rx
  obtain ⟨hs, ho, hx, es, ep, hdt, hsz, ent⟩ := dn_raw I.hok hd
  have z := (dn_of I.hok hd).1
  refine PySem.W.kdl_call (kdl_raw hs hx hdt) (I.ok.hd hc) ho (by omega) fun h' tk acc c' kp e it => ?_
  have eb : acc.toList = (kvs.map fun e => e.2.1).map Value.ref := by
    have hl : acc.toList.length = kvs.length := by rw [Array.length_toList, it.1]; exact hsz
    apply List.ext_getElem?
    intro j
    rw [List.getElem?_map, List.getElem?_map]
    cases hj : acc.toList[j]? with
    | none => rw [List.getElem?_eq_none (by have := List.getElem?_eq_none_iff.mp hj; omega)]; rfl
    | some v =>
      have hjl : j < kvs.length := by rw [← hl]; exact (List.getElem?_eq_some_iff.mp hj).1
      obtain ⟨en, hen, hv⟩ := it.2 j v (by rw [← Array.getElem?_toList]; exact hj)
      obtain ⟨en2, h2, hk⟩ := ent j _ (List.getElem?_eq_getElem hjl)
      rw [hen] at h2; cases h2
      rw [List.getElem?_eq_getElem hjl, hv, hk]; rfl
  have rv : Vals ((kvs.map fun e => e.2.1).map V.ref) acc.toList := by rw [eb]; exact vals_refs _
  have em : (kvs.map fun e => V.ref e.2.1) = (kvs.map fun e => e.2.1).map V.ref := by rw [List.map_map]; rfl
  refine ⟨.ref s.heap.objs.size, _, I.laid (t' := tk) (o := .lst (kvs.map fun e => V.ref e.2.1)) kp (Nat.le_refl _) ?_, rfl, q _ (I.hok.fresh (Nat.le_refl _))⟩
  exact ⟨by rw [List.length_map]; exact z, acc.toList, c', by rw [em]; exact rv, by rw [Array.toArray_toList]; exact e⟩
section
variable {P : Program} {w : World} {κ β : Type} [DecidableEq κ] {rk : Rp κ} {rv : Rp β} {te : TE} {Γ Γ1 : List Sl} {l : List (κ × β)}
theorem ec_listN (ky : KyN rk) (h : EvX (rDicN P w ky rv) te Γ Γ1 l) (hl : l.length ≤ 1000000) : EvC (cLst rk) (tCB (rListN P w) (tCons te tNil)) Γ Γ1 (l.map Prod.fst) := ec_B1 h fun H B u z s k Q q => by
  obtain ⟨p, o, kvs, rfl, hp, kp⟩ := k
  have pk : ∀ {kvs : List NE} {l : List (κ × β)}, Paired (NRel ky rv B) kvs l → Paired (rk.rel B) (kvs.map fun e => V.ref e.2.1) (l.map Prod.fst) := by
    intro kvs l h
    induction h with
    | nil => exact .nil
    | cons a t ih => exact .cons a.2.1 ih
  refine ⟨p, o, kvs, rfl, s _ _ hp, fun l hn => q l _ hn ?_ ⟨_, rfl, pk kp⟩⟩
  show (kvs.map _).length ≤ _
  rw [List.length_map, Paired.len kp]
  exact Nat.le_trans hl (by decide)
end
def pyKeysD {κ β : Type} (l : List (κ × β)) : Option (List κ) := if l.length ≤ 1000000 then some (l.map Prod.fst) else none
section
variable {P : Program} {w : World} {κ β : Type} [DecidableEq κ] {rk : Rp κ} {rv : Rp β} {te : TE} {Γ Γ1 : List Sl} {l : List (κ × β)} {ks : List κ}
theorem ec_listN' (ky : KyN rk) (h : EvX (rDicN P w ky rv) te Γ Γ1 l) (e : pyKeysD l = some ks) : EvC (cLst rk) (tCB (rListN P w) (tCons te tNil)) Γ Γ1 ks := by
  unfold pyKeysD at e; split at e
  · cases e; exact ec_listN ky h (by assumption)
  · cases e
theorem it_keysN' (ky : KyN rk) (h : EvX (rDicN P w ky rv) te Γ Γ1 l) (e : pyKeysD l = some ks) : ItX rk (iKeysN P w te) Γ Γ1 ks := by
  unfold pyKeysD at e; split at e
  · cases e; exact it_keysN ky h (by assumption)
  · cases e
end
end G

set_option maxHeartbeats 4000000
/-! # G: parts of tuples, tuples joined, deep in, an item of an own list stored -/
namespace G
variable [TabL]
open PySem PySem.Spec PyProof.Rows L2
theorem _root_.L2.Room.units65 {k : Nat} {A : Around} (r : L2.Room k A) : A.units + 65 < cLine := by have := r.un; omega
theorem _root_.L2.Room.units16 {k : Nat} {A : Around} (r : L2.Room k A) : A.units + 16 < cLine := by have := r.un; omega
theorem _root_.L2.Room.units8 {k : Nat} {A : Around} (r : L2.Room k A) : A.in1.units + 8 < cLine := by have := r.un; show A.units + 1 + 8 < cLine; omega
section
variable {X : Cx} {K : PySem.W.Frag}
theorem sl_tupK (h : X.K = K) : SlR X (rSlT K) := by subst h; exact sl_tup
theorem inDK (h : X.K = K) (hu : X.A.units + 65 < cLine) : OpR X (compareOp .In) (rInD K) := by subst h; exact op_inD hu
theorem notInDK (h : X.K = K) (hu : X.A.units + 65 < cLine) : OpR X (compareOp .NotIn) (rNotInD K) := by subst h; exact op_notInD hu
theorem catAK (h : X.K = K) : OpR X (binaryOp .Add) (rCatA K) := by subst h; exact op_catA
theorem sortNK (h : X.K = K) (hu : X.A.units + 16 < cLine) : CallR X (.builtin "sorted") (rSortN K) := by subst h; exact cr_sortN hu
end
/-- the first k of a row, the row behind them -/
def Tk {α β : Type} (w : Rw α) (k : Nat) (w' : Rw β) (f : α → β) : Prop := ∀ B vs a, w.rel B vs a → k < vs.length ∧ w'.rel B (vs.take k) (f a)
def Dk {α β : Type} (w : Rw α) (k : Nat) (w' : Rw β) (f : α → β) : Prop := ∀ B vs a, w.rel B vs a → k < vs.length ∧ w'.rel B (vs.drop k) (f a)
section
variable {α β γ δ : Type} {r : Rp α} {ra : Rp α} {rb : Rp β} {w : Rw β} {w2 : Rw γ} {wa : Rw α} {wd : Rw δ} {f : β → γ} {k : Nat} {K : PySem.W.Frag} {te ta tb tj : TE} {Γ Γ1 Γ2 Γ3 : List Sl} {xs ys : List α} {A : Amb} {D : Ends} {u : TS} {i : Nat} {p : Addr} {a : α}
theorem row_ne {B : Hp} {vs : List V} {b : β} {n : Nat} [q : WLen w n] (hn : 0 < n) (h : w.rel B vs b) : 0 < vs.length := by rw [q.len h]; exact hn
theorem tk_1 {n : Nat} [q : WLen w n] (hn : 0 < n) : Tk (wC r w) 1 (w1 r) (fun a => a.1) := fun B vs a ⟨v, t, e, h, k⟩ => by
  subst e
  exact ⟨by rw [List.length_cons]; have := row_ne hn k; omega, v, rfl, h⟩
theorem tk_S (t : Tk w k w2 f) : Tk (wC r w) (k + 1) (wC r w2) (fun a => (a.1, f a.2)) := fun B vs a ⟨v, l, e, h, q⟩ => by
  subst e
  obtain ⟨h1, h2⟩ := t B l a.2 q
  exact ⟨by rw [List.length_cons]; omega, v, l.take k, rfl, h, h2⟩
theorem dk_1 {n : Nat} [q : WLen w n] (hn : 0 < n) : Dk (wC r w) 1 w (fun a => a.2) := fun B vs a ⟨v, t, e, h, k⟩ => by
  subst e
  exact ⟨by rw [List.length_cons]; have := row_ne hn k; omega, k⟩
theorem dk_S (t : Dk w k w2 f) : Dk (wC r w) (k + 1) w2 (fun a => f a.2) := fun B vs a ⟨v, l, e, h, q⟩ => by
  subst e
  obtain ⟨h1, h2⟩ := t B l a.2 q
  exact ⟨by rw [List.length_cons]; omega, h2⟩
theorem ob_row {B H : Hp} {v : V} {a : α} (s : Same B H) (h : (rOb (cTup wa)).rel B v a) : ∃ p vs, v = .ref p ∧ H p = some (.tup vs) ∧ wa.rel B vs a := by
  obtain ⟨p, o, rfl, hp, vs, rfl, k⟩ := h
  exact ⟨p, vs, rfl, s _ _ hp, k⟩
theorem ec_slTk {g : α → δ} (h : EvX (rOb (cTup wa)) te Γ Γ1 a) (t : Tk wa k wd g) : EvC (cTup wd) (L2.tSl (rSlT K) te tNoPart (tPart (tC (.int (k : Int))))) Γ Γ1 (g a) := fun A σ H B F Q q => h A σ H B F _ fun v H1 B1 F1 s1 k1 => by
  obtain ⟨p, vs, rfl, hp, kw⟩ := ob_row F1.bh k1
  obtain ⟨hk, kd⟩ := t B1 vs a kw
  have e1 : HT.sIx vs.length vs.length (some (k : Int)) = k := by rw [HT.sIx_nat]; omega
  refine ⟨(k : Int), rfl, p, vs, rfl, SqT.of hp, fun z => by have := z.2; rw [e1] at this; omega, fun l hl => ?_⟩
  have ev : cutV vs none (some (k : Int)) = vs.take k := by
    unfold cutV
    rw [e1, HT.sIx_none, List.drop_zero, Nat.sub_zero]
  rw [ev]
  exact ec_fresh (c := cTup wd) (o := .tup (vs.take k)) F1 hl (by show (vs.take k).length ≤ _; rw [List.length_take]; have := F1.sz _ _ hp; exact Nat.le_trans (Nat.min_le_right _ _) this) (fun p o H2 B2 F2 n2 s4 k2 => q p o H2 B2 F2 n2 (s1.trans s4) k2) ⟨_, rfl, kd⟩
theorem ec_slDk {g : α → δ} (h : EvX (rOb (cTup wa)) te Γ Γ1 a) (t : Dk wa k wd g) (h0 : 0 < k := by decide) : EvC (cTup wd) (L2.tSl (rSlT K) te (tPart (tC (.int (k : Int)))) tNoPart) Γ Γ1 (g a) := fun A σ H B F Q q => h A σ H B F _ fun v H1 B1 F1 s1 k1 => by
  obtain ⟨p, vs, rfl, hp, kw⟩ := ob_row F1.bh k1
  obtain ⟨hk, kd⟩ := t B1 vs a kw
  have e1 : HT.sIx vs.length 0 (some (k : Int)) = k := by rw [HT.sIx_nat]; omega
  refine ⟨(k : Int), rfl, p, vs, rfl, SqT.of hp, fun z => by have := z.1; rw [e1] at this; omega, fun l hl => ?_⟩
  have ev : cutV vs (some (k : Int)) none = vs.drop k := by
    unfold cutV
    rw [e1, HT.sIx_none, List.take_of_length_le (by rw [List.length_drop]; exact Nat.le_refl _)]
  rw [ev]
  exact ec_fresh (c := cTup wd) (o := .tup (vs.drop k)) F1 hl (by show (vs.drop k).length ≤ _; rw [List.length_drop]; have := F1.sz _ _ hp; exact Nat.le_trans (Nat.sub_le _ _) this) (fun p o H2 B2 F2 n2 s4 k2 => q p o H2 B2 F2 n2 (s1.trans s4) k2) ⟨_, rfl, kd⟩
/-! ### tuples joined -/
theorem ob_tplM {B H : Hp} {v : V} {xs : List α} (s : Same B H) (h : (rTpl r).rel B v xs) : ∃ p vs, v = .ref p ∧ H p = some (.tup vs) ∧ B p = some (.tup vs) ∧ Paired (r.rel B) vs xs := by
  obtain ⟨p, o, rfl, hp, vs, rfl, k⟩ := h
  exact ⟨p, vs, rfl, s _ _ hp, hp, k⟩
theorem ev_catA {zs : List α} (ha : EvX (rTpl r) ta Γ Γ1 xs) (hb : EvX (rTpl r) tb Γ1 Γ2 ys) (e : pyCat xs ys = some zs) : EvX (rTpl r) (tOp (rCatA K) ta tb) Γ Γ2 zs := by
  unfold pyCat at e
  split at e
  · rename_i hl
    cases e
    exact fun A σ H B F Q q => ha A σ H B F _ fun v H1 B1 F1 s1 k1 => hb A σ H1 B1 F1 _ fun v2 H2 B2 F2 s2 k2 => by
      have k1' := (rTpl r).mono s2 k1
      obtain ⟨p1, vs, rfl, hp1, hb1, kp1⟩ := ob_tplM F2.bh k1'
      obtain ⟨p2, ws, rfl, hp2, hb2, kp2⟩ := ob_tplM F2.bh k2
      have hz : vs.length + ws.length ≤ sizeLine := by rw [Paired.len kp1, Paired.len kp2]; exact Nat.le_trans hl (by decide)
      have app := Paired.app kp1 kp2
      refine ⟨p1, p2, vs, ws, rfl, rfl, SqT.of hp1, SqT.of hp2, hz, fun e0 => ?_, fun h0 e0 => ?_, fun h0 h1 l hn => ?_⟩
      · subst e0
        exact q _ H2 B2 F2 (s1.trans s2) ⟨p2, _, rfl, hb2, _, rfl, app⟩
      · subst e0
        rw [List.append_nil] at app
        exact q _ H2 B2 F2 (s1.trans s2) ⟨p1, _, rfl, hb1, _, rfl, app⟩
      · exact ev_freshT F2 hn (by show (vs ++ ws).length ≤ _; rw [List.length_append]; exact hz) (s1.trans s2) q app
  · cases e
where
  ev_freshT {A : Amb} {σ : L2.St} {H B B0 : Hp} {Γ : List Sl} {l : Addr} {vs : List V} {zs : List α} {Q : VK} (F : Frm A σ H B Γ) (hn : H l = none) (hz : szO (.tup vs)) (s : Same B0 B) (q : ∀ v H' B', Frm A σ H' B' Γ → Same B0 B' → (rTpl r).rel B' v zs → Q v H') (k : Paired (r.rel B) vs zs) : Q (.ref l) (upd H l (.tup vs)) := by
    have hB : B l = none := by
      cases e : B l with
      | none => rfl
      | some u => have := F.bh l u e; rw [hn] at this; cases this
    have s' : Same B (upd B l (.tup vs)) := fun b u e => by rw [upd_ne (ne_of_none e hB)]; exact e
    exact q _ _ _ (F.plus (o := .tup vs) hn hz) (s.trans s') ⟨l, _, rfl, upd_same, _, rfl, Paired.monoR s' k⟩
/-! ### deep in -/
def pyInD (d : PyData) (ds : List PyData) : Option Bool := if SeqAt.shaped d = true ∧ SeqAt.shaped (.list ds) = true then some (ds.any fun z => PyData.eqv z d) else none
theorem ev_inD {b : Bool} {x : α} {ys : List β} {f : α → PyData} {g : β → PyData} (da : Da K ra f) (db : Da K rb g) (ha : EvX ra ta Γ Γ1 x) (hb : EvX (rLst rb) tb Γ1 Γ2 ys) (e : pyInD (f x) (ys.map g) = some b) : EvX rBool (tOp (rInD K) ta tb) Γ Γ2 b := by
  unfold pyInD at e
  split at e
  · rename_i hs
    cases e
    exact ev_op ha hb fun H B u v s ku kv Q q => ⟨_, _, dp_mono s _ _ (da _ _ _ ku), dp_mono s _ _ (da_lst db _ _ _ kv), hs.1, hs.2, q _ rfl⟩
  · cases e
theorem ev_ninD {b : Bool} {x : α} {ys : List β} {f : α → PyData} {g : β → PyData} (da : Da K ra f) (db : Da K rb g) (ha : EvX ra ta Γ Γ1 x) (hb : EvX (rLst rb) tb Γ1 Γ2 ys) (e : pyInD (f x) (ys.map g) = some b) : EvX rBool (tOp (rNotInD K) ta tb) Γ Γ2 (!b) := by
  unfold pyInD at e
  split at e
  · rename_i hs
    cases e
    exact ev_op ha hb fun H B u v s ku kv Q q => ⟨_, _, dp_mono s _ _ (da _ _ _ ku), dp_mono s _ _ (da_lst db _ _ _ kv), hs.1, hs.2, q _ rfl⟩
  · cases e
/-! ### an item of an own list is stored -/
def pySet {α : Type} (xs : List α) (j : Int) (a : α) : Option (List α) := (ixN xs.length j).map fun n => xs.set n a
theorem paired_set {F : V → α → Prop} {v : V} {a : α} (h : F v a) : ∀ {vs : List V} {xs : List α} (n : Nat), Paired F vs xs → Paired F (vs.set n v) (xs.set n a)
  | _, _, _, .nil => .nil
  | _, _, 0, .cons _ t => .cons h t
  | _, _, n + 1, .cons q t => .cons q (paired_set h n t)
theorem sq_setIx {j : Int} (h : EvX r te Γ Γ1 a) (h1 : Γ1[i]? = some (.cel p (cLst r) xs)) (hj : EvX rInt tj Γ1 Γ2 j) (h2 : Γ2[i]? = some (.cel p (cLst r) xs)) (e : pySet xs j a = some ys) (n : Nx A (u D) (Γ2.set i (.cel p (cLst r) ys))) : Nx A (tSeq (tAsg te (gSub (tVar i) tj rSetL)) u D) Γ := fun σ H B F =>
  h A σ H B F _ fun v H1 B1 F1 s1 k1 => ⟨_, (cel_lst F1 h1).1, hj A σ H1 B1 F1 _ fun y H2 B2 F2 s2 k2 => by
    obtain ⟨m, em, rfl⟩ := Option.map_eq_some_iff.mp e
    obtain ⟨e2, vs, hp, kp⟩ := cel_lst F2 h2
    refine ⟨p, vs, j, m, rfl, k2, hp, by rw [Paired.len kp]; exact em, n σ _ B2 (F2.write h2 (c' := cLst r) (o' := .lst (vs.set m v)) ⟨_, rfl, paired_set (r.mono s2 k1) m kp⟩ (by show (vs.set m v).length ≤ _; rw [List.length_set]; exact F2.sz _ _ hp))⟩⟩
end
end G

set_option maxHeartbeats 4000000
/-! # G: the rules of such dicts with the program named; what is never reached -/
namespace G
variable [TabL]

open PySem PySem.Spec PyProof.Rows L2
section
variable {X : Cx} {P : Program} {w : World} {o i e value : Expr} {pos pos' apos cpos : Pos} {td ty tv : TE} {tg : Expr}
theorem dnewK (hP : X.prog = P) (hw : X.w = w) : PE X (.Dict [] [] pos) (tDNewN P w) := by subst hP hw; exact pe_dnewN
theorem ngetK (hP : X.prog = P) (hw : X.w = w) (hu : X.A.in1.units + 8 < cLine) (ho : PE X o td) (hi : PE X i ty) (hs : NoSl i) : PE X (.Subscript o i pos) (tNGet P w td ty) := by subst hP hw; exact pe_nget hu ho hi hs
theorem ninK (hP : X.prog = P) (hw : X.w = w) (hu : X.A.in1.units + 8 < cLine) (hi : PE X i ty) (ho : PE X o td) : PC X .In i o (tNIn P w ty td) := by subst hP hw; exact pc_nin hu hi ho
theorem nnotinK (hP : X.prog = P) (hw : X.w = w) (hu : X.A.in1.units + 8 < cLine) (hi : PE X i ty) (ho : PE X o td) : PC X .NotIn i o (tNNotIn P w ty td) := by subst hP hw; exact pc_nnotin hu hi ho
theorem nget1K (hP : X.prog = P) (hw : X.w = w) (hu : X.A.in1.units + 8 < cLine) (ho : PE X o td) (he : PE X e ty) (m : M1 X o "get" apos e cpos) : PE X (.Call (.Attribute o "get" apos) [e] [] cpos) (tNGet1 P w td ty) := by subst hP hw; exact pe_nget1 hu ho he m
theorem nputK (hP : X.prog = P) (hw : X.w = w) (hu : X.A.in1.units + 8 < cLine) (ho : PE X o td) (hi : PE X i ty) (hv : PE X value tv) (hs : swapsWith value (some (.Subscript o i pos')) pos.line X.env = pure false) : PS X (.Assign [.Subscript o i pos'] value pos) (sNPut P w td ty tv) := by subst hP hw; exact ps_nput hu ho hi hv hs
theorem keysNK (hP : X.prog = P) (hw : X.w = w) (he : PE X e td) : PI X tg e (iKeysN P w td) := by subst hP hw; exact pi_keysN he
theorem listNK (hP : X.prog = P) (hw : X.w = w) (hc : X.calm = true) : CallR X (.type "list") (rListN P w) := by subst hP hw; exact call_listN hc
theorem ps_never {st : Stmt} : PS X st (fun _ _ _ => False) := ⟨fun _ _ _ _ _ _ h => h.elim⟩
end
end G

set_option maxHeartbeats 4000000
/-! # G: -x, x[k] and properties of own classes -/
namespace G
variable [TabL]
open PySem PySem.Spec PyProof.Rows L2
section
variable {X : Cx} {CX : CXT} {C f : Addr} {fd : FuncData} {ps : List Str} {n : Nat} {sp : Sp} {E : XK} {K : PySem.W.Frag} {a b : Expr} {ta tb : TE} {pos : Pos}
/-- -x, x of the class at C -/
def rNegO (C : Addr) (sp : Sp) (E : XK) : V → Hp → VK → Prop := fun x H Q => ∃ a dx fs, x = .ref a ∧ H a = some (.ins C dx fs) ∧ sp [x] H Q E
theorem op_negO (hK : X.K = K) (hm : Meth K C "__neg__" f) (F : FnOk X.prog X.w X.K X.mg X.base CX n f fd ps sp) (hr : Room n X.A) (hb : Binds K fd ps []) (hx : Passes CX X E) : UnR X (unaryOp .USub) (rNegO C sp E) := by
  subst hK
  intro pins s σ H x v Q I rx h
  obtain ⟨a, dx, fs, rfl, ha, q⟩ := h
  cases (show v = Value.ref a from rx)
  obtain ⟨mA, J, _⟩ := ins_get I.hok ha
  obtain ⟨od, J, _⟩ := J.look
  obtain ⟨m, hF⟩ := I.fr
  exact PySem.W.ksp_neg hF I.ok.mod.kin J hm.at_ hm.fn (run_fn (us := [.ref a]) (vs := [.ref a]) F hr hb .nil hx I (.cons rfl .nil) (by rw [List.append_nil]; exact q))
/-- x[y], x of the class at C -/
def rItO (C : Addr) (sp : Sp) (E : XK) : R2 := fun x y H Q => ∃ a dx fs, x = .ref a ∧ H a = some (.ins C dx fs) ∧ sp [x, y] H Q E
theorem pe_itO (hK : X.K = K) (hm : Meth K C "__getitem__" f) (hf : PySem.W.fnIn K f = true) (F : FnOk X.prog X.w X.K X.mg X.base CX n f fd ps sp) (hr : Room (n + 1) X.A) (hb : Binds K fd ps []) (hx : Passes CX X E) (ha : PE X a ta) (hb2 : PE X b tb)
    (hs : ∀ o i, subscripted b true o i = runValue (.builtin "lifetime.subscript" ⟨[o, i], []⟩)) : PE X (.Subscript a b pos) (tOp (rItO C sp E) ta tb) := by
  subst hK
  refine ⟨fun pins s σ H Q I h => ?_⟩
  refine Subscript_ (binT ha hb2 I h fun v u s2 x y H2 I2 rx ry q => ?_)
  obtain ⟨a, dx, fs, rfl, ha, q⟩ := q
  cases (show v = Value.ref a from rx)
  obtain ⟨mA, J, _⟩ := ins_get I2.hok ha
  obtain ⟨od, J, _⟩ := J.look
  obtain ⟨m, hF⟩ := I2.fr
  have hl : ([Value.ref a, u] : List Value).length = ps.length := by rw [← F.len _ _ _ _ q]; rfl
  refine PySem.W.sub_K hF I2.ok.mod.kin J hm.at_ hf hm.fn ?_ (hs _ _)
  refine wpAny_call (codeAny_mono (F.run X.A.in1 X.stack s2 H2 ⟨[.ref a, u], []⟩ [.ref a, u] [.ref a, y] Q E hr.in1 I2.env0.in1 (by have := hb s2 [.ref a, u] I2.kIn (by rw [List.append_nil]; exact hl); rwa [List.append_nil] at this) (.cons rfl (.cons ry .nil)) q) fun r s' hq => ?_)
  cases r with
  | error e => exact hx pins σ H2 s2 e s' I2 hq
  | ok fl =>
    cases fl with
    | ret u => exact I2.after hq
    | next => exact False.elim hq
    | brk => exact False.elim hq
    | cont => exact False.elim hq
end
section
variable {α β γ : Type} {r ra : Rp α} {rb : Rp β} {rc : Rp γ} {te ta tb : TE} {Γ Γ1 Γ2 : List Sl} {K : PySem.W.Frag} {w : Rw α} {C : Addr} {names : List Str} {x : α} {y : β} {E : XK}
theorem ev_negO {m : α → Option γ} {z : γ} (ha : EvX (rIns C names w) ta Γ Γ1 x) (e : m x = some z) : EvX rc (tUn (rNegO C (SpP (w1 (rIns C names w)) rc m) E) ta) Γ Γ1 z := fun A σ H B F Q q =>
  ha A σ H B F _ fun u H1 B1 F1 s1 k1 => by
    obtain ⟨p, dx, vs, rfl, hp, l, kw⟩ := ob_ins F1.bh k1
    exact ⟨p, dx, _, rfl, hp, B1, x, z, F1.szt, F1.bh, ⟨_, rfl, k1⟩, e, fun H3 B3 v3 P k3 => q _ H3 B3 (F1.after P) (s1.trans P.b0) k3⟩
theorem ev_itO {m : α × β → Option γ} {z : γ} (ha : EvX (rIns C names w) ta Γ Γ1 x) (hb : EvX rb tb Γ1 Γ2 y) (e : m (x, y) = some z) : EvX rc (tOp (rItO C (SpP (wC (rIns C names w) (w1 rb)) rc m) E) ta tb) Γ Γ2 z := fun A σ H B F Q q =>
  ha A σ H B F _ fun u H1 B1 F1 s1 k1 => hb A σ H1 B1 F1 _ fun v H2 B2 F2 s2 k2 => by
    have k1' := (rIns C names w).mono s2 k1
    obtain ⟨p, dx, vs, rfl, hp, l, kw⟩ := ob_ins F2.bh k1'
    exact ⟨p, dx, _, rfl, hp, B2, (x, y), z, F2.szt, F2.bh, ⟨_, _, rfl, k1', _, rfl, k2⟩, e, fun H3 B3 v3 P k3 => q _ H3 B3 (F2.after P) ((s1.trans s2).trans P.b0) k3⟩
theorem ev_prop {m : α → Option γ} {z : γ} (ha : EvX (rIns C names w) ta Γ Γ1 x) (e : m x = some z) : EvX rc (tProp C (SpP (w1 (rIns C names w)) rc m) [] E ta) Γ Γ1 z := fun A σ H B F Q q =>
  ha A σ H B F _ fun u H1 B1 F1 s1 k1 => by
    obtain ⟨p, dx, vs, rfl, hp, l, kw⟩ := ob_ins F1.bh k1
    exact ⟨p, dx, _, rfl, hp, B1, x, z, F1.szt, F1.bh, ⟨_, rfl, k1⟩, e, fun H3 B3 v3 P k3 => q _ H3 B3 (F1.after P) (s1.trans P.b0) k3⟩
end
end G
namespace G
variable [TabL]
open PySem PySem.Spec PyProof.Rows L2
section
variable {X : Cx} {CX : CXT} {C f : Addr} {fd : FuncData} {ps : List Str} {n : Nat} {sp : Sp} {E : XK} {P : Program} {w : World} {K : PySem.W.Frag} {mg : Str → Option Value} {base : Heap} {a b : Expr} {ta tb : TE} {pos : Pos}
theorem inOK (h1 : X.prog = P) (h2 : X.w = w) (hK : X.K = K) (h3 : X.mg = mg) (h4 : X.base = base) (hm : Meth K C "__contains__" f) (F : FnOk P w K mg base CX n f fd ps sp) (hr : Room n X.A) (hb : Binds K fd ps []) (hx : Passes CX X E) : OpR X (compareOp .In) (rInO C sp false E) := by
  subst h1 h2 hK h3 h4; exact op_inO rfl hm F hr hb hx
theorem ninOK (h1 : X.prog = P) (h2 : X.w = w) (hK : X.K = K) (h3 : X.mg = mg) (h4 : X.base = base) (hm : Meth K C "__contains__" f) (F : FnOk P w K mg base CX n f fd ps sp) (hr : Room n X.A) (hb : Binds K fd ps []) (hx : Passes CX X E) : OpR X (compareOp .NotIn) (rInO C sp true E) := by
  subst h1 h2 hK h3 h4; exact op_ninO rfl hm F hr hb hx
theorem makeNK {x : Str} {p pos : Pos} {e : Expr} {es : List Expr} {t : TA} {k : Nat} {dvs : List V} {ds : List Value} (h1 : X.prog = P) (h2 : X.w = w) (hK : X.K = K) (h3 : X.mg = mg) (h4 : X.base = base) (M : Mk K C f) (F : FnOk P w K mg base CX k f fd ps sp) (hr : Room (k + 1) X.A) (hg : Gl X x) (hm : mg x = some (.ref C)) (hb : Binds K fd ps ds) (hd : Vals dvs ds) (hx : Passes CX X E)
    (ha : PA X (e :: es) t) (hdb : (x == ("__debug__" : Str)) = false := by decide) (he : starEach (e :: es) X.env = (false, eval e X.env) :: starEach es X.env := by rfl) (hpl : (backTo pos (starEach es X.env)).any (·.1) = false := by rfl) :
    PE X (.Call (.Name x p) (e :: es) [] pos) (tMake C sp dvs E t) := by
  subst h1 h2 hK h3 h4; exact pe_make M F hr hg hm hb hd hx ha hdb he hpl
end
section
variable {κ β : Type} [DecidableEq κ] {rk : Rp κ} {P : Program} {w : World}
theorem paired_noN {ky : KyN rk} {rv : Rp β} [NoL rk] [NoL rv] {B : Hp} {p : Addr} {vs : List V} (hp : B p = some (.lst vs)) : ∀ {kvs : List NE} {l : List (κ × β)}, Paired (NRel ky rv B) kvs l → Paired (NRel ky rv (ers B p)) kvs l
  | _, _, .nil => .nil
  | _, _, .cons h t => .cons ⟨h.1, NoL.no hp h.2.1, NoL.no hp h.2.2⟩ (paired_noN hp t)
instance {ky : KyN rk} {rv : Rp β} [NoL rk] [NoL rv] : NoL (rDicN P w ky rv) := ⟨fun {B p vs v a} hp ⟨q, o, kvs, e, hq, k⟩ => ⟨q, o, kvs, e, by
  rw [ers_ne fun z => by rw [z, hp] at hq; cases hq]; exact hq, paired_noN hp k⟩⟩
end
end G

set_option maxHeartbeats 4000000
/-! # several except clauses with names -/
namespace L2
open PySem PySem.Spec PyProof.Rows
def wManyAs (K : PySem.W.Frag) (Wout : WX) (D : Ends) (l : List (Value × Nat × (Addr → Value → Option Addr → TS))) : WX := l.foldr (fun x W => wAs K x.1 x.2.1 x.2.2 W D) Wout
inductive HdsAs (X : Cx) : List ExceptHandler → List (Value × Nat × (Addr → Value → Option Addr → TS)) → Prop
  | nil : HdsAs X [] []
  | cons {x n : Str} {c : Value} {i : Nat} {ts : Addr → Value → Option Addr → TS} {b₀ : Stmt} {suite : List Stmt} {np pos' : Pos} {hds : List ExceptHandler} {l : List (Value × Nat × (Addr → Value → Option Addr → TS))}
      (hi : X.N[i]? = some n) (hln : X.env.kindOf n = some .local) (hc : Names X x c)
      (hsu : ∀ (a : Addr) (oe : Obj) (cls : Value) (d : Option Addr) (pn : List (Addr × Obj)), Zc cls d oe → (∃ vs, oe.data = .fields vs) → PSs (X.suite a ((a, oe) :: pn)) (b₀ :: suite) (ts a cls d)) (r : HdsAs X hds l) :
      HdsAs X (.ExceptHandler (some (.Name x np)) (some n) (b₀ :: suite) pos' :: hds) ((c, i, ts) :: l)
section
variable {X : Cx} {body : List Stmt} {h₀ : ExceptHandler} {hds : List ExceptHandler} {l : List (Value × Nat × (Addr → Value → Option Addr → TS))} {pos : Pos} {tb : WX → TS} {Wout : WX}
theorem ps_try_manyAs (hs : X.stack = X.env :: X.outer) (hf : X.env.frame = some X.env.locals) (hN : X.N.Nodup) (tk : Takes X Wout)
    (hb : ∀ (W : WX) (pn : List (Addr × Obj)) (xe : Value → Shared → Prop), Takes (X.tr pn xe) W → PassesOwn (model X.prog X.w) X.A X.env xe → PSs (X.tr pn xe) body (tb W))
    (hh : HdsAs X (h₀ :: hds) l) : PS X (.Try body (h₀ :: hds) [] [] pos) (fun D σ H => tb (wManyAs X.K Wout D l) D σ H) := by
  refine ⟨fun pins s σ H D I h => ?_⟩
  have ok := I.ok
  have hfr : X.A.frames = some (X.env :: X.outer) := by rw [ok.frames, hs]
  refine wpAny_Try_except ?_
  refine wpAny_mono ((hb (wManyAs X.K Wout D l) (X.pn ++ pins) (fun e s₁ => wpAny (model X.prog X.w) X.A (noteFrame e X.env) (fun _ s₂ => wpAny (model X.prog X.w) X.A (setFlight e none) (fun _ s₃ =>
    wpAny (model X.prog X.w) X.A (handleBy e X.env (h₀ :: hds)) (SP X pins D) X.xe s₃) X.xe s₂) X.xe s₁) (fun u s' xx => ?_) PassesOwn.looking).run [] s σ H D (I.toTry _) h) (fun f s1 hsp => ?_) (fun e s1 he => he)
  · -- the catch
    obtain ⟨a, B, sI, pins', σ', H', cls, d, rfl, J', nb, up, sky, na, os, ag, w⟩ := xx
    have J : Inv X pins σ' H' sI := J'.ofTry ok
    have sky' : Sky B (X.env :: X.outer) a (Zc cls d) X.env.locals s'.heap := by rw [← hs]; exact sky
    show wpAny (model X.prog X.w) X.A (noteFrame (.ref a) X.env) _ _ _
    refine Sky.land Zc.steady hfr hf sky' fun h3 fl3 up3 => ?_
    have J3 : Inv X pins σ' H' { s' with heap := h3 } := J.landed nb fl3.1 (up.trans up3) os ag
    obtain ⟨oe3, vs3, he3, hz3, hd3⟩ := fl3.there
    have notFr : ∀ {h : Heap} {o : Obj} {vs : Array Value}, h.FunFrames B (X.env :: X.outer) → h.get? a = some o → o.data = .fields vs → a ∉ frs (X.env :: X.outer) := fun {h o vs} ff e dd hm => by
      obtain ⟨_, o', e', hnf⟩ := ff.mem hm
      rw [e] at e'; cases e'
      exact hnf _ dd
    have nfr := notFr fl3.2.2.1 he3 hd3
    have nL : a ≠ X.env.locals := fun z => nfr (List.mem_filterMap.mpr ⟨X.env, List.mem_cons_self, by rw [hf, z]⟩)
    have nF : a ∉ X.fs := fun hm => by
      obtain ⟨e, he, q⟩ := List.mem_filterMap.mp hm
      exact nfr (List.mem_filterMap.mpr ⟨e, List.mem_cons_of_mem _ he, q⟩)
    have S3 := J3.suite he3 hd3 na nL nF
    have go : ∀ {hds' : List ExceptHandler} {l' : List (Value × Nat × (Addr → Value → Option Addr → TS))}, HdsAs X hds' l' → wManyAs X.K Wout D l' cls d σ' H' →
        wpAny (model X.prog X.w) X.A (handleBy (.ref a) X.env hds') (SP X pins D) X.xe { s' with heap := h3 } := by
      intro hds' l' hk
      induction hk with
      | nil =>
        intro w
        refine wpAny_handleBy_nil ?_
        obtain ⟨k1, k2, k3, oe, vs, T, oT, ts', he, hz, hd, h1, hr⟩ := id fl3
        unfold PySem.passOn
        refine wpAny_bind (wpAny_field he hd h1 ?_)
        rw [if_neg (show ¬ ((Value.ref T == Value.none) = true) from by simp)]
        have fin : wpAny (model X.prog X.w) X.A (setFlight (.ref a) X.env.frame) (fun _ s4 => wpAny (model X.prog X.w) X.A (throw (.ref a) : Sem Flow) (SP X pins D) X.xe s4) X.xe { s' with heap := h3 } := by
          rw [hf]
          refine HandSPX.setFlight_upZ fl3 fun h4 hh4 up4 => wpAny_throw (tk _ _ ?_)
          exact ⟨a, B, sI, pins, σ', H', cls, d, rfl, J, nb, (up.trans up3).trans up4, .inr (.inr (by rw [hs]; exact hh4)), na, os, ag, w⟩
        first
          | exact wpAny_bind (wpAny_pure (wpAny_bind fin))
          | exact wpAny_bind fin
      | @cons x n c i ts b₀ suite np pos' hds2 l2 hi hln hc hsu r ih =>
        intro w
        have hloc : Loc X.env.scope n := .inl hln
        have w' : wAs X.K c i ts (wManyAs X.K Wout D l2) D cls d σ' H' := w
        obtain ⟨b, hb1, hyes, hno⟩ := w'
        refine wpAny_handleBy_cons (codeAny_handlers_test ?_) (by intro q; cases q)
        have LT : PySem.W.Looks (model X.prog X.w) h3 (typeOf (.ref a)) cls := fun A Q E s k q => wpAny_typeOf_ref (k _ _ he3) (by rw [hz3.1]; exact q)
        have LM := PySem.W.exm_one (M := model X.prog X.w) (J3.kIn) LT hb1
        have test : ∀ {Q : Value → Shared → Prop} {E : Value → Shared → Prop}, Q c { s' with heap := h3 } → wpAny (model X.prog X.w) (X.A.mark (some (.ref a))) (eval (.Name x np) X.env) Q E { s' with heap := h3 } := fun {Q E} q => by
          obtain ⟨hg, hdbg, hm | ⟨hm, hv, hnn⟩⟩ := hc
          · exact ld_glob (X := X.suite a ((a, oe3) :: (X.pn ++ pins))) S3 hg hm q hdbg
          · exact ld_blt (X := X.suite a ((a, oe3) :: (X.pn ++ pins))) S3 hg hm hv q hnn hdbg
        refine test (LM.here ?_)
        cases b with
        | true =>
          refine codeAny_handlers_suite_as ?_
          refine HandSPX.lands_againZ fl3 fun h4 fl4 up4 => ?_
          have J4 : Inv X pins σ' H' { s' with heap := h4 } := J.landed nb fl4.1 ((up.trans up3).trans up4) os ag
          obtain ⟨oe4, vs4, he4, hz4, hd4⟩ := fl4.there
          have S4 := J4.suite he4 hd4 na nL nF
          refine store_ok (X := X.suite a ((a, oe4) :: (X.pn ++ pins))) (v := .ref a) S4 hN hi hloc rfl (fun s5 S5 => ?_) (.inr hln)
          refine wpAny_mono ((hsu a oe4 cls d (X.pn ++ pins) hz4 ⟨_, hd4⟩).run [] s5 _ H' _ S5 (hyes rfl a na)) (fun f s6 hsp => ?_) (fun _ _ z => False.elim z)
          have end_ : ∀ {σ6 : St} {H6 : Hp} {Q : Shared → Prop}, Inv (X.suite a ((a, oe4) :: (X.pn ++ pins))) [] σ6 H6 s6 → (∀ s7, Inv X pins (σ6.set i none) H6 s7 → Q s7) →
              wpAny (model X.prog X.w) X.A (do bindName X.env n .none; unbindBehindTheSuite X.env n pos') (fun _ s7 => Q s7) X.xe s6 := fun {σ6 H6 Q} S6 hq => gone_ok (S6.unsuite ok) hN hi hln hq
          cases f with
          | next =>
            obtain ⟨σ6, H6, S6, q6⟩ := hsp
            exact end_ S6 fun s7 J7 => ⟨_, _, J7, q6⟩
          | brk =>
            obtain ⟨σ6, H6, S6, q6⟩ := hsp
            exact end_ S6 fun s7 J7 => ⟨_, _, J7, q6⟩
          | cont =>
            obtain ⟨σ6, H6, S6, q6⟩ := hsp
            exact end_ S6 fun s7 J7 => ⟨_, _, J7, q6⟩
          | ret u =>
            obtain ⟨v6, σ6, H6, S6, r6, q6⟩ := hsp
            exact end_ S6 fun s7 J7 => ⟨_, _, _, J7, r6, q6⟩
        | false =>
          show wpAny _ X.A (handleBy (.ref a) X.env hds2) _ _ _
          exact ih (hno rfl)
    exact go hh w
  · cases f with
    | next =>
      obtain ⟨σ', H', J', q⟩ := hsp
      exact wpAny_execs_nil ⟨σ', H', J'.ofTry ok, q⟩
    | brk =>
      obtain ⟨σ', H', J', q⟩ := hsp
      exact ⟨σ', H', J'.ofTry ok, q⟩
    | cont =>
      obtain ⟨σ', H', J', q⟩ := hsp
      exact ⟨σ', H', J'.ofTry ok, q⟩
    | ret u =>
      obtain ⟨v, σ', H', J', r, q⟩ := hsp
      exact ⟨v, σ', H', J'.ofTry ok, r, q⟩
end
end L2
namespace G
variable [TabL]
open PySem PySem.Spec PyProof.Rows L2
/-- the clauses: class, slot of the name, suite -/
inductive HdsG (X : Cx) : List ExceptHandler → List (Value × Nat × List Stmt) → Prop
  | nil : HdsG X [] []
  | cons {x n : Str} {c : Value} {i : Nat} {b₀ : Stmt} {suite : List Stmt} {np pos' : Pos} {hds : List ExceptHandler} {l : List (Value × Nat × List Stmt)}
      (hi : X.N[i]? = some n) (hln : X.env.kindOf n = some .local) (hc : Names X x c) (r : HdsG X hds l) :
      HdsG X (.ExceptHandler (some (.Name x np)) (some n) (b₀ :: suite) pos' :: hds) ((c, i, b₀ :: suite) :: l)
abbrev suis (X : Cx) (l : List (Value × Nat × List Stmt)) : List (Value × Nat × (Addr → Value → Option Addr → TS)) := l.map fun x => (x.1, x.2.1, tSui X x.2.2)
theorem HdsG.as {X : Cx} : ∀ {hds : List ExceptHandler} {l : List (Value × Nat × List Stmt)}, HdsG X hds l → HdsAs X hds (suis X l)
  | _, _, .nil => .nil
  | _, _, .cons hi hln hc r => .cons hi hln hc (fun a oe cls d pn hz hf' => ⟨fun pins s σ H D I ⟨t, ht, q⟩ => (ht oe pn hz hf').run pins s σ H D I q⟩) r.as
theorem ps_tryM {X : Cx} {body : List Stmt} {h₀ : ExceptHandler} {hds : List ExceptHandler} {l : List (Value × Nat × List Stmt)} {pos : Pos} {Wout : WX} (hs : X.stack = X.env :: X.outer) (hf : X.env.frame = some X.env.locals) (hN : X.N.Nodup) (tk : Takes X Wout) (hh : HdsG X (h₀ :: hds) l) :
    PS X (.Try body (h₀ :: hds) [] [] pos) (fun D σ H => tBod X body (wManyAs X.K Wout D (suis X l)) D σ H) :=
  ps_try_manyAs (tb := fun W => tBod X body W) hs hf hN tk (fun W pn xe tk' po => ⟨fun pins s σ H D I ⟨t, ht, q⟩ => (ht pn xe tk' po).run pins s σ H D I q⟩) hh.as
section
variable {α β γ δ ε ε' : Type} {r : Rp α} {rb : Rp β} {rc : Rp γ} {te ta tb : TE} {t : TA} {Γ Γ1 Γ2 : List Sl} {K : PySem.W.Frag} {w : Rw α} {C : Addr} {names : List Str} {R : ER ε} {R1 : ER ε} {R2 : ER ε'} {A : Amb} {D : Ends} {u : TS} {i : Nat}
/-- the clause of another class -/
theorem nxe_no {c : Value} {ts : Addr → Value → Option Addr → TS} {W : WX} {e : α} (hx : PySem.W.exmOne K (.ref C) c = some false) (k : NxE W A Γ (fun B cls d x => ErAt B cls d C names w x) e) :
    NxE (wAs K c i ts W D) A Γ (fun B cls d x => ErAt B cls d C names w x) e := fun cls d σ H B F he => by
  obtain ⟨rfl, h⟩ := id he
  exact ⟨false, hx, fun q => Bool.noConfusion q, fun _ => k _ d σ H B F he⟩
def sumO {α β γ : Type} (x : α ⊕ β) (f : α → Option γ) (g : β → Option γ) : Option γ := match x with
  | .inl a => f a
  | .inr b => g b
@[simp] theorem sumO_l {α β γ : Type} (a : α) (f : α → Option γ) (g : β → Option γ) : sumO (.inl a) f g = f a := rfl
@[simp] theorem sumO_r {α β γ : Type} (b : β) (f : α → Option γ) (g : β → Option γ) : sumO (.inr b) f g = g b := rfl
theorem nxe_sum {W : WX} {x : ε ⊕ ε'} {f : ε → Option γ} {g : ε' → Option γ} {z : γ} (h : sumO x f g = some z) (k1 : ∀ a, f a = some z → NxE W A Γ R1 a) (k2 : ∀ b, g b = some z → NxE W A Γ R2 b) : NxE W A Γ (erS R1 R2) x := by
  cases x with
  | inl a => exact fun cls d σ H B F he => k1 a h cls d σ H B F he
  | inr b => exact fun cls d σ H B F he => k2 b h cls d σ H B F he
theorem sq_dropMk {W : WX} {wb : Rw β} {m : α → Option (Res ε β)} {a : α} {x : Res ε β} {k : β → Option γ} {l : ε → Option γ} {z : γ} (hmono : ∀ {H H' : Hp} {cls d e}, Same H H' → R H cls d e → R H' cls d e) (h : EvW w t Γ Γ1 a) (e : m a = some x) (q : resX x k l = some z)
    (ko : ∀ y, k y = some z → Nx A (u D) Γ1) (ke : ∀ y, l y = some z → NxE W A Γ1 R y) : Nx A (tSeq (tDrop (tMakeS C (SpI R C w (cIns C names wb) m) (WE W) t)) u D) Γ :=
  sq_dropR (tf := fun E => tMakeS C (SpI R C w (cIns C names wb) m) E t) (er_make (names := names) hmono h e) q ko ke
end
/-! ### x[y], which may raise -/
def tItX (C : Addr) (sp : Sp) (E : L2.St → XK) (ta tb : TE) : TE := fun σ H Q => ta σ H fun x H1 => tb σ H1 fun y H2 => ∃ a dx fs, x = .ref a ∧ H2 a = some (.ins C dx fs) ∧ sp [x, y] H2 Q (E σ)
section
variable {X : Cx} {CX : CXT} {C f : Addr} {fd : FuncData} {ps : List Str} {n : Nat} {sp : Sp} {E : L2.St → XK} {K : PySem.W.Frag} {a b : Expr} {ta tb : TE} {pos : Pos}
theorem pe_itX (hK : X.K = K) (hm : Meth K C "__getitem__" f) (hf : PySem.W.fnIn K f = true) (F : FnOk X.prog X.w X.K X.mg X.base CX n f fd ps sp) (hr : Room (n + 1) X.A) (hb : Binds K fd ps []) (hx : ∀ σ, PassesAt CX X σ (E σ)) (ha : PE X a ta) (hb2 : PE X b tb)
    (hs : ∀ o i, subscripted b true o i = runValue (.builtin "lifetime.subscript" ⟨[o, i], []⟩)) : PE X (.Subscript a b pos) (tItX C sp E ta tb) := by
  subst hK
  refine ⟨fun pins s σ H Q I h => ?_⟩
  refine Subscript_ (binT ha hb2 I h fun v u s2 x y H2 I2 rx ry q => ?_)
  obtain ⟨a, dx, fs, rfl, ha, q⟩ := q
  cases (show v = Value.ref a from rx)
  obtain ⟨mA, J, _⟩ := ins_get I2.hok ha
  obtain ⟨od, J, _⟩ := J.look
  obtain ⟨m, hF⟩ := I2.fr
  have hl : ([Value.ref a, u] : List Value).length = ps.length := by rw [← F.len _ _ _ _ q]; rfl
  refine PySem.W.sub_K hF I2.ok.mod.kin J hm.at_ hf hm.fn ?_ (hs _ _)
  refine wpAny_call (codeAny_mono (F.run X.A.in1 X.stack s2 H2 ⟨[.ref a, u], []⟩ [.ref a, u] [.ref a, y] Q (E σ) hr.in1 I2.env0.in1 (by have := hb s2 [.ref a, u] I2.kIn (by rw [List.append_nil]; exact hl); rwa [List.append_nil] at this) (.cons rfl (.cons ry .nil)) q) fun r s' hq => ?_)
  cases r with
  | error e => exact hx σ pins H2 s2 e s' I2 hq
  | ok fl =>
    cases fl with
    | ret u => exact I2.after hq
    | next => exact False.elim hq
    | brk => exact False.elim hq
    | cont => exact False.elim hq
end
section
variable {α β γ δ ε : Type} {ra : Rp α} {rb : Rp β} {rc : Rp γ} {ta tb : TE} {Γ Γ1 Γ2 : List Sl} {K : PySem.W.Frag} {w : Rw α} {C : Addr} {names : List Str} {R : ER ε} {A : Amb} {D : Ends} {u : TS} {i : Nat} {x : α} {y : β}
theorem er_itX {m : α × β → Option (Res ε γ)} {z : Res ε γ} (ha : EvX (rIns C names w) ta Γ Γ1 x) (hb : EvX rb tb Γ1 Γ2 y) (e : m (x, y) = some z) :
    EvR R rc (fun E => tItX C (SpX R (wC (rIns C names w) (w1 rb)) rc m) E ta tb) Γ Γ2 z := fun A σ H B F E Q qo qe =>
  ha A σ H B F _ fun u H1 B1 F1 s1 k1 => hb A σ H1 B1 F1 _ fun v H2 B2 F2 s2 k2 => by
    have k1' := (rIns C names w).mono s2 k1
    obtain ⟨p, dx, vs, rfl, hp, l, kw⟩ := ob_ins F2.bh k1'
    exact ⟨p, dx, _, rfl, hp, B2, (x, y), z, F2.szt, F2.bh, ⟨_, _, rfl, k1', _, rfl, k2⟩, e, fun b hb H3 B3 v3 P k3 => qo b hb v3 H3 B3 (F2.after P) ((s1.trans s2).trans P.b0) k3, fun b hb cls d H3 B3 P k3 => qe b hb cls d H3 B3 (F2.after P) ((s1.trans s2).trans P.b0) k3⟩
theorem ev_itOk {m : α × β → Option (Res ε γ)} {z : Res ε γ} {c : γ} (E : L2.St → XK) (ha : EvX (rIns C names w) ta Γ Γ1 x) (hb : EvX rb tb Γ1 Γ2 y) (e : m (x, y) = some z) (e2 : okR z = some c) :
    EvX rc (tItX C (SpX R (wC (rIns C names w) (w1 rb)) rc m) E ta tb) Γ Γ2 c := ev_ok (er_itX ha hb e) (okR_eq e2) E
theorem sq_asgIt {W : WX} {m : α × β → Option (Res ε γ)} {z : Res ε γ} {k : γ → Option δ} {l : ε → Option δ} {q : δ} (ha : EvX (rIns C names w) ta Γ Γ1 x) (hb : EvX rb tb Γ1 Γ2 y) (e : m (x, y) = some z) (h : resX z k l = some q)
    (ko : ∀ y, k y = some q → Nx A (u D) (Γ2.set i (.imm rc y))) (ke : ∀ y, l y = some q → NxE W A Γ2 R y) : Nx A (tSeq (tAsg (tItX C (SpX R (wC (rIns C names w) (w1 rb)) rc m) (WE W) ta tb) (gName i)) u D) Γ :=
  sq_asgR (tf := fun E => tItX C (SpX R (wC (rIns C names w) (w1 rb)) rc m) E ta tb) (er_itX ha hb e) h ko ke
theorem sq_dropIt {W : WX} {m : α × β → Option (Res ε γ)} {z : Res ε γ} {k : γ → Option δ} {l : ε → Option δ} {q : δ} (ha : EvX (rIns C names w) ta Γ Γ1 x) (hb : EvX rb tb Γ1 Γ2 y) (e : m (x, y) = some z) (h : resX z k l = some q)
    (ko : ∀ y, k y = some q → Nx A (u D) Γ2) (ke : ∀ y, l y = some q → NxE W A Γ2 R y) : Nx A (tSeq (tDrop (tItX C (SpX R (wC (rIns C names w) (w1 rb)) rc m) (WE W) ta tb)) u D) Γ :=
  sq_dropR (tf := fun E => tItX C (SpX R (wC (rIns C names w) (w1 rb)) rc m) E ta tb) (er_itX ha hb e) h ko ke
end
/-! ### len(x), the truth of x: by an own __len__ -/
section
variable {prog : Program} {w : World} {A : Around} {E : Value → Shared → Prop} {s : Shared} {K : PySem.W.Frag} {x C f : Addr} {ox : Obj} {odd : Option Obj}
theorem truth_len {Q : Bool → Shared → Prop} (X : K.In s.heap) (I : PySem.W.InstAt s.heap x ox C odd) (hn : PySem.W.findIn K (.ref C) "__bool__" = some none) (hs : PySem.W.findIn K (.ref C) "__len__" = some (some (.ref f))) (hf : PySem.W.isFn K (.ref f) = true)
    (h : wpAny (model prog w) A.in1 (call (.ref f) [.ref x]) (PySem.W.LenBack fun v s' => ∃ n t, v = .int n t ∧ Q (n != 0) s') E s) : wpAny (model prog w) A (truthy (.ref x)) Q E s := by
  unfold truthy
  refine wpAny_bind (m := callSpecial? (.ref x) (Str.ofString "__bool__")) (wpAny_bind (wpAny_bind (I.type.here ((PySem.W.looks_findIn X hn).here (wpAny_pure ?_)))))
  refine wpAny_bind (wpAny_bind (I.type.here ((PySem.W.looks_findIn X hs).here ?_)))
  show wpAny _ _ (do let v ← runValue (.builtin "len" ⟨[Value.ref x], []⟩); _) _ _ _
  refine wpAny_bind (wpAny_mono (Q := fun v s' => ∃ n t, v = Value.int n t ∧ Q (n != 0) s') (wpAny_runValue (codeAny_builtin entry_len ?_)) (fun v s' hv => ?_) fun _ _ y => y)
  · rw [Around.under_plainId plain_len _]
    refine wpAny_mono (Q := fun fin s' => ∃ r, fin = .done (.ret r) ∧ ∃ n t, r = Value.int n t ∧ Q (n != 0) s') ?_ (fun fin s' h' => by obtain ⟨r, rfl, hq⟩ := h'; exact hq) fun _ _ e => e
    unfold Builtin.«len»
    refine wpAny_bind (m := oneArg "len" _) (wpAny_pure ?_)
    refine wpAny_bind (m := callSpecial? (.ref x) (Str.ofString "__len__")) (PySem.W.special_fn X I hs (beq_iff_eq.mp hf) (wpAny_mono h (fun r s' hr => ?_) fun _ _ y => y))
    cases r <;> first | exact hr.elim | skip
    rename_i n u
    obtain ⟨⟨h0, h1⟩, hq⟩ := hr
    refine wpAny_bind (wpAny_holding (wpAny_pure ?_))
    refine wpAny_bind (wpAny_letGo ?_)
    show wpAny _ _ (if n < 0 then _ else _) _ _ _
    rw [if_neg (by omega)]
    show wpAny _ _ (if n ≥ 2 ^ 63 then _ else _) _ _ _
    rw [if_neg (by omega)]
    exact wpAny_bind (wpAny_mkInt (wpAny_pure ⟨_, rfl, hq⟩))
  · obtain ⟨n, t, rfl, q⟩ := hv
    exact wpAny_pure q
end
section
variable {X : Cx} {CX : CXT} {C f : Addr} {fd : FuncData} {ps : List Str} {n : Nat} {sp : Sp} {E : XK} {K : PySem.W.Frag}
def rLenO (C : Addr) (sp : Sp) (E : XK) : List V → Hp → VK → Prop := fun xs H Q => ∃ a dx fs, xs = [V.ref a] ∧ H a = some (.ins C dx fs) ∧ sp [.ref a] H (fun z H' => ∃ k : Int, z = .int k ∧ 0 ≤ k ∧ k < 2 ^ 63 ∧ Q z H') E
theorem call_lenO (hm : Meth X.K C "__len__" f) (F : FnOk X.prog X.w X.K X.mg X.base CX n f fd ps sp) (hr : Room (n + 1) X.A) (hb : Binds X.K fd ps []) (hx : Passes CX X E) : CallR X (.builtin "len") (rLenO C sp E) := by
  intro pins s σ H xs us Q I r h
  obtain ⟨a, dx, fs, rfl, ha, q⟩ := h
  rw [Vals.ref1 r]
  obtain ⟨mA, J, _⟩ := ins_get I.hok ha
  obtain ⟨od, J, _⟩ := J.look
  obtain ⟨m, hF⟩ := I.fr
  refine PySem.W.len_K hF I.ok.mod.kin J hm.at_ hm.fn (wpAny_mono (run_fnA (us := [.ref a]) (vs := [.ref a]) F (Room.in1 hr) I.env0.in1 hb hx I (.cons rfl .nil) q) (fun w s' z => ?_) fun _ _ y => y)
  obtain ⟨z', H', I', rz, k, rfl, h0, h1, qz⟩ := z
  obtain ⟨t, rfl⟩ : ∃ t, w = Value.int k t := rz
  exact ⟨⟨h0, h1⟩, .int k, H', I'.tok _, ⟨_, rfl⟩, qz⟩
def rTruL (C : Addr) (sp : Sp) (E : XK) : V → Hp → (Bool → Hp → Prop) → Prop := fun x H Q => ∃ a dx fs, x = V.ref a ∧ H a = some (.ins C dx fs) ∧ sp [.ref a] H (fun z H' => ∃ k : Int, z = .int k ∧ 0 ≤ k ∧ k < 2 ^ 63 ∧ Q (!decide (k = 0)) H') E
theorem tru_lenO (hm : Meth X.K C "__len__" f) (nb : PySem.W.findIn X.K (.ref C) "__bool__" = some none) (F : FnOk X.prog X.w X.K X.mg X.base CX n f fd ps sp) (hr : Room (n + 1) X.A) (hb : Binds X.K fd ps []) (hx : Passes CX X E) : TruR X (rTruL C sp E) := by
  intro pins s σ H x v Q I rx h
  obtain ⟨a, dx, fs, rfl, ha, q⟩ := h
  cases (show v = Value.ref a from rx)
  obtain ⟨mA, J, _⟩ := ins_get I.hok ha
  obtain ⟨od, J, _⟩ := J.look
  refine truth_len I.kIn J nb hm.at_ hm.fn (wpAny_mono (run_fnA (us := [.ref a]) (vs := [.ref a]) F (Room.in1 hr) I.env0.in1 hb hx I (.cons rfl .nil) q) (fun w s' z => ?_) fun _ _ y => y)
  obtain ⟨z', H', I', rz, k, rfl, h0, h1, qz⟩ := z
  obtain ⟨t, rfl⟩ : ∃ t, w = Value.int k t := rz
  refine ⟨⟨h0, h1⟩, k, _, rfl, H', I'.tok _, ?_⟩
  rw [show (k != 0) = !decide (k = 0) from rfl]
  exact qz
end
section
variable {prog : Program} {w : World} {A : Around} {E : Value → Shared → Prop} {s : Shared} {x : Addr}
theorem bool_tr {Q : Bool → Shared → Prop} (h : wpAny (model prog w) A.in1.in1 (truthy (.ref x)) Q E s) : wpAny (model prog w) A (call (.type "bool") [.ref x]) (fun v s' => ∃ b, v = .bool b ∧ Q b s') E s := by
  refine callType_codes (T := "bool") (Bi := Builtin.«object.__init__») (Q₁ := fun r s₁ => ∃ b, r = Value.bool b ∧ Q b s₁) PySem.F.called_bool (PySem.F.typeCall_bool_1 _) PySem.F.entry_object_init ?_ ?_
  · refine codeAny_of_tree ?_
    show wpAny _ A.in1.in1 (do checkBuiltinCall "bool.__new__" ⟨[.type "bool", .ref x], []⟩; again (.builtin "bool.__new__" ⟨[.type "bool", .ref x], []⟩)) _ _ s
    refine wpAny_bind (wpAny_of_eq (PySem.F.newCall_bool_1 _) (wpAny_pure ⟨plainId_quiet (by decide +kernel) _, codeAny_builtin PySem.F.entry_bool_new ?_⟩))
    rw [Around.under_plainId (by decide +kernel) _]
    unfold Builtin.«bool.__new__»
    refine wpAny_bind (wpAny_of_eq (a := true) (by first | rfl | kernel_rfl | (unfold isType; rw [isSubtype_type]; kernel_rfl)) ?_)
    refine PySem.W.KFB.if_not rfl ?_
    refine wpAny_bind (wpAny_of_eq (a := true) PySem.F.conv_sub_bool ?_)
    refine PySem.W.KFB.if_not rfl ?_
    refine wpAny_bind (wpAny_of_eq (a := [.ref x]) rfl ?_)
    show wpAny _ _ (do let b ← truthy (.ref x); ret (.bool b)) _ _ s
    exact wpAny_bind (wpAny_mono h (fun b s₁ hr => wpAny_pure ⟨b, rfl, hr⟩) fun _ _ y => y)
  · rintro obj s₁ ⟨b, rfl, hq⟩
    exact ⟨rfl, PySem.F.args_object_init_2 _ _, object_init_meets PySem.F.called_bool.init.lookup PySem.F.called_bool.made (by decide) prog w A.in1 _ s₁ ⟨rfl, rfl, b, rfl, hq⟩⟩
end
section
variable {X : Cx} {CX : CXT} {C f : Addr} {fd : FuncData} {ps : List Str} {n : Nat} {sp : Sp} {E : XK} {K : PySem.W.Frag}
def rBoolL (C : Addr) (sp : Sp) (E : XK) : List V → Hp → VK → Prop := fun xs H Q => ∃ a dx fs, xs = [V.ref a] ∧ H a = some (.ins C dx fs) ∧ sp [.ref a] H (fun z H' => ∃ k : Int, z = .int k ∧ 0 ≤ k ∧ k < 2 ^ 63 ∧ Q (.bl (!decide (k = 0))) H') E
theorem call_boolL (hm : Meth X.K C "__len__" f) (nb : PySem.W.findIn X.K (.ref C) "__bool__" = some none) (F : FnOk X.prog X.w X.K X.mg X.base CX n f fd ps sp) (hr : Room (n + 3) X.A) (hb : Binds X.K fd ps []) (hx : Passes CX X E) : CallR X (.type "bool") (rBoolL C sp E) := by
  intro pins s σ H xs us Q I r h
  obtain ⟨a, dx, fs, rfl, ha, q⟩ := h
  rw [Vals.ref1 r]
  obtain ⟨mA, J, _⟩ := ins_get I.hok ha
  obtain ⟨od, J, _⟩ := J.look
  have hr3 : Room n X.A.in1.in1.in1 := ((show Room (n + 2) X.A.in1 from Room.in1 hr).in1).in1
  refine wpAny_mono (bool_tr (Q := fun b s' => EP X pins σ Q (.bool b) s') (truth_len I.kIn J nb hm.at_ hm.fn (wpAny_mono (run_fnA (us := [.ref a]) (vs := [.ref a]) F hr3 I.env0.in1.in1.in1 hb hx I (.cons rfl .nil) q) (fun w s' z => ?_) fun _ _ y => y))) (fun w s' z => ?_) fun _ _ y => y
  · obtain ⟨z', H', I', rz, k, rfl, h0, h1, qz⟩ := z
    obtain ⟨t, rfl⟩ : ∃ t, w = Value.int k t := rz
    exact ⟨⟨h0, h1⟩, k, _, rfl, .bl _, H', I'.tok _, rfl, qz⟩
  · obtain ⟨b, rfl, z⟩ := z
    exact z
end
def lenOK (k : Int) : Option Int := if 0 ≤ k ∧ k < 9223372036854775808 then some k else none
section
variable {α β γ : Type} {te : TE} {Γ Γ1 : List Sl} {w : Rw α} {C : Addr} {names : List Str} {x : α} {E : XK}
theorem lenOK_eq {k b : Int} (h : lenOK k = some b) : b = k ∧ 0 ≤ k ∧ k < 2 ^ 63 := by
  unfold lenOK at h
  split at h
  · rename_i q; cases h; exact ⟨rfl, q.1, q.2⟩
  · cases h
theorem ev_lenO {m : α → Option Int} {b c : Int} (h : EvX (rIns C names w) te Γ Γ1 x) (e : m x = some b) (e2 : lenOK b = some c) : EvX rInt (tCB (rLenO C (SpP (w1 (rIns C names w)) rInt m) E) (tCons te tNil)) Γ Γ1 c := fun A σ H B F Q q => h A σ H B F _ fun v H1 B1 F1 s1 k1 => by
  obtain ⟨p, dx, vs, rfl, hp, l, kw⟩ := ob_ins F1.bh k1
  obtain ⟨rfl, h0, h1⟩ := lenOK_eq e2
  exact ⟨p, dx, _, rfl, hp, B1, x, c, F1.szt, F1.bh, ⟨_, rfl, k1⟩, e, fun H3 B3 v3 P k3 => ⟨c, k3, h0, h1, q _ H3 B3 (F1.after P) (s1.trans P.b0) k3⟩⟩
theorem ev_boolL {m : α → Option Int} {b c : Int} (h : EvX (rIns C names w) te Γ Γ1 x) (e : m x = some b) (e2 : lenOK b = some c) : EvX rBool (tCB (rBoolL C (SpP (w1 (rIns C names w)) rInt m) E) (tCons te tNil)) Γ Γ1 (!decide (c = 0)) := fun A σ H B F Q q => h A σ H B F _ fun v H1 B1 F1 s1 k1 => by
  obtain ⟨p, dx, vs, rfl, hp, l, kw⟩ := ob_ins F1.bh k1
  obtain ⟨rfl, h0, h1⟩ := lenOK_eq e2
  exact ⟨p, dx, _, rfl, hp, B1, x, c, F1.szt, F1.bh, ⟨_, rfl, k1⟩, e, fun H3 B3 v3 P k3 => ⟨c, k3, h0, h1, q _ H3 B3 (F1.after P) (s1.trans P.b0) rfl⟩⟩
theorem et_lenO {m : α → Option Int} {b c : Int} (h : EvX (rIns C names w) te Γ Γ1 x) (e : m x = some b) (e2 : lenOK b = some c) : EvT (fun σ H Q => te σ H fun z H' => rTruL C (SpP (w1 (rIns C names w)) rInt m) E z H' Q) Γ Γ1 (!decide (c = 0)) := fun A σ H B F Q q => h A σ H B F _ fun v H1 B1 F1 s1 k1 => by
  obtain ⟨p, dx, vs, rfl, hp, l, kw⟩ := ob_ins F1.bh k1
  obtain ⟨rfl, h0, h1⟩ := lenOK_eq e2
  exact ⟨p, dx, _, rfl, hp, B1, x, c, F1.szt, F1.bh, ⟨_, rfl, k1⟩, e, fun H3 B3 v3 P k3 => ⟨c, k3, h0, h1, q H3 B3 (F1.after P) (s1.trans P.b0)⟩⟩
end
end G
namespace G
variable [TabL]
open PySem PySem.Spec PyProof.Rows L2
section
variable {α β γ δ : Type} {ra : Rp α} {rb : Rp β} {rc : Rp γ} {te : TE} {Γ Γ1 : List Sl} {x : α ⊕ β}
theorem nn_alt (h : NN ra) (k : NN rb) : NN (rAlt ra rb) := fun H v a q => by
  cases a with
  | inl a => exact h _ _ _ q
  | inr b => exact k _ _ _ q
instance [NoL ra] [NoL rb] : NoL (rAlt ra rb) := ⟨fun {B p vs v a} hp h => by
  cases a with
  | inl a => exact NoL.no (r := ra) hp h
  | inr b => exact NoL.no (r := rb) hp h⟩
theorem ev_altW {f : α → γ} {g : β → γ} (hl : ∀ a, EvX ra te Γ Γ1 a → EvX rc te Γ Γ1 (f a)) (hr : ∀ b, EvX rb te Γ Γ1 b → EvX rc te Γ Γ1 (g b)) (h : EvX (rAlt ra rb) te Γ Γ1 x) : EvX rc te Γ Γ1 (altO x f g) := ev_altO (T := fun te => te) hl hr h
/-- without the last of three -/
def dropR {α β γ : Type} : α ⊕ (β ⊕ γ) → Option (α ⊕ β)
  | .inl a => some (.inl a)
  | .inr (.inl b) => some (.inr b)
  | .inr (.inr _) => none
theorem ev_dropR {y : α ⊕ (β ⊕ γ)} {z : α ⊕ β} (h : EvX (rAlt ra (rAlt rb rc)) te Γ Γ1 y) (e : dropR y = some z) : EvX (rAlt ra rb) te Γ Γ1 z := by
  cases y with
  | inl a => cases e; exact ev_inl (un_inl h)
  | inr y =>
    cases y with
    | inl b => cases e; exact ev_inr (un_inl (un_inr h))
    | inr c => cases e
end
end G
namespace G
variable [TabL]
open PySem PySem.Spec PyProof.Rows L2
section
variable {X : Cx} {a : Expr} {ta : TE} {pos : Pos} {r : V → Hp → (Bool → Hp → Prop) → Prop} {Γ Γ1 : List Sl} {c : Int}
/-- not x, x's truth by a rule -/
theorem pe_notR (ha : PE X a ta) (hr : TruR X r) : PE X (.UnaryOp .Not a pos) (fun σ H Q => (fun σ H Q => ta σ H fun x H' => r x H' Q) σ H fun c H1 => Q (.bl (!c)) H1) := by
  refine ⟨fun pins s σ H Q I h => ?_⟩
  refine UnaryOp_ (thn (ha.run pins s σ H _ I h) fun v s1 ⟨x, H1, I1, r1, q1⟩ => ?_)
  exact not_of (thn (hr pins s1 σ H1 x v (fun c H2 => Q (.bl (!c)) H2) I1 r1 q1) fun c s2 ⟨H2, I2, q2⟩ => ⟨.bl (!c), H2, I2, rfl, q2⟩)
theorem ev_notL {tt : TT} (h : EvT tt Γ Γ1 (!decide (c = 0))) : EvX rBool (fun σ H Q => tt σ H fun c H1 => Q (.bl (!c)) H1) Γ Γ1 (decide (c = 0)) := fun A σ H B F Q q => h A σ H B F _ fun H' B' F' s => q _ H' B' F' s (by rw [Bool.not_not]; rfl)
end
end G

set_option maxHeartbeats 4000000
/-! # G: what may raise, in each kind of statement -/
namespace G
variable [TabL]
open PySem PySem.Spec PyProof.Rows L2
section
variable {α β γ δ κ ρ ε : Type} {r : Rp α} {rb : Rp β} {rc : Rp γ} {ta tb : TE} {t : TA} {Γ Γ1 Γ2 : List Sl} {K : PySem.W.Frag} {w : Rw α} {C : Addr} {names : List Str} {R : ER ε} {tf : (L2.St → XK) → TE} {A : Amb} {D : Ends} {u : TS} {i : Nat} {W : WX}
/-- an error leaves the def -/
theorem nxe_out {E : XK} {e : ε} (k : RtE A R e E) : NxE (fun cls d _ H => E cls d H) A Γ R e := fun cls d σ H B F he => k cls d H B F.post he
theorem sq_retR {x : Res ε γ} {k : γ → Option δ} {l : ε → Option δ} {z : δ} (h : EvR R rc tf Γ Γ1 x) (e : resX x k l = some z) (ko : ∀ y, k y = some z → Rt A (psi rc) y D.rt) (ke : ∀ y, l y = some z → NxE W A Γ1 R y) : Nx A (tSeq (tRet (tf (WE W))) u D) Γ := fun σ H B F =>
  h A σ H B F (WE W) _ (fun b hb v H' B' F' _ q => ko b (by rw [hb] at e; exact e) H' B' v F'.post q) (fun y hy cls d H' B' F' _ q => ke y (by rw [hy] at e; exact e) _ _ _ _ _ F' q)
theorem sq_fldR {C0 : Addr} {names0 : List Str} {p : Addr} {nm0 : Str} {w0' : Rw β} {w' : Rw ρ} {f : β → γ → ρ} {a0 : β} {x : Res ε γ} {k : γ → Option δ} {l : ε → Option δ} {z : δ} (h : EvR R rc tf Γ Γ1 x) (e : resX x k l = some z)
    (hi : Γ1[i]? = some (.cel p (cIns C0 names0 w0') a0)) (sn : Snoc w0' rc w' f) (nn : nm0 ∉ names0) (hl : names0.length < 900) (c : Cls K C0) (na : NoAttr K C0 nm0)
    (ko : ∀ y, k y = some z → Nx A (u D) (Γ1.set i (.cel p (cIns C0 (names0 ++ [nm0]) w') (f a0 y)))) (ke : ∀ y, l y = some z → NxE W A Γ1 R y) : Nx A (tSeq (sFld K (tVar i) (tf (WE W)) nm0) u D) Γ := fun σ H B F =>
  h A σ H B F (WE W) _ (fun b hb v H1 B1 F1 s1 k1 => by
    obtain ⟨e', o, ho, dx, vs, rfl, l', kw⟩ := cel_at F1 hi
    refine ⟨_, e', p, C0, dx, _, rfl, ho, c, na, by rw [List.length_zip]; omega, ?_⟩
    exact ko b (by rw [hb] at e; exact e) σ _ B1 (F1.write hi (c' := cIns C0 (names0 ++ [nm0]) w') (o' := .ins C0 dx (putF nm0 v (names0.zip vs))) ⟨dx, vs ++ [v], by rw [putF_zip nn l'], by rw [List.length_append, List.length_append, l']; rfl, sn B1 vs a0 v b kw k1⟩ trivial)) (fun y hy cls d H' B' F' _ q => ke y (by rw [hy] at e; exact e) _ _ _ _ _ F' q)
theorem xaCall {wg : Rw κ} {m : κ → Option (Res ε γ)} {a : κ} {x : Res ε γ} (h : EvW wg t Γ Γ1 a) (e : m a = some x) {k : γ → Option δ} {l : ε → Option δ} {z : δ} (q : resX x k l = some z)
    (ko : ∀ y, k y = some z → Nx A (u D) (Γ1.set i (.imm rc y))) (ke : ∀ y, l y = some z → NxE W A Γ1 R y) : Nx A (tSeq (tAsg ((fun E => tCallS (SpX R wg rc m) E t) (WE W)) (gName i)) u D) Γ := sq_asgR (tf := fun E => tCallS (SpX R wg rc m) E t) (er_callX h e) q ko ke
theorem xdCall {wg : Rw κ} {m : κ → Option (Res ε γ)} {a : κ} {x : Res ε γ} (h : EvW wg t Γ Γ1 a) (e : m a = some x) {k : γ → Option δ} {l : ε → Option δ} {z : δ} (q : resX x k l = some z)
    (ko : ∀ y, k y = some z → Nx A (u D) Γ1) (ke : ∀ y, l y = some z → NxE W A Γ1 R y) : Nx A (tSeq (tDrop ((fun E => tCallS (SpX R wg rc m) E t) (WE W))) u D) Γ := sq_dropR (r := rc) (tf := fun E => tCallS (SpX R wg rc m) E t) (er_callX h e) q ko ke
theorem xrCall {wg : Rw κ} {m : κ → Option (Res ε γ)} {a : κ} {x : Res ε γ} (h : EvW wg t Γ Γ1 a) (e : m a = some x) {k : γ → Option δ} {l : ε → Option δ} {z : δ} (q : resX x k l = some z)
    (ko : ∀ y, k y = some z → Rt A (psi rc) y D.rt) (ke : ∀ y, l y = some z → NxE W A Γ1 R y) : Nx A (tSeq (tRet ((fun E => tCallS (SpX R wg rc m) E t) (WE W))) u D) Γ := sq_retR (tf := fun E => tCallS (SpX R wg rc m) E t) (er_callX h e) q ko ke
theorem xfCall {C0 : Addr} {names0 : List Str} {p : Addr} {nm0 : Str} {δ0 : Type} {w0' : Rw δ0} {w' : Rw ρ} {f : δ0 → γ → ρ} {a0 : δ0} {wg : Rw κ} {m : κ → Option (Res ε γ)} {a : κ} {x : Res ε γ} (h : EvW wg t Γ Γ1 a) (e : m a = some x) {k : γ → Option δ} {l : ε → Option δ} {z : δ} (q : resX x k l = some z)
    (hi : Γ1[i]? = some (.cel p (cIns C0 names0 w0') a0)) (sn : Snoc w0' rc w' f) (nn : nm0 ∉ names0) (hl : names0.length < 900) (c : Cls K C0) (na : NoAttr K C0 nm0)
    (ko : ∀ y, k y = some z → Nx A (u D) (Γ1.set i (.cel p (cIns C0 (names0 ++ [nm0]) w') (f a0 y)))) (ke : ∀ y, l y = some z → NxE W A Γ1 R y) : Nx A (tSeq (sFld K (tVar i) ((fun E => tCallS (SpX R wg rc m) E t) (WE W)) nm0) u D) Γ := sq_fldR (tf := fun E => tCallS (SpX R wg rc m) E t) (er_callX h e) q hi sn nn hl c na ko ke
theorem xaMake {wg : Rw κ} {wb : Rw γ} {m : κ → Option (Res ε γ)} {a : κ} {x : Res ε γ} (hmono : ∀ {H H' : Hp} {cls d e}, Same H H' → R H cls d e → R H' cls d e) (h : EvW wg t Γ Γ1 a) (e : m a = some x) {k : γ → Option δ} {l : ε → Option δ} {z : δ} (q : resX x k l = some z)
    (ko : ∀ y, k y = some z → Nx A (u D) (Γ1.set i (.imm (rIns C names wb) y))) (ke : ∀ y, l y = some z → NxE W A Γ1 R y) : Nx A (tSeq (tAsg ((fun E => tMakeS C (SpI R C wg (cIns C names wb) m) E t) (WE W)) (gName i)) u D) Γ := sq_asgR (tf := fun E => tMakeS C (SpI R C wg (cIns C names wb) m) E t) (er_make hmono h e) q ko ke
theorem xdMake {wg : Rw κ} {wb : Rw γ} {m : κ → Option (Res ε γ)} {a : κ} {x : Res ε γ} (hmono : ∀ {H H' : Hp} {cls d e}, Same H H' → R H cls d e → R H' cls d e) (h : EvW wg t Γ Γ1 a) (e : m a = some x) {k : γ → Option δ} {l : ε → Option δ} {z : δ} (q : resX x k l = some z)
    (ko : ∀ y, k y = some z → Nx A (u D) Γ1) (ke : ∀ y, l y = some z → NxE W A Γ1 R y) : Nx A (tSeq (tDrop ((fun E => tMakeS C (SpI R C wg (cIns C names wb) m) E t) (WE W))) u D) Γ := sq_dropR (r := (rIns C names wb)) (tf := fun E => tMakeS C (SpI R C wg (cIns C names wb) m) E t) (er_make hmono h e) q ko ke
theorem xrMake {wg : Rw κ} {wb : Rw γ} {m : κ → Option (Res ε γ)} {a : κ} {x : Res ε γ} (hmono : ∀ {H H' : Hp} {cls d e}, Same H H' → R H cls d e → R H' cls d e) (h : EvW wg t Γ Γ1 a) (e : m a = some x) {k : γ → Option δ} {l : ε → Option δ} {z : δ} (q : resX x k l = some z)
    (ko : ∀ y, k y = some z → Rt A (psi (rIns C names wb)) y D.rt) (ke : ∀ y, l y = some z → NxE W A Γ1 R y) : Nx A (tSeq (tRet ((fun E => tMakeS C (SpI R C wg (cIns C names wb) m) E t) (WE W))) u D) Γ := sq_retR (tf := fun E => tMakeS C (SpI R C wg (cIns C names wb) m) E t) (er_make hmono h e) q ko ke
theorem xfMake {C0 : Addr} {names0 : List Str} {p : Addr} {nm0 : Str} {δ0 : Type} {w0' : Rw δ0} {w' : Rw ρ} {f : δ0 → γ → ρ} {a0 : δ0} {wg : Rw κ} {wb : Rw γ} {m : κ → Option (Res ε γ)} {a : κ} {x : Res ε γ} (hmono : ∀ {H H' : Hp} {cls d e}, Same H H' → R H cls d e → R H' cls d e) (h : EvW wg t Γ Γ1 a) (e : m a = some x) {k : γ → Option δ} {l : ε → Option δ} {z : δ} (q : resX x k l = some z)
    (hi : Γ1[i]? = some (.cel p (cIns C0 names0 w0') a0)) (sn : Snoc w0' (rIns C names wb) w' f) (nn : nm0 ∉ names0) (hl : names0.length < 900) (c : Cls K C0) (na : NoAttr K C0 nm0)
    (ko : ∀ y, k y = some z → Nx A (u D) (Γ1.set i (.cel p (cIns C0 (names0 ++ [nm0]) w') (f a0 y)))) (ke : ∀ y, l y = some z → NxE W A Γ1 R y) : Nx A (tSeq (sFld K (tVar i) ((fun E => tMakeS C (SpI R C wg (cIns C names wb) m) E t) (WE W)) nm0) u D) Γ := sq_fldR (tf := fun E => tMakeS C (SpI R C wg (cIns C names wb) m) E t) (er_make hmono h e) q hi sn nn hl c na ko ke
theorem xaBin {m : α × α → Option (Res ε γ)} {x : Res ε γ} {y1 y2 : α} (h : EvX (rIns C names w) ta Γ Γ1 y1) (h2 : EvX (rIns C names w) tb Γ1 Γ2 y2) (e : m (y1, y2) = some x) {k : γ → Option δ} {l : ε → Option δ} {z : δ} (q : resX x k l = some z)
    (ko : ∀ y, k y = some z → Nx A (u D) (Γ2.set i (.imm rc y))) (ke : ∀ y, l y = some z → NxE W A Γ2 R y) : Nx A (tSeq (tAsg ((fun E => tBinX C (SpX R (wC (rIns C names w) (w1 (rIns C names w))) rc m) E ta tb) (WE W)) (gName i)) u D) Γ := sq_asgR (tf := fun E => tBinX C (SpX R (wC (rIns C names w) (w1 (rIns C names w))) rc m) E ta tb) (er_binX h h2 e) q ko ke
theorem xdBin {m : α × α → Option (Res ε γ)} {x : Res ε γ} {y1 y2 : α} (h : EvX (rIns C names w) ta Γ Γ1 y1) (h2 : EvX (rIns C names w) tb Γ1 Γ2 y2) (e : m (y1, y2) = some x) {k : γ → Option δ} {l : ε → Option δ} {z : δ} (q : resX x k l = some z)
    (ko : ∀ y, k y = some z → Nx A (u D) Γ2) (ke : ∀ y, l y = some z → NxE W A Γ2 R y) : Nx A (tSeq (tDrop ((fun E => tBinX C (SpX R (wC (rIns C names w) (w1 (rIns C names w))) rc m) E ta tb) (WE W))) u D) Γ := sq_dropR (r := rc) (tf := fun E => tBinX C (SpX R (wC (rIns C names w) (w1 (rIns C names w))) rc m) E ta tb) (er_binX h h2 e) q ko ke
theorem xrBin {m : α × α → Option (Res ε γ)} {x : Res ε γ} {y1 y2 : α} (h : EvX (rIns C names w) ta Γ Γ1 y1) (h2 : EvX (rIns C names w) tb Γ1 Γ2 y2) (e : m (y1, y2) = some x) {k : γ → Option δ} {l : ε → Option δ} {z : δ} (q : resX x k l = some z)
    (ko : ∀ y, k y = some z → Rt A (psi rc) y D.rt) (ke : ∀ y, l y = some z → NxE W A Γ2 R y) : Nx A (tSeq (tRet ((fun E => tBinX C (SpX R (wC (rIns C names w) (w1 (rIns C names w))) rc m) E ta tb) (WE W))) u D) Γ := sq_retR (tf := fun E => tBinX C (SpX R (wC (rIns C names w) (w1 (rIns C names w))) rc m) E ta tb) (er_binX h h2 e) q ko ke
theorem xfBin {C0 : Addr} {names0 : List Str} {p : Addr} {nm0 : Str} {δ0 : Type} {w0' : Rw δ0} {w' : Rw ρ} {f : δ0 → γ → ρ} {a0 : δ0} {m : α × α → Option (Res ε γ)} {x : Res ε γ} {y1 y2 : α} (h : EvX (rIns C names w) ta Γ Γ1 y1) (h2 : EvX (rIns C names w) tb Γ1 Γ2 y2) (e : m (y1, y2) = some x) {k : γ → Option δ} {l : ε → Option δ} {z : δ} (q : resX x k l = some z)
    (hi : Γ2[i]? = some (.cel p (cIns C0 names0 w0') a0)) (sn : Snoc w0' rc w' f) (nn : nm0 ∉ names0) (hl : names0.length < 900) (c : Cls K C0) (na : NoAttr K C0 nm0)
    (ko : ∀ y, k y = some z → Nx A (u D) (Γ2.set i (.cel p (cIns C0 (names0 ++ [nm0]) w') (f a0 y)))) (ke : ∀ y, l y = some z → NxE W A Γ2 R y) : Nx A (tSeq (sFld K (tVar i) ((fun E => tBinX C (SpX R (wC (rIns C names w) (w1 (rIns C names w))) rc m) E ta tb) (WE W)) nm0) u D) Γ := sq_fldR (tf := fun E => tBinX C (SpX R (wC (rIns C names w) (w1 (rIns C names w))) rc m) E ta tb) (er_binX h h2 e) q hi sn nn hl c na ko ke
theorem xaIt {m : α × β → Option (Res ε γ)} {x : Res ε γ} {y1 : α} {y2 : β} (h : EvX (rIns C names w) ta Γ Γ1 y1) (h2 : EvX rb tb Γ1 Γ2 y2) (e : m (y1, y2) = some x) {k : γ → Option δ} {l : ε → Option δ} {z : δ} (q : resX x k l = some z)
    (ko : ∀ y, k y = some z → Nx A (u D) (Γ2.set i (.imm rc y))) (ke : ∀ y, l y = some z → NxE W A Γ2 R y) : Nx A (tSeq (tAsg ((fun E => tItX C (SpX R (wC (rIns C names w) (w1 rb)) rc m) E ta tb) (WE W)) (gName i)) u D) Γ := sq_asgR (tf := fun E => tItX C (SpX R (wC (rIns C names w) (w1 rb)) rc m) E ta tb) (er_itX h h2 e) q ko ke
theorem xdIt {m : α × β → Option (Res ε γ)} {x : Res ε γ} {y1 : α} {y2 : β} (h : EvX (rIns C names w) ta Γ Γ1 y1) (h2 : EvX rb tb Γ1 Γ2 y2) (e : m (y1, y2) = some x) {k : γ → Option δ} {l : ε → Option δ} {z : δ} (q : resX x k l = some z)
    (ko : ∀ y, k y = some z → Nx A (u D) Γ2) (ke : ∀ y, l y = some z → NxE W A Γ2 R y) : Nx A (tSeq (tDrop ((fun E => tItX C (SpX R (wC (rIns C names w) (w1 rb)) rc m) E ta tb) (WE W))) u D) Γ := sq_dropR (r := rc) (tf := fun E => tItX C (SpX R (wC (rIns C names w) (w1 rb)) rc m) E ta tb) (er_itX h h2 e) q ko ke
theorem xrIt {m : α × β → Option (Res ε γ)} {x : Res ε γ} {y1 : α} {y2 : β} (h : EvX (rIns C names w) ta Γ Γ1 y1) (h2 : EvX rb tb Γ1 Γ2 y2) (e : m (y1, y2) = some x) {k : γ → Option δ} {l : ε → Option δ} {z : δ} (q : resX x k l = some z)
    (ko : ∀ y, k y = some z → Rt A (psi rc) y D.rt) (ke : ∀ y, l y = some z → NxE W A Γ2 R y) : Nx A (tSeq (tRet ((fun E => tItX C (SpX R (wC (rIns C names w) (w1 rb)) rc m) E ta tb) (WE W))) u D) Γ := sq_retR (tf := fun E => tItX C (SpX R (wC (rIns C names w) (w1 rb)) rc m) E ta tb) (er_itX h h2 e) q ko ke
theorem xfIt {C0 : Addr} {names0 : List Str} {p : Addr} {nm0 : Str} {δ0 : Type} {w0' : Rw δ0} {w' : Rw ρ} {f : δ0 → γ → ρ} {a0 : δ0} {m : α × β → Option (Res ε γ)} {x : Res ε γ} {y1 : α} {y2 : β} (h : EvX (rIns C names w) ta Γ Γ1 y1) (h2 : EvX rb tb Γ1 Γ2 y2) (e : m (y1, y2) = some x) {k : γ → Option δ} {l : ε → Option δ} {z : δ} (q : resX x k l = some z)
    (hi : Γ2[i]? = some (.cel p (cIns C0 names0 w0') a0)) (sn : Snoc w0' rc w' f) (nn : nm0 ∉ names0) (hl : names0.length < 900) (c : Cls K C0) (na : NoAttr K C0 nm0)
    (ko : ∀ y, k y = some z → Nx A (u D) (Γ2.set i (.cel p (cIns C0 (names0 ++ [nm0]) w') (f a0 y)))) (ke : ∀ y, l y = some z → NxE W A Γ2 R y) : Nx A (tSeq (sFld K (tVar i) ((fun E => tItX C (SpX R (wC (rIns C names w) (w1 rb)) rc m) E ta tb) (WE W)) nm0) u D) Γ := sq_fldR (tf := fun E => tItX C (SpX R (wC (rIns C names w) (w1 rb)) rc m) E ta tb) (er_itX h h2 e) q hi sn nn hl c na ko ke
theorem xaMe {wg : Rw κ} {nm : Str} {m : α × κ → Option (Res ε γ)} {x : Res ε γ} {y1 : α} {a : κ} (h : EvX (rIns C names w) ta Γ Γ1 y1) (h2 : EvW wg t Γ1 Γ2 a) (e : m (y1, a) = some x) (hn : nm ∉ names) {k : γ → Option δ} {l : ε → Option δ} {z : δ} (q : resX x k l = some z)
    (ko : ∀ y, k y = some z → Nx A (u D) (Γ2.set i (.imm rc y))) (ke : ∀ y, l y = some z → NxE W A Γ2 R y) : Nx A (tSeq (tAsg ((fun E => tMx C nm (SpX R (wC (rIns C names w) wg) rc m) E ta t) (WE W)) (gName i)) u D) Γ := sq_asgR (tf := fun E => tMx C nm (SpX R (wC (rIns C names w) wg) rc m) E ta t) (er_meth h h2 e hn) q ko ke
theorem xdMe {wg : Rw κ} {nm : Str} {m : α × κ → Option (Res ε γ)} {x : Res ε γ} {y1 : α} {a : κ} (h : EvX (rIns C names w) ta Γ Γ1 y1) (h2 : EvW wg t Γ1 Γ2 a) (e : m (y1, a) = some x) (hn : nm ∉ names) {k : γ → Option δ} {l : ε → Option δ} {z : δ} (q : resX x k l = some z)
    (ko : ∀ y, k y = some z → Nx A (u D) Γ2) (ke : ∀ y, l y = some z → NxE W A Γ2 R y) : Nx A (tSeq (tDrop ((fun E => tMx C nm (SpX R (wC (rIns C names w) wg) rc m) E ta t) (WE W))) u D) Γ := sq_dropR (r := rc) (tf := fun E => tMx C nm (SpX R (wC (rIns C names w) wg) rc m) E ta t) (er_meth h h2 e hn) q ko ke
theorem xrMe {wg : Rw κ} {nm : Str} {m : α × κ → Option (Res ε γ)} {x : Res ε γ} {y1 : α} {a : κ} (h : EvX (rIns C names w) ta Γ Γ1 y1) (h2 : EvW wg t Γ1 Γ2 a) (e : m (y1, a) = some x) (hn : nm ∉ names) {k : γ → Option δ} {l : ε → Option δ} {z : δ} (q : resX x k l = some z)
    (ko : ∀ y, k y = some z → Rt A (psi rc) y D.rt) (ke : ∀ y, l y = some z → NxE W A Γ2 R y) : Nx A (tSeq (tRet ((fun E => tMx C nm (SpX R (wC (rIns C names w) wg) rc m) E ta t) (WE W))) u D) Γ := sq_retR (tf := fun E => tMx C nm (SpX R (wC (rIns C names w) wg) rc m) E ta t) (er_meth h h2 e hn) q ko ke
theorem xfMe {C0 : Addr} {names0 : List Str} {p : Addr} {nm0 : Str} {δ0 : Type} {w0' : Rw δ0} {w' : Rw ρ} {f : δ0 → γ → ρ} {a0 : δ0} {wg : Rw κ} {nm : Str} {m : α × κ → Option (Res ε γ)} {x : Res ε γ} {y1 : α} {a : κ} (h : EvX (rIns C names w) ta Γ Γ1 y1) (h2 : EvW wg t Γ1 Γ2 a) (e : m (y1, a) = some x) (hn : nm ∉ names) {k : γ → Option δ} {l : ε → Option δ} {z : δ} (q : resX x k l = some z)
    (hi : Γ2[i]? = some (.cel p (cIns C0 names0 w0') a0)) (sn : Snoc w0' rc w' f) (nn : nm0 ∉ names0) (hl : names0.length < 900) (c : Cls K C0) (na : NoAttr K C0 nm0)
    (ko : ∀ y, k y = some z → Nx A (u D) (Γ2.set i (.cel p (cIns C0 (names0 ++ [nm0]) w') (f a0 y)))) (ke : ∀ y, l y = some z → NxE W A Γ2 R y) : Nx A (tSeq (sFld K (tVar i) ((fun E => tMx C nm (SpX R (wC (rIns C names w) wg) rc m) E ta t) (WE W)) nm0) u D) Γ := sq_fldR (tf := fun E => tMx C nm (SpX R (wC (rIns C names w) wg) rc m) E ta t) (er_meth h h2 e hn) q hi sn nn hl c na ko ke
theorem xaSm {wg : Rw κ} {m : κ → Option (Res ε γ)} {a : κ} {x : Res ε γ} (h : EvW wg t Γ Γ1 a) (e : m a = some x) {k : γ → Option δ} {l : ε → Option δ} {z : δ} (q : resX x k l = some z)
    (ko : ∀ y, k y = some z → Nx A (u D) (Γ1.set i (.imm rc y))) (ke : ∀ y, l y = some z → NxE W A Γ1 R y) : Nx A (tSeq (tAsg ((fun E => tSm (SpX R wg rc m) E t) (WE W)) (gName i)) u D) Γ := sq_asgR (tf := fun E => tSm (SpX R wg rc m) E t) (er_sm h e) q ko ke
theorem xdSm {wg : Rw κ} {m : κ → Option (Res ε γ)} {a : κ} {x : Res ε γ} (h : EvW wg t Γ Γ1 a) (e : m a = some x) {k : γ → Option δ} {l : ε → Option δ} {z : δ} (q : resX x k l = some z)
    (ko : ∀ y, k y = some z → Nx A (u D) Γ1) (ke : ∀ y, l y = some z → NxE W A Γ1 R y) : Nx A (tSeq (tDrop ((fun E => tSm (SpX R wg rc m) E t) (WE W))) u D) Γ := sq_dropR (r := rc) (tf := fun E => tSm (SpX R wg rc m) E t) (er_sm h e) q ko ke
theorem xrSm {wg : Rw κ} {m : κ → Option (Res ε γ)} {a : κ} {x : Res ε γ} (h : EvW wg t Γ Γ1 a) (e : m a = some x) {k : γ → Option δ} {l : ε → Option δ} {z : δ} (q : resX x k l = some z)
    (ko : ∀ y, k y = some z → Rt A (psi rc) y D.rt) (ke : ∀ y, l y = some z → NxE W A Γ1 R y) : Nx A (tSeq (tRet ((fun E => tSm (SpX R wg rc m) E t) (WE W))) u D) Γ := sq_retR (tf := fun E => tSm (SpX R wg rc m) E t) (er_sm h e) q ko ke
theorem xfSm {C0 : Addr} {names0 : List Str} {p : Addr} {nm0 : Str} {δ0 : Type} {w0' : Rw δ0} {w' : Rw ρ} {f : δ0 → γ → ρ} {a0 : δ0} {wg : Rw κ} {m : κ → Option (Res ε γ)} {a : κ} {x : Res ε γ} (h : EvW wg t Γ Γ1 a) (e : m a = some x) {k : γ → Option δ} {l : ε → Option δ} {z : δ} (q : resX x k l = some z)
    (hi : Γ1[i]? = some (.cel p (cIns C0 names0 w0') a0)) (sn : Snoc w0' rc w' f) (nn : nm0 ∉ names0) (hl : names0.length < 900) (c : Cls K C0) (na : NoAttr K C0 nm0)
    (ko : ∀ y, k y = some z → Nx A (u D) (Γ1.set i (.cel p (cIns C0 (names0 ++ [nm0]) w') (f a0 y)))) (ke : ∀ y, l y = some z → NxE W A Γ1 R y) : Nx A (tSeq (sFld K (tVar i) ((fun E => tSm (SpX R wg rc m) E t) (WE W)) nm0) u D) Γ := sq_fldR (tf := fun E => tSm (SpX R wg rc m) E t) (er_sm h e) q hi sn nn hl c na ko ke
end
theorem binds_nil {K : PySem.W.Frag} {fd : FuncData} {ps : List Str} {ds : List Value} (h : Binds K fd ps ds) (v : Vals [] ds) : Binds K fd ps [] := by
  cases v; exact h
end G

set_option maxHeartbeats 4000000
/-! # G: sorted by a lambda: the calls of the lambda, over the heap -/
namespace G
open PySem PySem.Spec PySem.Calls PyProof.Rows L2
section
variable {prog : Program} {w : World} {A : Around} {s : Shared}
abbrev lamPs (x : Str) (ap : Pos) : Arguments := { posonlyargs := [], args := [{ arg := x, annotation := none, pos := ap }], vararg := none, kwonlyargs := [], kw_defaults := [], kwarg := none, defaults := [] }
abbrev lamSc (x : Str) : Scope := { kind := .function, names := [(x, .local)], isGenerator := false, isCoroutine := false, more := [] }
theorem lam_call {f c' : Addr} {qual x : Str} {ap : Pos} {body : Expr} {pm ctv v : Value} {Q : Value → Shared → Prop}
    (hr : A.depth < recursionLimit) (hf : s.heap.get? f = some (PySem.W.kla_obj "<lambda>" qual (lamPs x ap) body (lamSc x) [] pm c' ctv)) (hcd : s.heap.CodeRec (.ref c') qual) (hl : s.heap.NoLimit) (hb : bindArgs (PySem.W.kla_fn "<lambda>" qual (lamPs x ap) body (lamSc x) [] pm (.ref c') ctv) ⟨[v], []⟩ = pure [(x, v)])
    (h : ∀ h₁ : Heap, (∀ b o, s.heap.get? b = some o → h₁.get? b = some o) → h₁.Ns s.heap.objs.size (fun y => ([(x, v)] : List (Str × Value)).reverse.lookup y) →
      wpAny (model prog w) (A.deeper (PySem.W.envX qual (lamSc x) s.heap.objs.size f (.ref c') [])) (eval body (PySem.W.envX qual (lamSc x) s.heap.objs.size f (.ref c') [])) Q (fun _ _ => False) { s with heap := h₁, toks := s.toks + 1 }) :
    wpAny (model prog w) A (call (.ref f) [v]) Q (fun _ _ => False) s := by
  refine wpAny_call (codeAny_mono (R := fun r s' => match r with | .ok (.ret u) => Q u s' | _ => False) ?_ fun r s' hq => ?_)
  · refine PySem.W.kla_callFunE hr hf rfl rfl rfl rfl hcd ?_
    rw [hb]
    refine wpAny_pure (wpAny_newFunctionEnv (fun y hy => by rw [List.mem_singleton.mp hy]; exact fun z => nomatch z) (fun y hy => by rw [List.mem_singleton.mp hy]; simp [List.lookup]) (fun h₁ hns hsb => ⟨hl.fresh _ hsb, ?_⟩) rfl)
    have kp : ∀ b o, s.heap.get? b = some o → h₁.get? b = some o := fun b o e => hsb.extBut b o (Nat.ne_of_lt (Heap.lt_size e)) (Heap.get?_push_of_some _ e)
    exact PySem.W.kla_codeExpr (wpAny_mono (h h₁ kp hns) (fun v s' hv => hv) fun _ _ z => z.elim)
  · cases r with
    | error e => exact hq
    | ok fl => cases fl <;> first | exact hq | exact hq.elim
/-- c[:k], c a tuple of more than k items -/
theorem lam_cut {f c' t : Addr} {qual x : Str} {ap q1 q2 q3 q4 : Pos} {n : Nat} {j : Nat} {pm ctv : Value} {items : Array Value} {k : PyData}
    (hr : A.depth < recursionLimit) (hf : s.heap.get? f = some (PySem.W.kla_obj "<lambda>" qual (lamPs x ap) (.Subscript (.Name x q1) (.Slice none (some (.Constant (.int (n : Int)) j q2)) none q3) q4) (lamSc x) [] pm c' ctv)) (hcd : s.heap.CodeRec (.ref c') qual) (hl : s.heap.NoLimit)
    (hb : bindArgs (PySem.W.kla_fn "<lambda>" qual (lamPs x ap) (.Subscript (.Name x q1) (.Slice none (some (.Constant (.int (n : Int)) j q2)) none q3) q4) (lamSc x) [] pm (.ref c') ctv) ⟨[.ref t], []⟩ = pure [(x, .ref t)])
    (ht : IsTup s.heap t items) (hn : n < items.size) (hz : items.size ≤ sizeLine)
    (hk : ∀ (h' : Heap) (p : Addr), (∀ b o, s.heap.get? b = some o → h'.get? b = some o) → IsTup h' p (items.toList.take n).toArray → Reads h' (.ref p) k []) (hd : (x == ("__debug__" : Str)) = false := by decide) :
    wpAny (model prog w) A (call (.ref f) [.ref t]) (PySem.W.KeyPure k s) (fun _ _ => False) s := by
  refine lam_call hr hf hcd hl hb fun h₁ kp hns => ?_
  have hlk : (lamSc x).names.lookup x = some .local := by simp [List.lookup]
  have hx : ([(x, Value.ref t)] : List (Str × Value)).reverse.lookup x = some (.ref t) := by simp [List.lookup]
  refine Subscript_ (wpAny_Name (wpAny_loadName_local rfl hlk hns hx ?_) hd)
  refine wpAny_Slice ?_
  rw [evalPart_none]
  refine wpAny_pure ?_
  rw [evalPart_some]
  refine wpAny_Constant_int ?_
  refine wpAny_pure ?_
  have ht1 : IsTup (h₁.push { cls := .type "slice", data := .fields #[.none, .int (n : Int) (s.toks + 1), .none] }) t items := ht.keeps fun b o e => Heap.get?_push_of_some _ (kp b o e)
  refine tail_any (ops := [.ref h₁.objs.size, .ref t]) ht1.typeIs PyProof.Rows.slot_tuple_getitem.lookup (HT.getItem_tuple_cut ht1 (Heap.IsSliceOf.new ..) .none (.int _ _) ?_ ?_ hz) (by with_unfolding_all rfl)
  · rw [HT.sIx_nat, HT.sIx_none]; omega
  · have e1 : HT.sIx items.size items.size (some (n : Int)) = n := by rw [HT.sIx_nat]; omega
    rw [e1, HT.sIx_none, List.drop_zero, Nat.sub_zero]
    have kp2 : ∀ b o, s.heap.get? b = some o → ((h₁.push { cls := .type "slice", data := .fields #[.none, .int (n : Int) (s.toks + 1), .none] }).push { cls := .type "tuple", data := .seq (items.toList.take n).toArray }).get? b = some o := fun b o e => Heap.get?_push_of_some _ (Heap.get?_push_of_some _ (kp b o e))
    exact ⟨_, _, rfl, kp2, hk _ _ kp2 (IsTup.new _ _)⟩
end
end G

set_option maxHeartbeats 4000000
/-! # G: a lambda is made -/
namespace G
open PySem PySem.Spec PySem.Calls PyProof.Rows L2 LamX
/-- the heap behind the making of a lambda: as it was, or a code object more -/
def LamH (P : Addr) (q : Str) (ps : Array Value) (H H2 : Hp) : Prop := H2 = H ∨ ∃ (c' : Addr) (more : Array Value), H c' = none ∧ c' ≠ P ∧ TriplesOk (ps ++ more).toList ∧ (∀ (pos : Pos) (cv : Value), codeAmong pos (ps ++ more).toList = some cv → codeAmong pos ps.toList = some cv ∨ cv = .ref c') ∧ H2 = upd (upd H P (.tbl (ps ++ more))) c' (CodeO c' q)
section
variable {X : Cx} {pins : List (Addr × Obj)} {σ : L2.St} {H : Hp} {s : Shared}
theorem lam_make {c P : Addr} {x : Str} {ap : Pos} {body : Expr} {pos : Pos} {ps : Array Value} {E : Value → Shared → Prop} {Q : Value → Shared → Prop} (I : Inv X pins σ H s) (TB : TabB X.base X.mg c P) (hcode : X.env.code = .ref c)
    (hP : H P = some (.tbl ps)) (ht : TriplesOk ps.toList) (ha : ∀ (pos : Pos) (cv : Value), codeAmong pos ps.toList = some cv → ∃ c, cv = .ref c ∧ H c = some (CodeO c (X.env.qual ++ "<lambda>")))
    (h : ∀ (f c' : Addr) (pm ctv : Value) (H1 : Hp) (s' : Shared), Inv X pins σ H1 s' → LamH P (X.env.qual ++ "<lambda>") ps H H1 →
      s'.heap.get? f = some (PySem.W.kla_obj "<lambda>" (X.env.qual ++ "<lambda>") (lamPs x ap) body (lamSc x) [] pm c' ctv) → H1 c' = some (CodeO c' (X.env.qual ++ "<lambda>")) → Q (.ref f) s') :
    wpAny (model X.prog X.w) X.A (eval (.Lambda (lamPs x ap) body (lamSc x) pos) X.env) Q E s := by
  refine PySem.W.kla_eval rfl ?_
  have bP : s.heap.BuiltinsAt X.mg P := TB.bm.keeps I.bk
  have hP' : s.heap.get? P = some { cls := .none, data := .fields ps } := I.hok P _ hP
  have hcl : closureFor (lamSc x) X.env = pure [] := rfl
  cases hc : codeAmong pos ps.toList with
  | none =>
    refine PySem.W.kla_makeFunction (mg := X.mg) (c := c) (P := P) (ps := ps) hcl I.ok.glob (I.mod.glob.keeps I.bk) hcode (TB.code.keeps I.bk) hP' ht hc TB.gP bP fun c' ctv h' tk hx hge hlt hrec htb => ?_
    obtain ⟨c2, oc, vs, t, e2, hoc, hd, hv⟩ := hrec
    cases e2
    have nC : H c' = none := I.hok.fresh hge
    have nPc : c' ≠ P := fun z => by rw [z, hP] at nC; cases nC
    have eL : (ps ++ #[rawInt pos.line, rawInt pos.col, .ref c']).toList = ps.toList ++ [rawInt pos.line, rawInt pos.col, .ref c'] := by simp
    have I1 := inv_table (t' := tk) (more := #[rawInt pos.line, rawInt pos.col, .ref c']) (h' := h'.push (PySem.W.kla_obj "<lambda>" (X.env.qual ++ "<lambda>") (lamPs x ap) body (lamSc x) [] ((X.mg "__name__").getD .none) c' ctv)) I hP
      (fun b o hb e => Heap.get?_push_of_some _ (hx b o hb e)) (Heap.get?_push_of_some _ htb) hge ⟨oc, vs, t, Heap.get?_push_of_some _ hoc, hd, hv⟩
    refine h h'.objs.size c' ((X.mg "__name__").getD .none) ctv _ _ I1 (.inr ⟨c', #[rawInt pos.line, rawInt pos.col, .ref c'], nC, nPc, by rw [eL]; exact PySem.TriplesOk_snoc _ _ _ _ ht, fun p' cv hcv => ?_, rfl⟩) (Heap.get?_push_size _ rfl) upd_same
    rw [eL] at hcv
    exact among_app _ ht hcv
  | some cv =>
    obtain ⟨c', e, hco⟩ := ha pos cv hc
    subst e
    refine PySem.W.kla_makeFunctionHit (mg := X.mg) (c := c) (P := P) (ps := ps) hcl I.ok.glob (I.mod.glob.keeps I.bk) hcode (TB.code.keeps I.bk) hP' ht hc bP fun ctv h' tk hx hsz => ?_
    have I1 : Inv X pins σ H { s with heap := h'.push (PySem.W.kla_obj "<lambda>" (X.env.qual ++ "<lambda>") (lamPs x ap) body (lamSc x) [] ((X.mg "__name__").getD .none) c' ctv), toks := tk } := I.kept fun b o e => Heap.get?_push_of_some _ (hx b o e)
    exact h h'.objs.size c' ((X.mg "__name__").getD .none) ctv H _ I1 (.inl rfl) (Heap.get?_push_size _ rfl) hco
end
end G

set_option maxHeartbeats 4000000
/-! # G: sorted by the first two parts of tuples -/
namespace G
open PySem PySem.Spec PySem.Calls PyProof.Rows L2 LamX
abbrev PK2 := Str × List Int
def keyP (k : PK2) : PyData := .tuple [.str k.1, .tuple (k.2.map .int)]
theorem ltI_data : ∀ xs ys : List Int, PySem.W.dataLt (.tuple (xs.map .int)) (.tuple (ys.map .int)) = ltI xs ys
  | [], [] => PySem.W.dataLt_self _
  | [], y :: ys => by
    rw [PySem.W.dataLt_tuple]
    unfold ltI
    rfl
  | x :: xs, [] => by
    rw [PySem.W.dataLt_tuple]
    unfold ltI
    rfl
  | x :: xs, y :: ys => by
    have ih := ltI_data xs ys
    rw [PySem.W.dataLt_tuple] at ih ⊢
    rw [List.map_cons, List.map_cons, PySem.W.dataLt_cons (by simp [PySem.W.alike]), ih]
    unfold ltI
    by_cases h : x = y
    · rw [if_pos h, if_pos (by rw [h]; simp [PyData.eqv])]
      conv => rhs; unfold ltI
    · rw [if_neg h, if_neg (by simp [PyData.eqv, h]), PySem.W.dataLt_int]
theorem eqv_ints : ∀ xs ys : List Int, PyData.eqvAll (xs.map .int) (ys.map .int) = true → xs = ys
  | [], [], _ => rfl
  | [], y :: ys, h => by simp [PyData.eqvAll] at h
  | x :: xs, [], h => by simp [PyData.eqvAll] at h
  | x :: xs, y :: ys, h => by
    rw [List.map_cons, List.map_cons] at h
    unfold PyData.eqvAll at h
    obtain ⟨h1, h2⟩ := Bool.and_eq_true_iff.mp h
    rw [eqv_ints xs ys h2]
    unfold PyData.eqv at h1
    rw [eq_of_beq h1]
theorem ltP_data (a b : PK2) : PySem.W.dataLt (keyP a) (keyP b) = ltP a b := by
  unfold keyP ltP
  rw [PySem.W.dataLt_pair (by simp [PySem.W.alike]) (by simp only [PySem.W.alike]; exact PySem.W.alike_ints _ _), ltI_data, PySem.W.dataLt_str]
  by_cases h : a.1 = b.1
  · rw [if_pos h, if_pos (by rw [h]; simp [PyData.eqv])]
    split
    · rename_i e
      have : a.2 = b.2 := eqv_ints _ _ (by unfold PyData.eqv at e; exact e)
      rw [this]; exact (ltI_irr _).symm
    · rfl
  · rw [if_neg h, if_neg (by simp [PyData.eqv, h])]
    rfl
/-! ### an item -/
def ItemP (K : PySem.W.Frag) (H : Hp) (v : V) (k : PK2) : Prop := ∃ t ys q, v = .ref t ∧ SqT K H t ys ∧ 2 < ys.length ∧ ys[0]? = some (.str k.1) ∧ ys[1]? = some (.ref q) ∧ SqT K H q (k.2.map V.int)
theorem vals_at {vs : List V} {us : List Value} (h : Vals vs us) : ∀ {i : Nat} {v : V}, vs[i]? = some v → ∃ u, us[i]? = some u ∧ RelV v u := by
  induction h with
  | nil => intro i v e; simp at e
  | cons r t ih =>
    intro i v e
    cases i with
    | zero => cases e; exact ⟨_, rfl, r⟩
    | succ i => exact ih (by simpa using e)
theorem reads_ints {h : Heap} : ∀ {ns : List Int} {us : List Value}, Vals (ns.map V.int) us → ReadsAll h us (ns.map .int) []
  | [], _, .nil => .nil
  | n :: ns, _, .cons r t => by
    obtain ⟨tk, rfl⟩ := r
    exact .cons (as := []) (.int n tk) (reads_ints t)
theorem key_reads {X : Cx} {pins : List (Addr × Obj)} {σ : L2.St} {H : Hp} {s : Shared} {v : V} {u : Value} {k : PK2} (I : Inv X pins σ H s) (h : ItemP X.K H v k) (r : RelV v u) :
    ∃ (t : Addr) (items : Array Value), u = .ref t ∧ IsTup s.heap t items ∧ 2 < items.size ∧ items.size ≤ sizeLine ∧ ∀ (h' : Heap) (p : Addr), (∀ b o, s.heap.get? b = some o → h'.get? b = some o) → IsTup h' p (items.toList.take 2).toArray → Reads h' (.ref p) (keyP k) [] := by
  obtain ⟨t, ys, q, rfl, ht, hl, h0, h1, hq⟩ := h
  obtain ⟨its, rv, tt, hz⟩ := I.tuple ht
  obtain ⟨its2, rv2, tt2, _⟩ := I.tuple hq
  have e := rv.length
  refine ⟨t, its.toArray, r, tt, by rw [List.size_toArray]; omega, by rw [List.size_toArray, ← e]; exact hz, fun h' p kp hp => ?_⟩
  obtain ⟨u0, e0, r0⟩ := vals_at rv h0
  obtain ⟨u1, e1, r1⟩ := vals_at rv h1
  obtain ⟨tk, rfl⟩ := r0
  cases (show u1 = Value.ref q from r1)
  have e2 : its.toArray.toList.take 2 = [.str k.1 tk, .ref q] := by
    rw [List.toList_toArray]
    match its, e0, e1 with
    | a :: b :: rest, e0, e1 => cases e0; cases e1; rfl
  rw [e2] at hp
  obtain ⟨o, ho, hc, n, hd⟩ := hp
  obtain ⟨o2, ho2, hc2, n2, hd2⟩ := tt2.keeps kp
  exact .tuple (as := []) ho hc hd (.cons (as := []) (.str k.1 tk) (.cons (as := []) (.tuple (as := []) ho2 hc2 hd2 (reads_ints rv2)) .nil))
variable [TabL]
/-- a lambda's making leaves the items -/
theorem sqT_lam {K : PySem.W.Frag} {H H2 : Hp} {P t : Addr} {q : Str} {ps : Array Value} {ys : List V} (L : LamH P q ps H H2) (hP : H P = some (.tbl ps)) (h : SqT K H t ys) : SqT K H2 t ys := by
  rcases L with rfl | ⟨c', more, n, ne, _, _, rfl⟩
  · exact h
  · rcases h with h | h
    · left
      have k : ∀ o, H t = some o → (∀ ps, o ≠ .tbl ps) → upd (upd H P (.tbl (ps ++ more))) c' (CodeO c' q) t = some o := fun o e nt => by
        rw [upd_ne (show t ≠ c' from fun z => by rw [z, n] at e; cases e), upd_ne (show t ≠ P from fun z => by rw [z, hP] at e; exact nt _ (Option.some.inj e).symm)]
        exact e
      rcases h with h | ⟨o, h⟩
      · exact .inl (k _ h fun _ z => nomatch z)
      · exact .inr ⟨o, k _ h fun _ z => nomatch z⟩
    · exact .inr h
theorem item_lam {K : PySem.W.Frag} {H H2 : Hp} {P : Addr} {q : Str} {ps : Array Value} {v : V} {k : PK2} (L : LamH P q ps H H2) (hP : H P = some (.tbl ps)) (h : ItemP K H v k) : ItemP K H2 v k := by
  obtain ⟨t, ys, r, e, ht, hl, h0, h1, hr⟩ := h
  exact ⟨t, ys, r, e, sqT_lam L hP ht, hl, h0, h1, sqT_lam L hP hr⟩
theorem each_of {K : PySem.W.Frag} {H : Hp} : ∀ {vs : List V} {us : List Value} {ks : List PK2}, Vals vs us → Paired (ItemP K H) vs ks → PySem.W.EachIs (fun (u : Value) (b : V × PK2) => RelV b.1 u ∧ ItemP K H b.1 b.2) us (vs.zip ks)
  | [], [], [], .nil, .nil => .nil
  | v :: vs, u :: us, k :: ks, .cons r t, .cons q p => .cons ⟨r, q⟩ (each_of t p)
theorem vals_each {K : PySem.W.Frag} {H : Hp} : ∀ {us : List Value} {bs : List (V × PK2)}, PySem.W.EachIs (fun (u : Value) (b : V × PK2) => RelV b.1 u ∧ ItemP K H b.1 b.2) us bs → Vals (bs.map (·.1)) us
  | [], [], .nil => .nil
  | u :: us, b :: bs, .cons r t => .cons r.1 (vals_each t)
def leP (a b : V × PK2) : Bool := !ltP b.2 a.2
/-- sorted(e, key=lambda x: x[:2]) -/
def tSortLam (K : PySem.W.Frag) (P : Addr) (q : Str) (te : TE) : TE := fun σ H Q => te σ H fun v H1 => ∃ a vs ks ps, v = .ref a ∧ SqL K H1 a vs ∧ Paired (ItemP K H1) vs ks ∧ H1 P = some (.tbl ps) ∧ TriplesOk ps.toList ∧
  (∀ (pos : Pos) (cv : Value), codeAmong pos ps.toList = some cv → ∃ c, cv = .ref c ∧ H1 c = some (CodeO c q)) ∧ ∀ H2 D, LamH P q ps H1 H2 → H2 D = none → Q (.ref D) (upd H2 D (.lst (((vs.zip ks).mergeSort leP).map (·.1))))
section
variable {X : Cx} {pins : List (Addr × Obj)} {σ : L2.St} {H : Hp} {s : Shared} {K : PySem.W.Frag}
theorem sort_run {f c' a : Addr} {x : Str} {ap q1 q2 q3 q4 : Pos} {j : Nat} {qual : Str} {pm ctv : Value} {vs : List V} {ks : List PK2} {Q : VK} (I : Inv X pins σ H s) (hr : Room 2 X.A) (hl : SqL X.K H a vs) (hp : Paired (ItemP X.K H) vs ks)
    (hf : s.heap.get? f = some (PySem.W.kla_obj "<lambda>" qual (lamPs x ap) (.Subscript (.Name x q1) (.Slice none (some (.Constant (.int 2) j q2)) none q3) q4) (lamSc x) [] pm c' ctv)) (hc : H c' = some (CodeO c' qual))
    (hb : ∀ v : Value, bindArgs (PySem.W.kla_fn "<lambda>" qual (lamPs x ap) (.Subscript (.Name x q1) (.Slice none (some (.Constant (.int 2) j q2)) none q3) q4) (lamSc x) [] pm (.ref c') ctv) ⟨[v], []⟩ = pure [(x, v)])
    (q : ∀ D, H D = none → Q (.ref D) (upd H D (.lst (((vs.zip ks).mergeSort leP).map (·.1))))) (hd : (x == ("__debug__" : Str)) = false := by decide) :
    wpAny (model X.prog X.w) X.A (call (.builtin "sorted") [.ref a] [(Str.ofString "key", .ref f)]) (EP X pins σ Q) X.xe s := by
  obtain ⟨its, rv, pl, hz⟩ := I.list hl
  have e := each_of rv hp
  have hlen : (vs.zip ks).length = vs.length := by rw [List.length_zip, Paired.len hp, Nat.min_self]
  have dep : ∀ k : PK2, (keyP k).depth ≤ 2 := fun k => by
    unfold keyP
    have := PySem.W.depth_ints k.2
    simp only [PyData.depth, PyData.depthAll, this]
    decide
  refine PySem.W.sorted_key_data (b := false) (fun b : V × PK2 => keyP b.2) pl.isList e (PySem.W.AllAlike.of fun a b => by
      unfold keyP
      simp only [PySem.W.alike, PySem.W.alikeAll, PySem.W.alike_ints, Bool.and_self]) (PySem.W.Sortable.tuples fun b => ⟨_, _, rfl⟩) (by rw [hlen]; exact hz) (fun b _ => ?_) (PyProof.Rows.ksk_s1 _ _) (fun _ => PyProof.Rows.ksk_l1 _ _) (fun _ => PyProof.Rows.ksk_t1 _ _)
    (fun v b hR hm h tk kp => ?_) fun out c h' tk kp fresh hD hol eo => ?_
  · have := dep b.2
    have := hr.un
    omega
  · obtain ⟨t, items, rfl, tt, h2, h3, hk⟩ := key_reads I hR.2 hR.1
    obtain ⟨⟨oc, ws, tq, hoc, hdc, hvc⟩, _, _⟩ := I.hok c' _ hc
    refine lam_cut (s := { s with heap := h, toks := tk }) (n := 2) (items := items) (k := keyP b.2) (by
      have := hr.dp
      show X.A.depth < _
      omega) (kp _ _ hf) ⟨c', oc, ws, tq, rfl, kp _ _ hoc, hdc, hvc⟩ (I.nolimit.keeps kp) (hb _) (tt.keeps kp) h2 h3 (fun h2 p kp2 hp => hk h2 p (fun b o e => kp2 b o (kp b o e)) hp) hd
  · have ev := vals_each eo
    have el : PySem.W.dataLe false (fun b : V × PK2 => keyP b.2) = leP := by
      funext a b
      show (!PySem.W.dataLt (keyP b.2) (keyP a.2)) = _
      rw [ltP_data]; rfl
    rw [el] at ev
    have hlen2 : (((vs.zip ks).mergeSort leP).map (·.1)).length ≤ sizeLine := by
      rw [List.length_map, List.length_mergeSort, hlen]; exact hz
    exact ⟨.ref _, upd H (s.heap.objs.size + 1) (.lst (((vs.zip ks).mergeSort leP).map (·.1))), I.laid (t' := tk) kp (Nat.le_succ _) ⟨hlen2, out, c, ev, hD⟩, rfl, q _ (I.hok.fresh (Nat.le_succ _))⟩
end
end G

set_option maxHeartbeats 4000000
/-! # G: sorted(e, key=lambda x: x[:2]) -/
namespace G
variable [TabL]
open PySem PySem.Spec PySem.Calls PyProof.Rows L2 LamX
section
variable {X : Cx} {K : PySem.W.Frag} {e : Expr} {te : TE}
theorem pe_sortLam {c P : Addr} {x q : Str} {ap q1 q2 q3 q4 p0 lp kp pos : Pos} {j : Nat} (hK : X.K = K) (hr : Room 2 X.A) (hg : Gl X "sorted") (hm : X.mg "sorted" = none) (TB : TabB X.base X.mg c P) (hcode : X.env.code = .ref c) (hq : q = X.env.qual ++ "<lambda>") (he : PE X e te)
    (hb : ∀ (qual : Str) (c' : Addr) (pm ctv v : Value), bindArgs (PySem.W.kla_fn "<lambda>" qual (lamPs x ap) (.Subscript (.Name x q1) (.Slice none (some (.Constant (.int 2) j q2)) none q3) q4) (lamSc x) [] pm (.ref c') ctv) ⟨[v], []⟩ = pure [(x, v)])
    (hse : starEach [e] X.env = (false, eval e X.env) :: starEach [] X.env := by rfl) (hbe : backTo pos (starEach [e] X.env) = (false, eval e X.env) :: backTo pos (starEach [] X.env) := by rfl) (hpl : (backTo pos (starEach [e] X.env)).any (·.1) = false := by rfl) (hd : (x == ("__debug__" : Str)) = false := by decide) :
    PE X (.Call (.Name "sorted" p0) [e] [⟨some "key", .Lambda (lamPs x ap) (.Subscript (.Name x q1) (.Slice none (some (.Constant (.int 2) j q2)) none q3) q4) (lamSc x) lp, kp⟩] pos) (tSortLam K P q te) := by
  subst hK
  subst hq
  refine ⟨fun pins s σ H Q I h => ?_⟩
  refine wpAny_Call_Name_kw (ld_blt (u := .builtin "sorted") I hg hm (by kernel_rfl) ?_ (by decide) (by decide))
  refine PyProof.Rows.callWith_kw (thn ((pa_cons he pa_nil hse).run pos pins s σ H (fun vs H1 => match vs with | [v] => ∃ a xs ks ps, v = .ref a ∧ SqL X.K H1 a xs ∧ Paired (ItemP X.K H1) xs ks ∧ H1 P = some (.tbl ps) ∧ TriplesOk ps.toList ∧
      (∀ (pos : Pos) (cv : Value), codeAmong pos ps.toList = some cv → ∃ c, cv = .ref c ∧ H1 c = some (CodeO c (X.env.qual ++ "<lambda>"))) ∧ ∀ H2 D, LamH P (X.env.qual ++ "<lambda>") ps H1 H2 → H2 D = none → Q (.ref D) (upd H2 D (.lst (((xs.zip ks).mergeSort leP).map (·.1)))) | _ => False) I ?_) fun us s1 ⟨vs, H1, I1, r1, q1⟩ => ?_) hbe hpl rfl rfl
  · exact h
  · obtain ⟨v, rfl⟩ : ∃ v, vs = [v] := by
      match vs, q1 with
      | [v], _ => exact ⟨v, rfl⟩
    obtain ⟨a, xs, ks, ps, rfl, hl, hp, hP, ht, ha, q⟩ := q1
    obtain rfl := Vals.ref1 r1
    show wpAny _ _ (evalAll ((do let v ← eval _ X.env; standAt pos; pure v) :: [])) _ _ s1
    refine wpAny_evalAll_cons (wpAny_bind (lam_make I1 TB hcode hP ht ha fun f c' pm ctv H2 s2 I2 L hf hc => wpAny_bind (wpAny_standAt (wpAny_pure (wpAny_evalAll_nil ?_)))))
    have hl2 : SqL X.K H2 a xs := by
      rcases L with rfl | ⟨c2, more, n, ne, _, _, rfl⟩
      · exact hl
      · rcases hl with hl | hl
        · left
          have k : ∀ o, H1 a = some o → (∀ ps, o ≠ .tbl ps) → upd (upd H1 P (.tbl (ps ++ more))) c2 (CodeO c2 (X.env.qual ++ "<lambda>")) a = some o := fun o e nt => by
            rw [upd_ne (show a ≠ c2 from fun z => by rw [z, n] at e; cases e), upd_ne (show a ≠ P from fun z => by rw [z, hP] at e; exact nt _ (Option.some.inj e).symm)]
            exact e
          rcases hl with h | ⟨o, h⟩
          · exact .inl (k _ h fun _ z => nomatch z)
          · exact .inr ⟨o, k _ h fun _ z => nomatch z⟩
        · exact .inr hl
    have hp2 : Paired (ItemP X.K H2) xs ks := Paired.imp2 (fun _ _ z => item_lam L hP z) hp
    exact sort_run I2 hr hl2 hp2 hf hc (fun v => hb _ _ _ _ v) (fun D hD => q H2 D L hD) hd
end
end G

set_option maxHeartbeats 4000000
/-! # G: sorted by a lambda, in frames -/
namespace G
variable [TabL]
open PySem PySem.Spec PySem.Calls PyProof.Rows L2 LamX
section
variable {A : Amb} {σ : L2.St} {H B : Hp} {Γ Γ1 : List Sl} {P c' : Addr} {q : Str} {ps more : Array Value}
theorem Frm.lam (F : Frm A σ H B Γ) (hT : (P, q) ∈ TabL.T) (hu : ∀ r, (P, r) ∈ TabL.T → r = q) (ha : ∀ (pos : Pos) (cv : Value), codeAmong pos ps.toList = some cv → ∃ c, cv = .ref c ∧ B c = some (CodeO c q)) (n : H c' = none) (ne : c' ≠ P)
    (ht : TriplesOk (ps ++ more).toList) (hm : ∀ (pos : Pos) (cv : Value), codeAmong pos (ps ++ more).toList = some cv → codeAmong pos ps.toList = some cv ∨ cv = .ref c') : Frm A σ (upd (upd H P (.tbl (ps ++ more))) c' (CodeO c' q)) (upd B c' (CodeO c' q)) Γ := by
  have isT : isTab P := ⟨q, hT⟩
  have bP : B P = none := F.tb.no P isT
  have bn : B c' = none := by
    cases e : B c' with
    | none => rfl
    | some u => have := F.bh c' u e; rw [n] at this; cases this
  have bb : Same B (upd B c' (CodeO c' q)) := fun b u e => by rw [upd_ne (ne_of_none e bn)]; exact e
  have at_ : ∀ b, b ≠ P → H b ≠ none → upd (upd H P (.tbl (ps ++ more))) c' (CodeO c' q) b = H b := fun b h1 h2 => by
    rw [upd_ne (show b ≠ c' from fun z => h2 (by rw [z]; exact n)), upd_ne h1]
  have tabAt : ∀ p, isTab p → H p ≠ none := fun p m z => F.tb.ne z m
  refine F.move ⟨fun b u e => ?_, fun b u e => bb b u (F.b0 b u e), fun b u m nt e => ?_, fun b h z => ?_, fun b h => ?_, F.sub, F.mh, A.up _ _ bb F.ph, (F.sz.upd (o := .tbl (ps ++ more)) trivial).upd (by unfold CodeO; trivial), ⟨fun p r m => ?_, fun p m => ?_⟩⟩ bb fun p h => ⟨?_, h.2.2, fun u e => ?_⟩
  · by_cases hb : b = c'
    · subst hb; rw [upd_same] at e ⊢; exact e
    · rw [upd_ne hb] at e
      have := F.bh b u e
      rw [at_ b (fun z => by rw [z, bP] at e; cases e) (by rw [this]; simp)]; exact this
  · have := F.keep b u m nt e
    rw [at_ b (fun z => nt (by rw [z]; exact isT)) (by rw [this]; simp)]; exact this
  · rw [upd_ne (show b ≠ c' from fun e => F.alive b h (by rw [e]; exact n))]; exact F.out b h z
  · by_cases hb : b = c'
    · rw [hb, upd_same]; simp
    · rw [upd_ne hb]
      by_cases h2 : b = P
      · rw [h2, upd_same]; simp
      · rw [upd_ne h2]; exact F.alive b h
  · obtain ⟨ps1, e1, t1, z1⟩ := F.tb.at_ p r m
    by_cases hp : p = P
    · subst hp
      obtain rfl := hu r m
      refine ⟨ps ++ more, by rw [upd_ne (Ne.symm ne), upd_same], ht, fun pos cv hc => ?_⟩
      rcases hm pos cv hc with hc | rfl
      · obtain ⟨c, e2, e3⟩ := ha pos cv hc
        exact ⟨c, e2, bb c _ e3⟩
      · exact ⟨c', rfl, upd_same⟩
    · refine ⟨ps1, by rw [at_ p hp (by rw [e1]; simp)]; exact e1, t1, fun pos cv hc => ?_⟩
      obtain ⟨c, e2, e3⟩ := z1 pos cv hc
      exact ⟨c, e2, bb c _ e3⟩
  · rw [upd_ne (show p ≠ c' from fun e => tabAt p m (by rw [e]; exact n))]; exact F.tb.no p m
  · rw [upd_ne (show p ≠ c' from fun e => h.2.1 (by rw [e]; exact n))]; exact h.1
  · rw [at_ p (fun z => h.nt F.mh (by rw [z]; exact isT)) h.2.1]; exact e
end
theorem paired_zip {α β : Type} {F : α → β → Prop} : ∀ {vs : List α} {xs : List β}, Paired F vs xs → (vs.zip xs).map (·.1) = vs ∧ (vs.zip xs).map (·.2) = xs ∧ ∀ p ∈ vs.zip xs, F p.1 p.2
  | _, _, .nil => ⟨rfl, rfl, fun _ h => nomatch h⟩
  | v :: vs, x :: xs, .cons r t => by
    obtain ⟨h1, h2, h3⟩ := paired_zip t
    refine ⟨by rw [List.zip_cons_cons, List.map_cons, h1], by rw [List.zip_cons_cons, List.map_cons, h2], fun p hp => ?_⟩
    rw [List.zip_cons_cons] at hp
    rcases List.mem_cons.mp hp with rfl | hp
    · exact r
    · exact h3 p hp
theorem zip_map_r {α β γ : Type} (g : β → γ) : ∀ (vs : List α) (xs : List β), vs.zip (xs.map g) = (vs.zip xs).map fun p => (p.1, g p.2)
  | [], _ => rfl
  | _ :: _, [] => rfl
  | v :: vs, x :: xs => by rw [List.map_cons, List.zip_cons_cons, List.zip_cons_cons, List.map_cons, zip_map_r g vs xs]
section
variable {α : Type} {ra : Rp α} {te : TE} {Γ Γ1 : List Sl} {K : PySem.W.Frag} {P : Addr} {q : Str}
def srtBy (key : α → PK2) (xs : List α) : List α := xs.mergeSort fun a b => !ltP (key b) (key a)
theorem ec_sortLam {xs : List α} (key : α → PK2) (hT : (P, q) ∈ TabL.T) (hu : ∀ r, (P, r) ∈ TabL.T → r = q) (rel : ∀ (H B : Hp) (v : V) (x : α), Same B H → ra.rel B v x → ItemP K H v (key x)) (h : EvX (rLst ra) te Γ Γ1 xs) : EvC (cLst ra) (tSortLam K P q te) Γ Γ1 (srtBy key xs) := fun A σ H B F Q qk =>
  h A σ H B F _ fun u H1 B1 F1 s1 k1 => by
    obtain ⟨a, vs, rfl, hp, kv⟩ := ob_lst F1.bh k1
    obtain ⟨ps, hP, ht, ha⟩ := F1.tb.at_ P q hT
    obtain ⟨z1, z2, z3⟩ := paired_zip kv
    have pk : Paired (ItemP K H1) vs (xs.map key) := by
      have := paired_maps (F := ItemP K H1) (f := fun p : V × α => p.1) (g := fun p : V × α => key p.2) (l := vs.zip xs) fun p hp => rel _ _ _ _ F1.bh (z3 p hp)
      rw [z1, show (fun p : V × α => key p.2) = key ∘ (fun p : V × α => p.2) from rfl, ← List.map_map, z2] at this
      exact this
    have hz : vs.length ≤ sizeLine := F1.sz _ _ hp
    have ez : ((vs.zip (xs.map key)).mergeSort leP).map (·.1) = ((vs.zip xs).mergeSort fun a b => !ltP (key b.2) (key a.2)).map (·.1) := by
      rw [zip_map_r, ← List.map_mergeSort (r := fun a b : V × α => !ltP (key b.2) (key a.2)) (fun a _ b _ => rfl), List.map_map]
      rfl
    have ey : srtBy key xs = ((vs.zip xs).mergeSort fun a b => !ltP (key b.2) (key a.2)).map (·.2) := by
      unfold srtBy
      rw [List.map_mergeSort (s := fun a b : α => !ltP (key b) (key a)) (fun a _ b _ => rfl), z2]
    have kz : ∀ {B2 : Hp}, Same B1 B2 → Paired (ra.rel B2) (((vs.zip (xs.map key)).mergeSort leP).map (·.1)) (srtBy key xs) := fun {B2} s => by
      rw [ez, ey]
      exact paired_maps fun p hp => ra.mono s (z3 p ((List.mergeSort_perm _ _).mem_iff.mp hp))
    have hl : (((vs.zip (xs.map key)).mergeSort leP).map (·.1)).length ≤ sizeLine := by
      rw [List.length_map, List.length_mergeSort, List.length_zip]
      exact Nat.le_trans (Nat.min_le_left _ _) hz
    refine ⟨a, vs, xs.map key, ps, rfl, SqL.of hp, pk, hP, ht, fun pos cv hc => ?_, fun H2 D L hD => ?_⟩
    · obtain ⟨c, e1, e2⟩ := ha pos cv hc
      exact ⟨c, e1, F1.bh _ _ e2⟩
    · rcases L with rfl | ⟨c', more, n, ne, t2, m2, rfl⟩
      · exact qk D _ _ B1 (F1.fresh (o := .lst _) hD hl) (F1.H0none hD) s1 ⟨_, rfl, kz (Same.refl _)⟩
      · have F2 := F1.lam hT hu ha n ne t2 m2
        have bn : B1 c' = none := by
          cases e : B1 c' with
          | none => rfl
          | some u => have := F1.bh c' u e; rw [n] at this; cases this
        have bb : Same B1 (upd B1 c' (CodeO c' q)) := fun b u e => by rw [upd_ne (ne_of_none e bn)]; exact e
        exact qk D _ _ _ (F2.fresh (o := .lst _) hD hl) (F2.H0none hD) (s1.trans bb) ⟨_, rfl, kz bb⟩
end
end G

set_option maxHeartbeats 4000000
/-! # G: defs that make lambdas -/
namespace G
variable [TabL]
open PySem PySem.Spec PySem.Calls PyProof.Rows L2 LamX
/-- as Fun.ok, the code object known -/
theorem okL {P : Program} {w : World} {K : PySem.W.Frag} {mg : Str → Option Value} {base : Heap} {x qual : Str} {st : Stmt} {f c : Addr} {fd : FuncData} {N ps : List Str} {k : Nat} {sp : Sp} (F : Fun K x qual st f fd) (hc : fd.code = .ref c) (S : FnScope N ps (defScope st)) (len : ∀ vs H Q E, sp vs H Q E → vs.length = ps.length)
    (hbody : ∀ (A : Around) (outer : List Env) (s : Shared) (H : Hp) (vs : List V) (Q : VK) (E : XK), Room k (A.deeper (envOfC qual (defScope st) s.heap.objs.size f (.ref c))) → sp vs H Q E →
      ∃ t, PSs (cxOf CX0 P w K mg base N qual (defScope st) f (.ref c) A outer s H E).nox (defBody st) t ∧ t { nx := fun _ H' => Q .non H', rt := Q } (L2.start N vs) H) : FnOk P w K mg base CX0 (k + 1) f fd ps sp := by
  obtain ⟨oc, od, kV, doc, pm, an, cdv, ct, osl, rfl, lk, hcd⟩ := F.ex
  obtain rfl : cdv = .ref c := hc
  refine fn_of lk hcd S len fun A outer s H vs Q E hr hsp => ?_
  obtain ⟨t, h, q⟩ := hbody A outer s H vs Q E hr hsp
  exact ⟨t, h.nox, q⟩
/-- a tuple that begins with a text and a tuple of ints, and goes on -/
theorem item_tup {α : Type} {K : PySem.W.Frag} {r : Rp α} {β : Type} {wr : Rw β} (H B : Hp) (v : V) (x : Str × List Int × α × β) (s : Same B H) (h : (rOb (cTup (wC rStr (wC (rOb (cTpl rInt)) (wC r wr))))).rel B v x) : ItemP K H v (x.1, x.2.1) := by
  obtain ⟨p, o, rfl, hp, vs, rfl, v1, t1, rfl, k1, v2, t2, rfl, k2, v3, t3, rfl, k3, k4⟩ := h
  cases (show v1 = V.str x.1 from k1)
  obtain ⟨q, o2, rfl, hq, vs2, rfl, kk⟩ := k2
  rw [rint_map kk] at hq
  exact ⟨p, _, q, rfl, SqT.of (s _ _ hp), by simp, rfl, rfl, SqT.of (s _ _ hq)⟩
theorem item_tup1 {α : Type} {K : PySem.W.Frag} {r : Rp α} (H B : Hp) (v : V) (x : Str × List Int × α) (s : Same B H) (h : (rOb (cTup (wC rStr (wC (rOb (cTpl rInt)) (w1 r))))).rel B v x) : ItemP K H v (x.1, x.2.1) := by
  obtain ⟨p, o, rfl, hp, vs, rfl, v1, t1, rfl, k1, v2, t2, rfl, k2, v3, rfl, k3⟩ := h
  cases (show v1 = V.str x.1 from k1)
  obtain ⟨q, o2, rfl, hq, vs2, rfl, kk⟩ := k2
  rw [rint_map kk] at hq
  exact ⟨p, _, q, rfl, SqT.of (s _ _ hp), by simp, rfl, rfl, SqT.of (s _ _ hq)⟩
end G

set_option maxHeartbeats 4000000
/-! # G: the end of a law with tables -/
namespace G
open PySem PySem.Spec PySem.Calls PyProof.Rows L2 LamX
section
variable [TabL] {H : Hp} {K : PySem.W.Frag} {a : Addr} {xs : List V}
open Classical in
noncomputable def noTab (H : Hp) : Hp := fun p => if isTab p then none else H p
theorem noTab_same : Same (noTab H) H := fun p o e => by
  unfold noTab at e
  split at e
  · cases e
  · exact e
theorem noTab_ok (h : ∀ p q, (p, q) ∈ TabL.T → H p = some (.tbl #[])) : TabOk H (noTab H) := ⟨fun p q m => ⟨#[], h p q m, True.intro, fun pos cv hc => by
  exfalso
  unfold codeAmong at hc
  cases hc⟩, fun p m => if_pos m⟩
theorem noTab_list (h : ∀ p q, (p, q) ∈ TabL.T → H p = some (.tbl #[])) (s : SqL K H a xs) : SqL K (noTab H) a xs := by
  rcases s with s | s
  · left
    have k : ∀ o, H a = some o → (∀ ps, o ≠ .tbl ps) → noTab H a = some o := fun o e n => by
      unfold noTab
      rw [if_neg fun ⟨q, m⟩ => by rw [h a q m] at e; exact n _ (Option.some.inj e).symm]
      exact e
    rcases s with s | ⟨o, s⟩
    · exact .inl (k _ s fun _ z => nomatch z)
    · exact .inr ⟨o, k _ s fun _ z => nomatch z⟩
  · exact .inr s
end
/-- a law whose defs make lambdas: (code object, its table, the lambdas' name) -/
theorem law_at {l : PySem.W.OpenLaw} {w : World} {K : PySem.W.Frag} {k n : Nat} {x : Str} {mg : Str → Option Value} {fa : Addr} {h : Heap} (T : List (Addr × Addr × Str)) (KX : K.In h)
    (h1 : ∀ p ∈ T, h.get? p.2.1 = some { cls := .none, data := .fields #[] }) (h2 : ∀ p ∈ T, K.lookup p.2.1 = none) (h3 : ∀ p ∈ T, PySem.W.codeHdIn K p.1 p.2.1 = true) (m : List Int → Option Bool) (hm : ∀ ns : List Int, ns.length ≤ n → m ns = some true)
    (F : ∃ fd : FuncData, (∀ (s : Shared) (u : Value), BindsTo s fd ⟨[u], []⟩ [(x, u)]) ∧ ∀ base : Heap, K.In base → base.Ns mainGlobals mg → (∀ p ∈ T.map (fun p => (p.1, p.2.1)), TabB base mg p.1 p.2) →
      FnOk l.prog w K mg base CX0 k fa fd [x] (@SpL ⟨T.map fun p => (p.2.1, p.2.2)⟩ (List Int) Bool (w1 (rScr K)) rBool m)) : LawAtS l w K CX0 k n x mg fa h := by
  letI : TabL := ⟨T.map fun p => (p.2.1, p.2.2)⟩
  obtain ⟨fd, hb, hF⟩ := F
  have mem : ∀ {Z : Addr × Addr → Prop}, (∀ p ∈ T, Z (p.1, p.2.1)) → ∀ p ∈ T.map (fun p => (p.1, p.2.1)), Z p := fun {Z} z p hp => by
    obtain ⟨t, ht, rfl⟩ := List.mem_map.mp hp
    exact z t ht
  refine ⟨fd, T.map (fun p => (p.1, p.2.1)), _, mem h1, mem h2, mem fun p hp => PySem.W.codeHd_of_K KX (h3 p hp), hb, fun H a ns hl _ hH hS => ?_, hF⟩
  have tabs : ∀ p q, (p, q) ∈ TabL.T → H p = some (.tbl #[]) := fun p q hp => by
    obtain ⟨t, ht, e⟩ := List.mem_map.mp (show (p, q) ∈ T.map fun p => (p.2.1, p.2.2) from hp)
    cases e
    exact hH _ (List.mem_map.mpr ⟨t, ht, rfl⟩)
  exact ⟨noTab H, ns, true, ⟨noTab_same, noTab_ok tabs⟩, ⟨_, rfl, a, rfl, noTab_list tabs hS⟩, hm ns hl, fun H2 B2 v P k => k⟩
end G


namespace Law
open PySem L2 G
def m_placed_changes_b1 (change3 : (Str × (List Int) × (Option (List Int)) × (Option (List Int)))) (s2 : (List ((Str × (List Int)) × (Str × (List Int) × (Option (List Int)) × (Option (List Int)))))) : Option (Step (Res ((Str × (List Int) × (Option (List Int)) × (Option (List Int))) ⊕ (Str × (List Int))) (List ((Str × (List Int)) × (Str × (List Int) × (Option (List Int)) × (Option (List Int)))))) (List ((Str × (List Int)) × (Str × (List Int) × (Option (List Int)) × (Option (List Int)))))) := letO (change3) fun u4 => bindO (pyEq ((dOpt (dTpl PyData.int)) u4.2.2.1) ((dOpt (dTpl PyData.int)) u4.2.2.2)) fun q5 => letO (q5) fun c6 => iteO c6 (some (.ret (.er (.inl change3)))) (letO ((getM s2 (u4.1, u4.2.1)).isSome) fun c7 => iteO c7 (some (.ret (.er (.inr (u4.1, u4.2.1))))) (bindO (pyPutD s2 (u4.1, u4.2.1) change3) fun d8 => some (.nx d8)))
def m_placed_changes (changes0 : (List (Str × (List Int) × (Option (List Int)) × (Option (List Int))))) : Option (Res ((Str × (List Int) × (Option (List Int)) × (Option (List Int))) ⊕ (Str × (List Int))) (List ((Str × (List Int)) × (Str × (List Int) × (Option (List Int)) × (Option (List Int)))))) := bindO (forL (m_placed_changes_b1) changes0 ([] : (List ((Str × (List Int)) × (Str × (List Int) × (Option (List Int)) × (Option (List Int))))))) fun R9 => stepO R9 fun e10 => some (.ok e10)
def m_placed_changes_Vt_b1 (change3 : (Str × (List Int) × (Option (List Int)) × (Option (List Int)))) (s2 : (List ((Str × (List Int)) × (Str × (List Int) × (Option (List Int)) × (Option (List Int)))))) : Option (Step (Res ((Str × (List Int) × (Option (List Int)) × (Option (List Int))) ⊕ (Str × (List Int))) (List ((Str × (List Int)) × (Str × (List Int) × (Option (List Int)) × (Option (List Int)))))) (List ((Str × (List Int)) × (Str × (List Int) × (Option (List Int)) × (Option (List Int)))))) := letO (change3) fun u4 => bindO (pyEq ((dOpt (dTpl PyData.int)) u4.2.2.1) ((dOpt (dTpl PyData.int)) u4.2.2.2)) fun q5 => letO (q5) fun c6 => iteO c6 (some (.ret (.er (.inl change3)))) (letO ((getM s2 (u4.1, u4.2.1)).isSome) fun c7 => iteO c7 (some (.ret (.er (.inr (u4.1, u4.2.1))))) (bindO (pyPutD s2 (u4.1, u4.2.1) change3) fun d8 => some (.nx d8)))
def m_placed_changes_Vt (changes0 : (List (Str × (List Int) × (Option (List Int)) × (Option (List Int))))) : Option (Res ((Str × (List Int) × (Option (List Int)) × (Option (List Int))) ⊕ (Str × (List Int))) (List ((Str × (List Int)) × (Str × (List Int) × (Option (List Int)) × (Option (List Int)))))) := bindO (forL (m_placed_changes_Vt_b1) changes0 ([] : (List ((Str × (List Int)) × (Str × (List Int) × (Option (List Int)) × (Option (List Int))))))) fun R9 => stepO R9 fun e10 => some (.ok e10)
def m_placed_changes_Vk_b1 (change3 : (Str × (List Int) × (Option (List Int)) × (Option (List Int)))) (s2 : (List ((Str × (List Int)) × (Str × (List Int) × (Option (List Int)) × (Option (List Int)))))) : Option (Step (List ((Str × (List Int)) × (Str × (List Int) × (Option (List Int)) × (Option (List Int))))) (List ((Str × (List Int)) × (Str × (List Int) × (Option (List Int)) × (Option (List Int)))))) := letO (change3) fun u4 => bindO (pyEq ((dOpt (dTpl PyData.int)) u4.2.2.1) ((dOpt (dTpl PyData.int)) u4.2.2.2)) fun q5 => letO (q5) fun c6 => iteO c6 (none) (letO ((getM s2 (u4.1, u4.2.1)).isSome) fun c7 => iteO c7 (none) (bindO (pyPutD s2 (u4.1, u4.2.1) change3) fun d8 => some (.nx d8)))
def m_placed_changes_Vk (changes0 : (List (Str × (List Int) × (Option (List Int)) × (Option (List Int))))) : Option (List ((Str × (List Int)) × (Str × (List Int) × (Option (List Int)) × (Option (List Int))))) := bindO (forL (m_placed_changes_Vk_b1) changes0 ([] : (List ((Str × (List Int)) × (Str × (List Int) × (Option (List Int)) × (Option (List Int))))))) fun R9 => stepO R9 fun e10 => some e10
def m_Edit___init_c1 (self2 : (List ((Str × (List Int)) × (Str × (List Int) × (Option (List Int)) × (Option (List Int)))))) (place6 : (Str × (List Int))) : Option (Option (Str × (List Int) × (Option (List Int)) × (Option (List Int)))) := bindO (getM self2 place6) fun y7 => some (some y7)
def m_Edit___init (changes0 : (List (Str × (List Int) × (Option (List Int)) × (Option (List Int))))) : Option (Res ((Str × (List Int) × (Option (List Int)) × (Option (List Int))) ⊕ (Str × (List Int))) ((List ((Str × (List Int)) × (Str × (List Int) × (Option (List Int)) × (Option (List Int))))) × (List (Str × (List Int) × (Option (List Int)) × (Option (List Int)))))) := bindO (m_placed_changes changes0) fun r1 => resX r1 (fun self2 => bindO (pyKeysD self2) fun l4 => bindO (pySortN l4) fun l5 => bindO (compL (m_Edit___init_c1 self2) l5) fun l8 => letO (l8) fun changes9 => some (.ok (self2, changes9))) (fun e3 => some (.er e3))
def m_Edit___init___Vt_c1 (self2 : (List ((Str × (List Int)) × (Str × (List Int) × (Option (List Int)) × (Option (List Int)))))) (place6 : (Str × (List Int))) : Option (Option (Str × (List Int) × (Option (List Int)) × (Option (List Int)))) := bindO (getM self2 place6) fun y7 => some (some y7)
def m_Edit___init___Vt (changes0 : (List (Str × (List Int) × (Option (List Int)) × (Option (List Int))))) : Option (Res ((Str × (List Int) × (Option (List Int)) × (Option (List Int))) ⊕ (Str × (List Int))) ((List ((Str × (List Int)) × (Str × (List Int) × (Option (List Int)) × (Option (List Int))))) × (List (Str × (List Int) × (Option (List Int)) × (Option (List Int)))))) := bindO (m_placed_changes_Vt changes0) fun r1 => resX r1 (fun self2 => bindO (pyKeysD self2) fun l4 => bindO (pySortN l4) fun l5 => bindO (compL (m_Edit___init___Vt_c1 self2) l5) fun l8 => letO (l8) fun changes9 => some (.ok (self2, changes9))) (fun e3 => some (.er e3))
def m_Edit___init___Vk_c1 (placed2 : (List ((Str × (List Int)) × (Str × (List Int) × (Option (List Int)) × (Option (List Int)))))) (place5 : (Str × (List Int))) : Option (Option (Str × (List Int) × (Option (List Int)) × (Option (List Int)))) := bindO (getM placed2 place5) fun y6 => some (some y6)
def m_Edit___init___Vk (changes0 : (List (Str × (List Int) × (Option (List Int)) × (Option (List Int))))) : Option ((List ((Str × (List Int)) × (Str × (List Int) × (Option (List Int)) × (Option (List Int))))) × (List (Str × (List Int) × (Option (List Int)) × (Option (List Int))))) := bindO (m_placed_changes_Vk changes0) fun v1 => letO (v1) fun placed2 => bindO (pyKeysD placed2) fun l3 => bindO (pySortN l3) fun l4 => bindO (compL (m_Edit___init___Vk_c1 placed2) l4) fun l7 => letO (l7) fun changes8 => some (placed2, changes8)
def m_Edit___contains (self0 : ((List ((Str × (List Int)) × (Str × (List Int) × (Option (List Int)) × (Option (List Int))))) × (List (Str × (List Int) × (Option (List Int)) × (Option (List Int)))))) (x0 : (Str × (List Int))) : Option Bool := some ((getM self0.1 x0).isSome)
def m_Edit___getitem (self0 : ((List ((Str × (List Int)) × (Str × (List Int) × (Option (List Int)) × (Option (List Int))))) × (List (Str × (List Int) × (Option (List Int)) × (Option (List Int)))))) (at0 : (Str × (List Int))) : Option (Res (Str × (List Int)) ((Option (List Int)) × (Option (List Int)))) := letO ((!(getM self0.1 at0).isSome)) fun c1 => iteO c1 (some (.er at0)) (bindO (getM self0.1 at0) fun y2 => letO (y2) fun change3 => some (.ok (change3.2.2.1, change3.2.2.2)))
def m_Edit___eq (self0 : ((List ((Str × (List Int)) × (Str × (List Int) × (Option (List Int)) × (Option (List Int))))) × (List (Str × (List Int) × (Option (List Int)) × (Option (List Int)))))) (other0 : ((List ((Str × (List Int)) × (Str × (List Int) × (Option (List Int)) × (Option (List Int))))) × (List (Str × (List Int) × (Option (List Int)) × (Option (List Int)))))) : Option Bool := letO (true) fun c3 => bindO (iteO c3 (bindO (pyEq ((dTpl (dTup (dwC PyData.str (dwC (dTpl PyData.int) (dwC (dOpt (dTpl PyData.int)) (dw1 (dOpt (dTpl PyData.int)))))))) self0.2) ((dTpl (dTup (dwC PyData.str (dwC (dTpl PyData.int) (dwC (dOpt (dTpl PyData.int)) (dw1 (dOpt (dTpl PyData.int)))))))) other0.2)) fun q1 => some q1) (some false)) fun b2 => some b2
def m_Edit___eq___Vt (self0 : ((List ((Str × (List Int)) × (Str × (List Int) × (Option (List Int)) × (Option (List Int))))) × (List (Str × (List Int) × (Option (List Int)) × (Option (List Int)))))) (other0 : (List (Str × (List Int) × (Option (List Int)) × (Option (List Int))))) : Option Bool := some false
def m_Edit___len (self0 : ((List ((Str × (List Int)) × (Str × (List Int) × (Option (List Int)) × (Option (List Int))))) × (List (Str × (List Int) × (Option (List Int)) × (Option (List Int)))))) : Option Int := some (self0.2.length : Int)
def m_Edit_deletes_c1 (change1 : (Str × (List Int) × (Option (List Int)) × (Option (List Int)))) : Option (Option (Str × (List Int) × (Option (List Int)) × (Option (List Int)))) := letO (change1.2.2.2.isNone) fun c2 => iteO c2 (some (some change1)) (some (none))
def m_Edit_deletes (self0 : ((List ((Str × (List Int)) × (Str × (List Int) × (Option (List Int)) × (Option (List Int))))) × (List (Str × (List Int) × (Option (List Int)) × (Option (List Int)))))) : Option Int := bindO (compL (m_Edit_deletes_c1) self0.2) fun l3 => some (l3.length : Int)
def m_Edit_inserts_c1 (change1 : (Str × (List Int) × (Option (List Int)) × (Option (List Int)))) : Option (Option (Str × (List Int) × (Option (List Int)) × (Option (List Int)))) := letO (change1.2.2.1.isNone) fun c2 => iteO c2 (some (some change1)) (some (none))
def m_Edit_inserts (self0 : ((List ((Str × (List Int)) × (Str × (List Int) × (Option (List Int)) × (Option (List Int))))) × (List (Str × (List Int) × (Option (List Int)) × (Option (List Int)))))) : Option Int := bindO (compL (m_Edit_inserts_c1) self0.2) fun l3 => some (l3.length : Int)
def m_Edit_sets (self0 : ((List ((Str × (List Int)) × (Str × (List Int) × (Option (List Int)) × (Option (List Int))))) × (List (Str × (List Int) × (Option (List Int)) × (Option (List Int)))))) : Option Int := bindO (m_Edit_deletes self0) fun v1 => bindO (m_Edit_inserts self0) fun v2 => some (((self0.2.length : Int) - v1) - v2)
def m_l_start (script0 : (List Int)) : Option ((List Int) × Int × Int × Int) := letO ((0 : Int)) fun first1 => letO ((decide ((0 : Int) < (script0.length : Int)))) fun c2 => bindO (iteO c2 (bindO (atI script0 (0 : Int)) fun y4 => letO (y4) fun first5 => some first5) (some first1)) fun j3 => bindO (pyScr script0) fun l6 => some (l6, (1 : Int), j3, (0 : Int))
def m_l_draw (st0 : ((List Int) × Int × Int × Int)) (many0 : Int) : Option (Int × ((List Int) × Int × Int × Int)) := letO ((decide (((10 : Int) ^ ((18 : Int)).toNat) ≤ st0.2.2.1))) fun c1 => iteO c1 (bindO (pyMod st0.2.2.1 many0) fun r2 => letO (r2) fun drawn3 => bindO (pyDiv st0.2.2.1 many0) fun q4 => letO ((st0.1, st0.2.1, q4, st0.2.2.2)) fun z5 => some (drawn3, z5)) (letO ((st0.1, st0.2.1, st0.2.2.1, (st0.2.2.2 + (1 : Int)))) fun z6 => letO ((((z6.2.2.1 % (1000000007 : Int)) + ((69621 : Int) * z6.2.2.2)) + (48271 : Int))) fun seed7 => bindO (pyPow seed7 (17 : Int)) fun w8 => letO ((w8 % (170141183460469231731687303715884105727 : Int))) fun mixed9 => letO ((decide (z6.2.1 < (z6.1.length : Int)))) fun c10 => bindO (iteO c10 (bindO (atI z6.1 z6.2.1) fun y12 => letO ((z6.1, z6.2.1, y12, z6.2.2.2)) fun z13 => letO ((z13.1, (z13.2.1 + (1 : Int)), z13.2.2.1, z13.2.2.2)) fun z14 => some z14) (some z6)) fun j11 => bindO (pyMod (mixed9 / (64 : Int)) many0) fun r15 => some (r15, j11))
def m_l_row_c1 (k6 : Int) (st7 : ((List Int) × Int × Int × Int)) : Option (Option Int × ((List Int) × Int × Int × Int)) := bindO (m_l_draw st7 (6 : Int)) fun p8 => bindO (atI [(0 : Int), (1 : Int), (9 : Int), (10 : Int), (-(1 : Int)), ((10 : Int) ^ ((30 : Int)).toNat)] p8.1) fun y9 => some (some y9, p8.2)
def m_l_row (st0 : ((List Int) × Int × Int × Int)) : Option ((Option (List Int)) × ((List Int) × Int × Int × Int)) := bindO (m_l_draw st0 (4 : Int)) fun p1 => letO ((decide (p1.1 = (0 : Int)))) fun c2 => iteO c2 (some ((none : Option (List Int)), p1.2)) (bindO (m_l_draw p1.2 (3 : Int)) fun p3 => letO (((1 : Int) + p3.1)) fun size4 => bindO (pyRng size4) fun l5 => bindO (compS (m_l_row_c1) l5 p3.2) fun l10 => some ((some l10.1), l10.2))
def m_l_place_c1 (k7 : Int) (st8 : ((List Int) × Int × Int × Int)) : Option (Option Int × ((List Int) × Int × Int × Int)) := bindO (m_l_draw st8 (7 : Int)) fun p9 => bindO (atI [(0 : Int), (9 : Int), (10 : Int), (100 : Int), (99 : Int), (-(2 : Int)), ((10 : Int) ^ ((20 : Int)).toNat)] p9.1) fun y10 => some (some y10, p9.2)
def m_l_place (st0 : ((List Int) × Int × Int × Int)) : Option ((Str × (List Int)) × ((List Int) × Int × Int × Int)) := bindO (m_l_draw st0 (5 : Int)) fun p1 => bindO (atI [(Str.ofString "a"), (Str.ofString "ab"), (Str.ofString "b"), (Str.ofString "b_1"), (Str.ofString "z")] p1.1) fun y2 => letO (y2) fun name3 => bindO (m_l_draw p1.2 (2 : Int)) fun p4 => letO (((1 : Int) + p4.1)) fun size5 => bindO (pyRng size5) fun l6 => bindO (compS (m_l_place_c1) l6 p4.2) fun l11 => some ((name3, l11.1), l11.2)
def m_l_changes_c1 (change28 : (Str × (List Int) × (Option (List Int)) × (Option (List Int)))) : Option (Option (Str × (List Int))) := some (some (change28.1, change28.2.1))
def m_l_changes_b1 (k5 : Int) (s4 : (((List Int) × Int × Int × Int) × (List (Str × (List Int) × (Option (List Int)) × (Option (List Int)))))) : Option (Step ((List (Str × (List Int) × (Option (List Int)) × (Option (List Int)))) × ((List Int) × Int × Int × Int) × Unit) (((List Int) × Int × Int × Int) × (List (Str × (List Int) × (Option (List Int)) × (Option (List Int)))))) := bindO (m_l_draw s4.1 (12 : Int)) fun p6 => letO (p6.1) fun kind7 => bindO (m_l_place p6.2) fun p8 => letO (p8.1) fun place_here9 => bindO (m_l_row p8.2) fun p10 => letO (p10.1) fun before11 => bindO (m_l_row p10.2) fun p12 => letO (p12.1) fun after13 => letO ((decide ((1 : Int) < kind7))) fun c16 => bindO (iteO c16 (bindO (pyEq ((dOpt (dTpl PyData.int)) before11) ((dOpt (dTpl PyData.int)) after13)) fun q14 => some q14) (some false)) fun b15 => letO (b15) fun c17 => bindO (iteO c17 (letO ((some [(5 : Int), (s4.2.length : Int)])) fun after19 => some after19) (some after13)) fun j18 => letO ((decide (kind7 = (0 : Int)))) fun c20 => bindO (iteO c20 (letO (before11) fun after22 => some after22) (some j18)) fun j21 => letO (((decide (kind7 = (1 : Int))) && (decide ((0 : Int) < (s4.2.length : Int))))) fun c23 => bindO (iteO c23 (bindO (m_l_draw p12.2 (s4.2.length : Int)) fun p25 => bindO (atI s4.2 p25.1) fun y26 => letO ((y26.1, y26.2.1)) fun place_here27 => some (place_here27, p25.2)) (some (place_here9, p12.2))) fun j24 => letO ((decide ((1 : Int) < kind7))) fun c32 => bindO (iteO c32 (bindO (compL (m_l_changes_c1) s4.2) fun l29 => bindO (pyInD ((dTup (dwC PyData.str (dw1 (dTpl PyData.int)))) j24.1) (List.map (dTup (dwC PyData.str (dw1 (dTpl PyData.int)))) l29)) fun n30 => some n30) (some false)) fun b31 => letO (b31) fun c33 => bindO (iteO c33 (bindO (pyStrI k5) fun s35 => bindO (pyAddS (Str.ofString "free_") s35) fun s36 => letO ((s36, [k5, (0 : Int)])) fun place_here37 => some place_here37) (some j24.1)) fun j34 => bindO (pyApp s4.2 (j34.1, j34.2, before11, j21)) fun found38 => some (.nx (j24.2, found38))
def m_l_changes (state0 : ((List Int) × Int × Int × Int)) : Option ((List (Str × (List Int) × (Option (List Int)) × (Option (List Int)))) × ((List Int) × Int × Int × Int) × Unit) := letO ([]) fun found1 => bindO (m_l_draw state0 (10 : Int)) fun p2 => bindO (pyRng p2.1) fun l3 => bindO (forL (m_l_changes_b1) l3 (p2.2, found1)) fun R39 => stepO R39 fun e40 => some (e40.2, (e40.1, ()))
def m_l_due_c1 (change10 : (Str × (List Int) × (Option (List Int)) × (Option (List Int)))) : Option (Option (Str × (List Int))) := some (some (change10.1, change10.2.1))
def m_l_due_b1 (moves0 : (List (Str × (List Int) × (Option (List Int)) × (Option (List Int))))) (k3 : Int) (s2 : Unit) : Option (Step ((Str × (Str × (List Int) × (Option (List Int)) × (Option (List Int)))) ⊕ ((Str × (Str × (List Int))) ⊕ (Str × (List (Str × (List Int) × (Option (List Int)) × (Option (List Int))))))) Unit) := bindO (atI moves0 k3) fun y4 => bindO (atI moves0 k3) fun y5 => bindO (pyEq ((dOpt (dTpl PyData.int)) y4.2.2.1) ((dOpt (dTpl PyData.int)) y5.2.2.2)) fun q6 => letO (q6) fun c7 => iteO c7 (bindO (atI moves0 k3) fun y8 => some (.ret (.inl ((Str.ofString "InvalidChange"), y8) : ((Str × (Str × (List Int) × (Option (List Int)) × (Option (List Int)))) ⊕ ((Str × (Str × (List Int))) ⊕ (Str × (List (Str × (List Int) × (Option (List Int)) × (Option (List Int)))))))))) (bindO (atI moves0 k3) fun y9 => bindO (compL (m_l_due_c1) (cut moves0 none (some k3))) fun l11 => bindO (pyInD ((dTup (dwC PyData.str (dw1 (dTpl PyData.int)))) (y9.1, y9.2.1)) (List.map (dTup (dwC PyData.str (dw1 (dTpl PyData.int)))) l11)) fun n12 => letO (n12) fun c13 => iteO c13 (bindO (atI moves0 k3) fun y14 => some (.ret (.inr (.inl ((Str.ofString "SamePlace"), (y14.1, y14.2.1)) : ((Str × (Str × (List Int))) ⊕ (Str × (List (Str × (List Int) × (Option (List Int)) × (Option (List Int))))))) : ((Str × (Str × (List Int) × (Option (List Int)) × (Option (List Int)))) ⊕ ((Str × (Str × (List Int))) ⊕ (Str × (List (Str × (List Int) × (Option (List Int)) × (Option (List Int)))))))))) (some (.nx ())))
def m_l_due (moves0 : (List (Str × (List Int) × (Option (List Int)) × (Option (List Int))))) : Option ((Str × (Str × (List Int) × (Option (List Int)) × (Option (List Int)))) ⊕ ((Str × (Str × (List Int))) ⊕ (Str × (List (Str × (List Int) × (Option (List Int)) × (Option (List Int))))))) := bindO (pyRng (moves0.length : Int)) fun l1 => bindO (forL (m_l_due_b1 moves0) l1 ()) fun R15 => stepO R15 fun e16 => some (.inr (.inr ((Str.ofString "made"), (srtBy (fun x => (x.1, x.2.1)) moves0)) : ((Str × (Str × (List Int))) ⊕ (Str × (List (Str × (List Int) × (Option (List Int)) × (Option (List Int))))))) : ((Str × (Str × (List Int) × (Option (List Int)) × (Option (List Int)))) ⊕ ((Str × (Str × (List Int))) ⊕ (Str × (List (Str × (List Int) × (Option (List Int)) × (Option (List Int))))))))
def m_l_made (moves0 : (List (Str × (List Int) × (Option (List Int)) × (Option (List Int))))) : Option ((Str × (Str × (List Int) × (Option (List Int)) × (Option (List Int)))) ⊕ ((Str × (Str × (List Int))) ⊕ (Str × ((List ((Str × (List Int)) × (Str × (List Int) × (Option (List Int)) × (Option (List Int))))) × (List (Str × (List Int) × (Option (List Int)) × (Option (List Int)))))))) := letO ((none : Option ((Str × (Str × (List Int) × (Option (List Int)) × (Option (List Int)))) ⊕ (Str × (Str × (List Int)))))) fun caught1 => bindO (m_Edit___init moves0) fun r2 => resX r2 (fun law_edit3 => letO (caught1.isSome) fun c5 => iteO c5 (bindO (caught1) fun g6 => some ((fun (z : ((Str × (Str × (List Int) × (Option (List Int)) × (Option (List Int)))) ⊕ (Str × (Str × (List Int))))) => altO z (fun (z : (Str × (Str × (List Int) × (Option (List Int)) × (Option (List Int))))) => (.inl ((fun (z : (Str × (Str × (List Int) × (Option (List Int)) × (Option (List Int))))) => z) z) : ((Str × (Str × (List Int) × (Option (List Int)) × (Option (List Int)))) ⊕ ((Str × (Str × (List Int))) ⊕ (Str × ((List ((Str × (List Int)) × (Str × (List Int) × (Option (List Int)) × (Option (List Int))))) × (List (Str × (List Int) × (Option (List Int)) × (Option (List Int)))))))))) (fun (z : (Str × (Str × (List Int)))) => (.inr ((fun (z : (Str × (Str × (List Int)))) => (.inl ((fun (z : (Str × (Str × (List Int)))) => z) z) : ((Str × (Str × (List Int))) ⊕ (Str × ((List ((Str × (List Int)) × (Str × (List Int) × (Option (List Int)) × (Option (List Int))))) × (List (Str × (List Int) × (Option (List Int)) × (Option (List Int))))))))) z) : ((Str × (Str × (List Int) × (Option (List Int)) × (Option (List Int)))) ⊕ ((Str × (Str × (List Int))) ⊕ (Str × ((List ((Str × (List Int)) × (Str × (List Int) × (Option (List Int)) × (Option (List Int))))) × (List (Str × (List Int) × (Option (List Int)) × (Option (List Int))))))))))) g6)) (some (.inr (.inr ((Str.ofString "made"), law_edit3) : ((Str × (Str × (List Int))) ⊕ (Str × ((List ((Str × (List Int)) × (Str × (List Int) × (Option (List Int)) × (Option (List Int))))) × (List (Str × (List Int) × (Option (List Int)) × (Option (List Int)))))))) : ((Str × (Str × (List Int) × (Option (List Int)) × (Option (List Int)))) ⊕ ((Str × (Str × (List Int))) ⊕ (Str × ((List ((Str × (List Int)) × (Str × (List Int) × (Option (List Int)) × (Option (List Int))))) × (List (Str × (List Int) × (Option (List Int)) × (Option (List Int))))))))))) (fun e4 => sumO e4 (fun e7 => letO ((some (.inl ((Str.ofString "InvalidChange"), e7) : ((Str × (Str × (List Int) × (Option (List Int)) × (Option (List Int)))) ⊕ (Str × (Str × (List Int))))))) fun caught11 => letO (caught11.isSome) fun c12 => iteO c12 (bindO (caught11) fun g13 => some ((fun (z : ((Str × (Str × (List Int) × (Option (List Int)) × (Option (List Int)))) ⊕ (Str × (Str × (List Int))))) => altO z (fun (z : (Str × (Str × (List Int) × (Option (List Int)) × (Option (List Int))))) => (.inl ((fun (z : (Str × (Str × (List Int) × (Option (List Int)) × (Option (List Int))))) => z) z) : ((Str × (Str × (List Int) × (Option (List Int)) × (Option (List Int)))) ⊕ ((Str × (Str × (List Int))) ⊕ (Str × ((List ((Str × (List Int)) × (Str × (List Int) × (Option (List Int)) × (Option (List Int))))) × (List (Str × (List Int) × (Option (List Int)) × (Option (List Int)))))))))) (fun (z : (Str × (Str × (List Int)))) => (.inr ((fun (z : (Str × (Str × (List Int)))) => (.inl ((fun (z : (Str × (Str × (List Int)))) => z) z) : ((Str × (Str × (List Int))) ⊕ (Str × ((List ((Str × (List Int)) × (Str × (List Int) × (Option (List Int)) × (Option (List Int))))) × (List (Str × (List Int) × (Option (List Int)) × (Option (List Int))))))))) z) : ((Str × (Str × (List Int) × (Option (List Int)) × (Option (List Int)))) ⊕ ((Str × (Str × (List Int))) ⊕ (Str × ((List ((Str × (List Int)) × (Str × (List Int) × (Option (List Int)) × (Option (List Int))))) × (List (Str × (List Int) × (Option (List Int)) × (Option (List Int))))))))))) g13)) (none)) (fun e8 => letO ((some (.inr ((Str.ofString "SamePlace"), e8) : ((Str × (Str × (List Int) × (Option (List Int)) × (Option (List Int)))) ⊕ (Str × (Str × (List Int))))))) fun caught16 => letO (caught16.isSome) fun c17 => iteO c17 (bindO (caught16) fun g18 => some ((fun (z : ((Str × (Str × (List Int) × (Option (List Int)) × (Option (List Int)))) ⊕ (Str × (Str × (List Int))))) => altO z (fun (z : (Str × (Str × (List Int) × (Option (List Int)) × (Option (List Int))))) => (.inl ((fun (z : (Str × (Str × (List Int) × (Option (List Int)) × (Option (List Int))))) => z) z) : ((Str × (Str × (List Int) × (Option (List Int)) × (Option (List Int)))) ⊕ ((Str × (Str × (List Int))) ⊕ (Str × ((List ((Str × (List Int)) × (Str × (List Int) × (Option (List Int)) × (Option (List Int))))) × (List (Str × (List Int) × (Option (List Int)) × (Option (List Int)))))))))) (fun (z : (Str × (Str × (List Int)))) => (.inr ((fun (z : (Str × (Str × (List Int)))) => (.inl ((fun (z : (Str × (Str × (List Int)))) => z) z) : ((Str × (Str × (List Int))) ⊕ (Str × ((List ((Str × (List Int)) × (Str × (List Int) × (Option (List Int)) × (Option (List Int))))) × (List (Str × (List Int) × (Option (List Int)) × (Option (List Int))))))))) z) : ((Str × (Str × (List Int) × (Option (List Int)) × (Option (List Int)))) ⊕ ((Str × (Str × (List Int))) ⊕ (Str × ((List ((Str × (List Int)) × (Str × (List Int) × (Option (List Int)) × (Option (List Int))))) × (List (Str × (List Int) × (Option (List Int)) × (Option (List Int))))))))))) g18)) (none)))
def m_l_base_caught (moves0 : (List (Str × (List Int) × (Option (List Int)) × (Option (List Int))))) : Option Bool := letO ((none : Option Bool)) fun caught1 => bindO (m_Edit___init___Vt moves0) fun r2 => resX r2 (fun y3 => letO (caught1.isSome) fun c5 => iteO c5 (bindO (caught1) fun g6 => some g6) (some false)) (fun e4 => sumO e4 (fun e7 => letO ((some (true && ((!false) && (!false))))) fun caught11 => letO (caught11.isSome) fun c12 => iteO c12 (bindO (caught11) fun g13 => some g13) (some false)) (fun e8 => letO ((some (true && ((!false) && (!false))))) fun caught16 => letO (caught16.isSome) fun c17 => iteO c17 (bindO (caught16) fun g18 => some g18) (some false)))
def m_l_asked (edit0 : ((List ((Str × (List Int)) × (Str × (List Int) × (Option (List Int)) × (Option (List Int))))) × (List (Str × (List Int) × (Option (List Int)) × (Option (List Int)))))) (place_here0 : (Str × (List Int))) : Option ((Str × (Str × (List Int))) ⊕ (Str × ((Option (List Int)) × (Option (List Int))))) := letO ((none : Option (Str × (Str × (List Int))))) fun caught1 => bindO (m_Edit___getitem edit0 place_here0) fun r2 => resX r2 (fun law_found3 => letO (caught1.isSome) fun c5 => iteO c5 (bindO (caught1) fun g6 => some (.inl g6 : ((Str × (Str × (List Int))) ⊕ (Str × ((Option (List Int)) × (Option (List Int))))))) (some (.inr ((Str.ofString "told"), law_found3) : ((Str × (Str × (List Int))) ⊕ (Str × ((Option (List Int)) × (Option (List Int)))))))) (fun e4 => letO ((some ((Str.ofString "NoChange"), e4))) fun caught9 => letO (caught9.isSome) fun c10 => iteO c10 (bindO (caught9) fun g11 => some (.inl g11 : ((Str × (Str × (List Int))) ⊕ (Str × ((Option (List Int)) × (Option (List Int))))))) (none))
def m_l_right_c1 (change9 : (Str × (List Int) × (Option (List Int)) × (Option (List Int)))) : Option (Option (Str × (List Int) × (Option (List Int)) × (Option (List Int)))) := letO (change9.2.2.2.isNone) fun c10 => iteO c10 (some (some change9)) (some (none))
def m_l_right_c2 (change13 : (Str × (List Int) × (Option (List Int)) × (Option (List Int)))) : Option (Option (Str × (List Int) × (Option (List Int)) × (Option (List Int)))) := letO (change13.2.2.1.isNone) fun c14 => iteO c14 (some (some change13)) (some (none))
def m_l_right_b1 (edit0 : ((List ((Str × (List Int)) × (Str × (List Int) × (Option (List Int)) × (Option (List Int))))) × (List (Str × (List Int) × (Option (List Int)) × (Option (List Int)))))) (change27 : (Str × (List Int) × (Option (List Int)) × (Option (List Int)))) (s26 : Unit) : Option (Step Bool Unit) := bindO (m_Edit___contains edit0 (change27.1, change27.2.1)) fun n28 => letO ((!n28)) fun c32 => bindO (iteO c32 (some true) (bindO (m_l_asked edit0 (change27.1, change27.2.1)) fun v29 => bindO (pyEq ((dAlt (dTup (dwC PyData.str (dw1 (dTup (dwC PyData.str (dw1 (dTpl PyData.int))))))) (dTup (dwC PyData.str (dw1 (dTup (dwC (dOpt (dTpl PyData.int)) (dw1 (dOpt (dTpl PyData.int))))))))) v29) ((dTup (dwC PyData.str (dw1 (dTup (dwC (dOpt (dTpl PyData.int)) (dw1 (dOpt (dTpl PyData.int)))))))) ((Str.ofString "told"), change27.2.2))) fun q30 => some (!q30))) fun b31 => letO (b31) fun c33 => iteO c33 (some (.ret false)) (some (.nx ()))
def m_l_right_b2 (edit0 : ((List ((Str × (List Int)) × (Str × (List Int) × (Option (List Int)) × (Option (List Int))))) × (List (Str × (List Int) × (Option (List Int)) × (Option (List Int)))))) (place_here37 : (Str × (List Int))) (s36 : Unit) : Option (Step Bool Unit) := bindO (m_Edit___contains edit0 place_here37) fun n38 => letO (n38) fun c42 => bindO (iteO c42 (some true) (bindO (m_l_asked edit0 place_here37) fun v39 => bindO (pyEq ((dAlt (dTup (dwC PyData.str (dw1 (dTup (dwC PyData.str (dw1 (dTpl PyData.int))))))) (dTup (dwC PyData.str (dw1 (dTup (dwC (dOpt (dTpl PyData.int)) (dw1 (dOpt (dTpl PyData.int))))))))) v39) ((dTup (dwC PyData.str (dw1 (dTup (dwC PyData.str (dw1 (dTpl PyData.int))))))) ((Str.ofString "NoChange"), place_here37))) fun q40 => some (!q40))) fun b41 => letO (b41) fun c43 => iteO c43 (some (.ret false)) (some (.nx ()))
def m_l_right (edit0 : ((List ((Str × (List Int)) × (Str × (List Int) × (Option (List Int)) × (Option (List Int))))) × (List (Str × (List Int) × (Option (List Int)) × (Option (List Int)))))) (due_here0 : (List (Str × (List Int) × (Option (List Int)) × (Option (List Int))))) : Option Bool := letO ((!true)) fun c3 => bindO (iteO c3 (some true) (bindO (pyEq ((dLst (dTup (dwC PyData.str (dwC (dTpl PyData.int) (dwC (dOpt (dTpl PyData.int)) (dw1 (dOpt (dTpl PyData.int)))))))) edit0.2) ((dLst (dTup (dwC PyData.str (dwC (dTpl PyData.int) (dwC (dOpt (dTpl PyData.int)) (dw1 (dOpt (dTpl PyData.int)))))))) due_here0)) fun q1 => some (!q1))) fun b2 => letO (b2) fun c4 => iteO c4 (some false) (bindO (m_Edit_deletes edit0) fun v5 => bindO (m_Edit_inserts edit0) fun v6 => bindO (m_Edit_sets edit0) fun v7 => letO ([v5, v6, v7]) fun counts8 => bindO (compL (m_l_right_c1) due_here0) fun l11 => letO ((l11.length : Int)) fun deletes12 => bindO (compL (m_l_right_c2) due_here0) fun l15 => letO ((l15.length : Int)) fun inserts16 => bindO (pyEq ((dLst PyData.int) counts8) ((dLst PyData.int) [deletes12, inserts16, (((due_here0.length : Int) - deletes12) - inserts16)])) fun q17 => letO ((!q17)) fun c21 => bindO (iteO c21 (some true) (bindO (m_Edit___len edit0) fun n18 => bindO (lenOK n18) fun k19 => some (!decide (k19 = (due_here0.length : Int))))) fun b20 => letO (b20) fun c22 => iteO c22 (some false) (bindO (m_Edit___len edit0) fun n23 => bindO (lenOK n23) fun k24 => letO ((!decide ((!decide (k24 = 0)) = (decide ((0 : Int) < (due_here0.length : Int)))))) fun c25 => iteO c25 (some false) (bindO (forL (m_l_right_b1 edit0) due_here0 ()) fun R34 => stepO R34 fun e35 => bindO (forL (m_l_right_b2 edit0) [((Str.ofString "a"), [(7 : Int), (7 : Int), (7 : Int)]), ((Str.ofString "ab"), []), ((Str.ofString ""), [(0 : Int)]), ((Str.ofString "b"), [(8 : Int)])] ()) fun R44 => stepO R44 fun e45 => some true)))
def m_law (script0 : (List Int)) : Option Bool := bindO (m_l_start script0) fun v1 => letO (v1) fun state2 => bindO (m_l_changes state2) fun p3 => letO (p3.1) fun moves4 => bindO (m_l_due moves4) fun v5 => letO (v5) fun due_here6 => letO (moves4) fun given7 => bindO (m_l_made given7) fun v8 => letO (v8) fun answer9 => bindO (pyEq ((dLst (dTup (dwC PyData.str (dwC (dTpl PyData.int) (dwC (dOpt (dTpl PyData.int)) (dw1 (dOpt (dTpl PyData.int)))))))) given7) ((dLst (dTup (dwC PyData.str (dwC (dTpl PyData.int) (dwC (dOpt (dTpl PyData.int)) (dw1 (dOpt (dTpl PyData.int)))))))) moves4)) fun q10 => letO (((!q10) || (!decide ((altO answer9 (fun (z : (Str × (Str × (List Int) × (Option (List Int)) × (Option (List Int))))) => z.1) (fun (z : ((Str × (Str × (List Int))) ⊕ (Str × ((List ((Str × (List Int)) × (Str × (List Int) × (Option (List Int)) × (Option (List Int))))) × (List (Str × (List Int) × (Option (List Int)) × (Option (List Int)))))))) => altO z (fun (z : (Str × (Str × (List Int)))) => z.1) (fun (z : (Str × ((List ((Str × (List Int)) × (Str × (List Int) × (Option (List Int)) × (Option (List Int))))) × (List (Str × (List Int) × (Option (List Int)) × (Option (List Int))))))) => z.1))) = (altO due_here6 (fun (z : (Str × (Str × (List Int) × (Option (List Int)) × (Option (List Int))))) => z.1) (fun (z : ((Str × (Str × (List Int))) ⊕ (Str × (List (Str × (List Int) × (Option (List Int)) × (Option (List Int))))))) => altO z (fun (z : (Str × (Str × (List Int)))) => z.1) (fun (z : (Str × (List (Str × (List Int) × (Option (List Int)) × (Option (List Int)))))) => z.1))))))) fun c11 => iteO c11 (some false) (letO ((!decide ((altO due_here6 (fun (z : (Str × (Str × (List Int) × (Option (List Int)) × (Option (List Int))))) => z.1) (fun (z : ((Str × (Str × (List Int))) ⊕ (Str × (List (Str × (List Int) × (Option (List Int)) × (Option (List Int))))))) => altO z (fun (z : (Str × (Str × (List Int)))) => z.1) (fun (z : (Str × (List (Str × (List Int) × (Option (List Int)) × (Option (List Int)))))) => z.1))) = (Str.ofString "made")))) fun c12 => iteO c12 (bindO (dropR answer9) fun g13 => bindO (pyEq ((dAlt (dTup (dwC PyData.str (dw1 (dTup (dwC PyData.str (dwC (dTpl PyData.int) (dwC (dOpt (dTpl PyData.int)) (dw1 (dOpt (dTpl PyData.int)))))))))) (dTup (dwC PyData.str (dw1 (dTup (dwC PyData.str (dw1 (dTpl PyData.int)))))))) g13) ((dAlt (dTup (dwC PyData.str (dw1 (dTup (dwC PyData.str (dwC (dTpl PyData.int) (dwC (dOpt (dTpl PyData.int)) (dw1 (dOpt (dTpl PyData.int)))))))))) (dAlt (dTup (dwC PyData.str (dw1 (dTup (dwC PyData.str (dw1 (dTpl PyData.int))))))) (dTup (dwC PyData.str (dw1 (dLst (dTup (dwC PyData.str (dwC (dTpl PyData.int) (dwC (dOpt (dTpl PyData.int)) (dw1 (dOpt (dTpl PyData.int))))))))))))) due_here6)) fun q14 => letO (q14) fun c17 => bindO (iteO c17 (bindO (m_l_base_caught moves4) fun v15 => some v15) (some false)) fun b16 => some b16) (letO (([] : (List (Str × (List Int) × (Option (List Int)) × (Option (List Int)))))) fun given18 => bindO (altR answer9) fun g19 => bindO (altR g19) fun g20 => bindO (altR due_here6) fun g21 => bindO (altR g21) fun g22 => bindO (m_l_right g20.2 g22.2) fun v23 => letO ((!v23)) fun c24 => iteO c24 (some false) (bindO (m_Edit___init___Vt moves4.reverse) fun r25 => bindO (okR r25) fun o26 => letO (o26) fun other27 => bindO (altR answer9) fun g28 => bindO (altR g28) fun g29 => bindO (m_Edit___eq other27 g29.2) fun n30 => letO ((!n30)) fun c38 => bindO (iteO c38 (some true) (bindO (altR answer9) fun g31 => bindO (altR g31) fun g32 => bindO (m_Edit___eq other27 g32.2) fun n33 => letO ((!n33)) fun c36 => bindO (iteO c36 (some true) (bindO (m_Edit___eq___Vt other27 other27.2) fun n34 => some n34)) fun b35 => some b35)) fun b37 => letO (b37) fun c39 => iteO c39 (some false) (letO ((decide ((0 : Int) < (moves4.length : Int)))) fun c40 => iteO c40 (bindO (m_Edit___init (cut moves4 none (some (-(1 : Int))))) fun r41 => bindO (okR r41) fun o42 => letO (o42) fun less43 => bindO (altR answer9) fun g44 => bindO (altR g44) fun g45 => bindO (m_Edit___eq less43 g45.2) fun n46 => letO (n46) fun c51 => bindO (iteO c51 (some true) (bindO (altR answer9) fun g47 => bindO (altR g47) fun g48 => bindO (m_Edit___eq less43 g48.2) fun n49 => some (!(!n49)))) fun b50 => letO (b50) fun c52 => iteO c52 (some false) (bindO (m_Edit___init___Vk ([] : (List (Str × (List Int) × (Option (List Int)) × (Option (List Int)))))) fun o53 => bindO (m_Edit___len o53) fun n54 => bindO (lenOK n54) fun k55 => letO ((decide (k55 = (0 : Int)))) fun c64 => bindO (iteO c64 (bindO (m_Edit___init___Vk ([] : (List (Str × (List Int) × (Option (List Int)) × (Option (List Int)))))) fun o56 => bindO (pyEq ((dTpl (dTup (dwC PyData.str (dwC (dTpl PyData.int) (dwC (dOpt (dTpl PyData.int)) (dw1 (dOpt (dTpl PyData.int)))))))) o56.2) ((dTup dw0) ())) fun q57 => letO (q57) fun c62 => bindO (iteO c62 (bindO (m_Edit___init___Vk ([] : (List (Str × (List Int) × (Option (List Int)) × (Option (List Int)))))) fun o58 => bindO (m_Edit___len o58) fun n59 => bindO (lenOK n59) fun k60 => some (decide (k60 = 0))) (some false)) fun b61 => some b61) (some false)) fun b63 => some b63)) (bindO (m_Edit___init___Vk ([] : (List (Str × (List Int) × (Option (List Int)) × (Option (List Int)))))) fun o65 => bindO (m_Edit___len o65) fun n66 => bindO (lenOK n66) fun k67 => letO ((decide (k67 = (0 : Int)))) fun c76 => bindO (iteO c76 (bindO (m_Edit___init___Vk ([] : (List (Str × (List Int) × (Option (List Int)) × (Option (List Int)))))) fun o68 => bindO (pyEq ((dTpl (dTup (dwC PyData.str (dwC (dTpl PyData.int) (dwC (dOpt (dTpl PyData.int)) (dw1 (dOpt (dTpl PyData.int)))))))) o68.2) ((dTup dw0) ())) fun q69 => letO (q69) fun c74 => bindO (iteO c74 (bindO (m_Edit___init___Vk ([] : (List (Str × (List Int) × (Option (List Int)) × (Option (List Int)))))) fun o70 => bindO (m_Edit___len o70) fun n71 => bindO (lenOK n71) fun k72 => some (decide (k72 = 0))) (some false)) fun b73 => some b73) (some false)) fun b75 => some b75)))))
end Law

set_option maxHeartbeats 4000000
/-! # the draws of the first family of laws -/
namespace G
theorem forL_inv {α ρ ς : Type} {f : α → ς → Option (Step ρ ς)} (P : Nat → ς → Prop) : ∀ {xs : List α} {s : ς} {k : Nat}, P k s → (∀ (i : Nat) (x : α) (s : ς), xs[i]? = some x → P (k + i) s → ∃ s', f x s = some (.nx s') ∧ P (k + i + 1) s') → ∃ s', forL f xs s = some (.nx s') ∧ P (k + xs.length) s'
  | [], s, k, h, _ => ⟨s, rfl, h⟩
  | x :: xs, s, k, h, st => by
    obtain ⟨s1, e1, h1⟩ := st 0 x s rfl h
    obtain ⟨s2, e2, h2⟩ := forL_inv (xs := xs) (k := k + 1) P h1 fun i y s' hy hp => by
      have q := st (i + 1) y s' (by simpa using hy) (by rw [show k + (i + 1) = k + 1 + i by omega]; exact hp)
      rw [show k + (i + 1) + 1 = k + 1 + i + 1 by omega] at q
      exact q
    refine ⟨s2, ?_, by rw [List.length_cons, show k + (xs.length + 1) = k + 1 + xs.length by omega]; exact h2⟩
    unfold forL
    rw [e1]
    exact e2
end G
namespace Law
local instance : G.TabL := ⟨[]⟩
open PySem L2 G
abbrev Dr := List Int × Int × Int × Int
def I (n : Int) (st : Dr) : Prop := 0 ≤ st.2.1 ∧ 0 ≤ st.2.2.2 ∧ st.2.2.2 ≤ n
theorem mod_some {i j : Int} (h : 0 < j) : pyMod i j = some (i % j) := if_pos h
theorem div_some {i j : Int} (h : 0 < j) (h2 : j ≤ 1000000000000) : pyDiv i j = some (i / j) := if_pos ⟨h, by
  have h3 : j.natAbs ≠ 0 := by omega
  rw [Nat.log2_lt h3]
  exact Nat.lt_of_lt_of_le (show j.natAbs < 2 ^ 40 by omega) (Nat.pow_le_pow_right (by decide) (by decide))⟩
theorem at_some {α : Type} {l : List α} {i : Int} (h0 : 0 ≤ i) (h : i < (l.length : Int)) : ∃ x, atI l i = some x := by
  unfold atI ixN
  rw [if_pos h0, if_pos h]
  exact ⟨l[i.toNat]'(by omega), by rw [Option.bind_some]; exact List.getElem?_eq_getElem (by omega)⟩
theorem draw_ok {n : Int} {st : Dr} {many : Int} (h : I n st) (hn : n ≤ 100000) (h1 : 0 < many) (h2 : many ≤ 1000000000000) : ∃ d st', m_l_draw st many = some (d, st') ∧ 0 ≤ d ∧ d < many ∧ I (n + 1) st' := by
  obtain ⟨l, pos, v, cnt⟩ := st
  obtain ⟨a1, a2, a3⟩ := h
  dsimp only at a1 a2 a3
  unfold m_l_draw
  simp only [letO_s]
  cases hc : decide ((10 : Int) ^ ((18 : Int)).toNat ≤ v) with
  | true =>
    rw [iteO_T, mod_some h1, bindO_s, div_some h1 h2, bindO_s]
    exact ⟨_, _, rfl, Int.emod_nonneg _ (by omega), Int.emod_lt_of_pos _ h1, a1, a2, by dsimp only; omega⟩
  | false =>
    rw [iteO_F]
    have hp : pyPow (v % 1000000007 + 69621 * (cnt + 1) + 48271) 17 = some ((v % 1000000007 + 69621 * (cnt + 1) + 48271) ^ (17 : Int).toNat) := if_pos ⟨by decide, by decide, by
      have b1 := Int.emod_nonneg v (show (1000000007 : Int) ≠ 0 by decide)
      have b2 := Int.emod_lt_of_pos v (show (0 : Int) < 1000000007 by decide)
      omega⟩
    rw [hp, bindO_s]
    cases hq : decide (pos < (l.length : Int)) with
    | true =>
      obtain ⟨x, hx⟩ := at_some a1 (of_decide_eq_true hq)
      rw [iteO_T, hx, bindO_s, bindO_s, mod_some h1, bindO_s]
      exact ⟨_, _, rfl, Int.emod_nonneg _ (by omega), Int.emod_lt_of_pos _ h1, by dsimp only; omega, by dsimp only; omega, by dsimp only; omega⟩
    | false =>
      rw [iteO_F, bindO_s, mod_some h1, bindO_s]
      exact ⟨_, _, rfl, Int.emod_nonneg _ (by omega), Int.emod_lt_of_pos _ h1, by dsimp only; omega, by dsimp only; omega, by dsimp only; omega⟩

theorem rng_some {j : Int} (h0 : 0 ≤ j) (h : j ≤ 1000) : pyRng j = some (rng 0 j.toNat) := if_pos ⟨by omega, by omega⟩
theorem start_ok (ns : List Int) (h : ns.length ≤ 63) : ∃ st, m_l_start ns = some st ∧ I 0 st := by
  unfold m_l_start
  have hs : pyScr ns = some ns := if_pos (by omega)
  simp only [letO_s, hs, bindO_s]
  cases hc : decide ((0 : Int) < (ns.length : Int)) with
  | false => exact ⟨_, rfl, by show (0 : Int) ≤ 1; decide, by show (0 : Int) ≤ 0; decide, by show (0 : Int) ≤ 0; decide⟩
  | true =>
    obtain ⟨x, hx⟩ := at_some (l := ns) (i := 0) (by decide) (of_decide_eq_true hc)
    rw [iteO_T, hx]
    exact ⟨_, rfl, by show (0 : Int) ≤ 1; decide, by show (0 : Int) ≤ 0; decide, by show (0 : Int) ≤ 0; decide⟩
theorem forL_cons {α ρ ς : Type} (f : α → ς → Option (Step ρ ς)) (x : α) (xs : List α) (s : ς) : forL f (x :: xs) s = (match f x s with
    | none => none
    | some (.nx s') => forL f xs s'
    | some (.brk s') => some (.nx s')
    | some (.ret b) => some (.ret b)) := rfl
theorem compL_cons {α β : Type} (f : α → Option (Option β)) (x : α) (xs : List α) : compL f (x :: xs) = (match f x with
    | none => none
    | some none => compL f xs
    | some (some y) => match compL f xs with
      | none => none
      | some ys => some (y :: ys)) := rfl

theorem forL_same {α ρ ς : Type} {f : α → ς → Option (Step ρ ς)} {s : ς} : ∀ {xs : List α}, (∀ x ∈ xs, f x s = some (.nx s)) → forL f xs s = some (.nx s)
  | [], _ => rfl
  | x :: xs, h => by
    rw [forL_cons, h x List.mem_cons_self]
    exact forL_same fun y hy => h y (List.mem_cons_of_mem _ hy)
theorem compS_cons {α β ς : Type} (f : α → ς → Option (Option β × ς)) (x : α) (xs : List α) (s : ς) : compS f (x :: xs) s = (match f x s with
    | none => none
    | some (none, s') => compS f xs s'
    | some (some y, s') => match compS f xs s' with
      | none => none
      | some (ys, s'') => some (y :: ys, s'')) := rfl
theorem at_mem {α : Type} {l : List α} {i : Int} {x : α} (h : atI l i = some x) : x ∈ l := by
  unfold atI at h
  cases q : ixN l.length i with
  | none => rw [q] at h; cases h
  | some j => rw [q] at h; exact List.mem_of_getElem? h
/-- a comprehension whose element is drawn -/
theorem drawn_ok {α β : Type} {f : α → Dr → Option (Option β × Dr)} {c : Int} (M : Int) (Z : β → Prop) (hc : 0 ≤ c) (hf : ∀ (x : α) (n : Int) (st : Dr), I n st → n ≤ M → ∃ y st', f x st = some (some y, st') ∧ Z y ∧ I (n + c) st') :
    ∀ (l : List α) (n : Int) (st : Dr), I n st → n + c * (l.length : Int) ≤ M → ∃ (ys : List β) (st' : Dr), compS f l st = some (ys, st') ∧ ys.length = l.length ∧ (∀ y ∈ ys, Z y) ∧ I (n + c * (l.length : Int)) st'
  | [], n, st, h, hm => ⟨[], st, rfl, rfl, (fun _ z => nomatch z), by simpa using h⟩
  | x :: xs, n, st, h, hm => by
    rw [List.length_cons] at hm
    have e0 : c * ((xs.length + 1 : Nat) : Int) = c * (xs.length : Int) + c := by rw [Int.natCast_add, Int.mul_add]; omega
    have e1 : 0 ≤ c * (xs.length : Int) := Int.mul_nonneg hc (by omega)
    obtain ⟨y, s, e, z, i⟩ := hf x n st h (by omega)
    obtain ⟨ys, st', e2, hl, ha, hi⟩ := drawn_ok M Z hc hf xs (n + c) s i (by omega)
    refine ⟨y :: ys, st', ?_, by simp [hl], fun w hw => ?_, ?_⟩
    · rw [compS_cons, e]
      dsimp only
      rw [e2]
    · rcases List.mem_cons.mp hw with rfl | hw
      · exact z
      · exact ha _ hw
    · rw [List.length_cons, e0, show n + (c * (xs.length : Int) + c) = n + c + c * (xs.length : Int) by omega]; exact hi
end Law

set_option maxHeartbeats 4000000
/-! # data: equal or not, in or not -/
namespace Law
local instance : G.TabL := ⟨[]⟩
open PySem L2 G
open SX (S S_len S_cat slice_to slice_from)
structure Dt {α : Type} [DecidableEq α] (d : α → PyData) (Z : α → Prop) (k : Nat) : Prop where
  lay : ∀ x, Z x → (d x).canLay0 = true
  dep : ∀ x, (d x).depth ≤ k
  eqv : ∀ x y, PyData.eqv (d x) (d y) = decide (x = y)
structure Dw {α : Type} [DecidableEq α] (d : α → List PyData) (Z : α → Prop) (k : Nat) : Prop where
  lay : ∀ x, Z x → PyData.canLayAll0 (d x) = true
  dep : ∀ x, PyData.depthAll (d x) ≤ k
  eqv : ∀ x y, PyData.eqvAll (d x) (d y) = decide (x = y)
section
variable {α β : Type} [DecidableEq α] [DecidableEq β] {d : α → PyData} {Z : α → Prop} {k : Nat} {e : β → List PyData} {Y : β → Prop}
theorem dt_int : Dt PyData.int (fun _ => True) 0 := ⟨fun x _ => by simp [PyData.canLay0], fun x => by simp [PyData.depth], fun x y => by
  unfold PyData.eqv
  by_cases h : x = y
  · rw [h]; simp
  · simp [h]⟩
theorem dt_bool : Dt PyData.bool (fun _ => True) 0 := ⟨fun x _ => by simp [PyData.canLay0], fun x => by simp [PyData.depth], fun x y => by
  unfold PyData.eqv
  cases x <;> cases y <;> rfl⟩
theorem dt_str : Dt PyData.str (fun x => PyData.canLay0 (.str x) = true) 0 := ⟨fun x h => h, fun x => by simp [PyData.depth], fun x y => by
  unfold PyData.eqv
  by_cases h : x = y
  · rw [decide_eq_true h, h]; exact beq_self_eq_true y
  · rw [decide_eq_false h]
    cases q : x == y with
    | false => rfl
    | true => exact absurd (eq_of_beq q) h⟩
theorem all_lay (h : Dt d Z k) : ∀ {xs : List α}, (∀ x ∈ xs, Z x) → PyData.canLayAll0 (xs.map d) = true
  | [], _ => by simp [PyData.canLayAll0]
  | x :: xs, hz => by
    have := all_lay h fun y hy => hz y (List.mem_cons_of_mem _ hy)
    simp [PyData.canLayAll0, h.lay x (hz x List.mem_cons_self), this]
theorem all_dep (h : Dt d Z k) : ∀ xs : List α, PyData.depthAll (xs.map d) ≤ k
  | [] => by simp [PyData.depthAll]
  | x :: xs => by
    have := all_dep h xs
    simp only [List.map_cons, PyData.depthAll]
    exact Nat.max_le.mpr ⟨h.dep x, this⟩
theorem all_eqv (h : Dt d Z k) : ∀ xs ys : List α, PyData.eqvAll (xs.map d) (ys.map d) = decide (xs = ys)
  | [], [] => by simp [PyData.eqvAll]
  | [], y :: ys => by simp [PyData.eqvAll]
  | x :: xs, [] => by simp [PyData.eqvAll]
  | x :: xs, y :: ys => by
    rw [List.map_cons, List.map_cons]
    unfold PyData.eqvAll
    rw [all_eqv h xs ys, h.eqv]
    by_cases h1 : x = y <;> by_cases h2 : xs = ys <;> simp [h1, h2]
theorem dt_tpl (h : Dt d Z k) : Dt (dTpl d) (fun xs => ∀ x ∈ xs, Z x) (k + 1) := ⟨fun xs hz => by unfold dTpl; simpa [PyData.canLay0] using all_lay h hz, fun xs => by unfold dTpl; simp only [PyData.depth]; have := all_dep h xs; omega, fun xs ys => by unfold dTpl; rw [← all_eqv h xs ys]; simp [PyData.eqv]⟩
theorem dt_lst (h : Dt d Z k) : Dt (dLst d) (fun xs => ∀ x ∈ xs, Z x) (k + 1) := ⟨fun xs hz => by unfold dLst; simpa [PyData.canLay0] using all_lay h hz, fun xs => by unfold dLst; simp only [PyData.depth]; have := all_dep h xs; omega, fun xs ys => by unfold dLst; rw [← all_eqv h xs ys]; simp [PyData.eqv]⟩
theorem dt_opt (h : Dt d Z k) (h1 : ∀ x, PyData.eqv (d x) .none = false) (h2 : ∀ x, PyData.eqv .none (d x) = false) : Dt (dOpt d) (fun o => ∀ x, o = some x → Z x) k := ⟨fun o hz => by
  cases o with
  | none => simp [dOpt, PyData.canLay0]
  | some x => exact h.lay x (hz x rfl), fun o => by
  cases o with
  | none => simp [dOpt, PyData.depth]
  | some x => exact h.dep x, fun o p => by
  cases o <;> cases p
  · simp [dOpt, PyData.eqv]
  · show PyData.eqv .none (d _) = _; rw [h2]; simp
  · show PyData.eqv (d _) .none = _; rw [h1]; simp
  · show PyData.eqv (d _) (d _) = _; rw [h.eqv]; simp⟩
theorem dw_1 (h : Dt d Z k) : Dw (dw1 d) Z k := ⟨fun x hz => by unfold dw1; simp [PyData.canLayAll0, h.lay x hz], fun x => by unfold dw1; simp only [PyData.depthAll]; have := h.dep x; omega, fun x y => by unfold dw1; simp only [PyData.eqvAll, h.eqv, Bool.and_true]⟩
theorem dw_C (h : Dt d Z k) (h2 : Dw e Y k) : Dw (dwC d e) (fun x => Z x.1 ∧ Y x.2) k := ⟨fun x hz => by unfold dwC; simp [PyData.canLayAll0, h.lay x.1 hz.1, h2.lay x.2 hz.2], fun x => by
  unfold dwC; simp only [PyData.depthAll]; exact Nat.max_le.mpr ⟨h.dep _, h2.dep _⟩, fun x y => by
  obtain ⟨x1, x2⟩ := x
  obtain ⟨y1, y2⟩ := y
  unfold dwC; simp only [PyData.eqvAll, h.eqv, h2.eqv]
  by_cases h1 : x1 = y1 <;> by_cases h2 : x2 = y2 <;> simp [h1, h2]⟩
theorem dt_tup (h : Dw e Y k) : Dt (dTup e) Y (k + 1) := ⟨fun x hz => by unfold dTup; simpa [PyData.canLay0] using h.lay x hz, fun x => by unfold dTup; simp only [PyData.depth]; have := h.dep x; omega, fun x y => by unfold dTup; rw [← h.eqv x y]; simp [PyData.eqv]⟩
theorem Dt.up (h : Dt d Z k) {k2 : Nat} (hk : k ≤ k2) : Dt d Z k2 := ⟨h.lay, fun x => Nat.le_trans (h.dep x) hk, h.eqv⟩
theorem Dt.im (h : Dt d Z k) {W : α → Prop} (hw : ∀ x, W x → Z x) : Dt d W k := ⟨fun x hx => h.lay x (hw x hx), h.dep, h.eqv⟩
theorem Dt.shp (h : Dt d Z k) (hk : k ≤ 64) {x : α} (hx : Z x) : SeqAt.shaped (d x) = true := by
  unfold SeqAt.shaped
  rw [h.lay x hx, decide_eq_true (Nat.le_trans (h.dep x) hk)]; rfl
theorem Dt.eq (h : Dt d Z k) (hk : k ≤ 64) {x y : α} (hx : Z x) (hy : Z y) : pyEq (d x) (d y) = some (decide (x = y)) := by
  unfold pyEq
  rw [if_pos ⟨h.shp hk hx, h.shp hk hy⟩, h.eqv]
theorem Dt.isin (h : Dt d Z k) (hk : k ≤ 63) {x : α} {ys : List α} (hx : Z x) (hy : ∀ y ∈ ys, Z y) : pyInD (d x) (ys.map d) = some (decide (x ∈ ys)) := by
  unfold pyInD
  rw [if_pos ⟨h.shp (by omega) hx, (dt_lst h).shp (by omega) hy⟩]
  congr 1
  rw [List.any_map, Bool.eq_iff_iff, List.any_eq_true, decide_eq_true_eq]
  simp only [Function.comp, h.eqv, decide_eq_true_eq]
  exact ⟨fun ⟨y, hy, e⟩ => e ▸ hy, fun hx => ⟨x, hx, rfl⟩⟩
theorem Dt.isinE (h : Dt d Z k) (hk : k ≤ 63) {x : α} {ys : List α} (hx : Z x) (hy : ∀ y ∈ ys, Z y) : ∃ q, pyInD (d x) (ys.map d) = some q ∧ (q = true ↔ x ∈ ys) := ⟨_, h.isin hk hx hy, decide_eq_true_iff⟩
end
def Asc (cs : List Nat) : Prop := ∀ c ∈ cs, c < 128
theorem str_ok {cs : List Nat} (h : Asc cs) : PyData.canLay0 (.str (S cs)) = true := by
  show (S cs).cps.all (· < 0x110000) = true
  rw [Array.all_eq_true_iff_forall_mem]
  intro c hc
  have := h c (by simpa using hc)
  exact decide_eq_true (Nat.lt_trans this (by decide))
theorem lit_ok (x : Str) (h : (x.cps.all fun c => decide (c < 0x110000)) = true) : PyData.canLay0 (.str x) = true := by
  simp only [PyData.canLay0]
  exact h
end Law

set_option maxHeartbeats 4000000
/-! # lists -/
namespace G
open PySem L2
theorem app_some {α : Type} {xs : List α} {y : α} (hs : xs.length ≤ 100000) : pyApp xs y = some (xs ++ [y]) := if_pos (by omega)
theorem cat_some {α : Type} {xs ys : List α} (h1 : xs.length ≤ 1000) (h2 : ys.length ≤ 1000) : pyCat xs ys = some (xs ++ ys) := if_pos (by omega)
theorem nodup_snoc {α : Type} {l : List α} {x : α} : (l ++ [x]).Nodup ↔ l.Nodup ∧ x ∉ l := by
  rw [List.perm_append_comm.nodup_iff]
  show (x :: l).Nodup ↔ _
  rw [List.nodup_cons]
  exact And.comm
theorem compL_fm {α β : Type} {f : α → Option (Option β)} {g : α → Option β} : ∀ {xs : List α}, (∀ x ∈ xs, f x = some (g x)) → compL f xs = some (xs.filterMap g)
  | [], _ => rfl
  | x :: xs, h => by
    rw [Law.compL_cons, h x List.mem_cons_self, compL_fm fun y hy => h y (List.mem_cons_of_mem _ hy), List.filterMap_cons]
    cases g x <;> rfl
theorem compL_mp {α β : Type} {f : α → Option (Option β)} {g : α → β} : ∀ {xs : List α}, (∀ x ∈ xs, f x = some (some (g x))) → compL f xs = some (xs.map g)
  | [], _ => rfl
  | x :: xs, h => by
    rw [Law.compL_cons, h x List.mem_cons_self, compL_mp fun y hy => h y (List.mem_cons_of_mem _ hy), List.map_cons]
theorem at_get {α : Type} {xs : List α} {i : Nat} {x : α} (h : xs[i]? = some x) : atI xs ((i : Nat) : Int) = some x := by
  unfold atI ixN
  have : i < xs.length := (List.getElem?_eq_some_iff.mp h).1
  rw [if_pos (by omega), if_pos (by omega), Option.bind_some]
  simpa using h
end G
namespace Law
local instance : G.TabL := ⟨[]⟩
open PySem L2 G
theorem I_mono {n m : Int} {st : Dr} (h : I n st) (hm : n ≤ m) : I m st := ⟨h.1, h.2.1, by have := h.2.2; omega⟩
end Law

set_option maxHeartbeats 4000000
/-! # edits -/
namespace Law
local instance : G.TabL := ⟨[]⟩
open PySem L2 G
abbrev Row := Option (List Int)
abbrev Plc := Str × List Int
abbrev Ch := Str × List Int × Row × Row
instance dqCh : DecidableEq Ch := inferInstanceAs (DecidableEq (Str × List Int × Row × Row))
instance dqOc : DecidableEq (Option Ch) := @Option.instDecidableEq Ch dqCh
instance dqLc : DecidableEq (List Ch) := @instDecidableEqList Ch dqCh
def kOf (c : Ch) : Plc := (c.1, c.2.1)
abbrev dRow : Row → PyData := dOpt (dTpl PyData.int)
abbrev dPlc : Plc → PyData := dTup (dwC PyData.str (dw1 (dTpl PyData.int)))
abbrev dCh : Ch → PyData := dTup (dwC PyData.str (dwC (dTpl PyData.int) (dwC dRow (dw1 dRow))))
def TxO (x : Str) : Prop := PyData.canLay0 (.str x) = true
theorem dt_row : Dt dRow (fun _ => True) 1 := (dt_opt (dt_tpl dt_int) (fun x => by simp [dTpl, PyData.eqv]) (fun x => by simp [dTpl, PyData.eqv])).im fun _ _ _ _ _ _ => trivial
theorem dt_plc : Dt dPlc (fun p => TxO p.1) 2 := (dt_tup (dw_C (dt_str.up (Nat.zero_le 1)) (dw_1 (dt_tpl dt_int)))).im fun _ h => ⟨h, fun _ _ => trivial⟩
theorem dt_ch : Dt dCh (fun c => TxO c.1) 2 := (dt_tup (dw_C (dt_str.up (Nat.zero_le 1)) (dw_C (dt_tpl dt_int) (dw_C dt_row (dw_1 dt_row))))).im fun _ h => ⟨h, fun _ _ => trivial, trivial, trivial⟩
theorem dt_och : Dt (dOpt dCh) (fun o => ∀ c, o = some c → TxO c.1) 2 := dt_opt dt_ch (fun x => by simp [dTup, PyData.eqv]) (fun x => by simp [dTup, PyData.eqv])
structure Good (l : List Ch) : Prop where
  tx : ∀ c ∈ l, TxO c.1
  ne : ∀ c ∈ l, c.2.2.1 ≠ c.2.2.2
  nd : (l.map kOf).Nodup
  len : l.length < 64
def pl (l : List Ch) : List (Plc × Ch) := l.map fun c => (kOf c, c)
def srt (l : List Ch) : List Ch := (oP.sort (l.map kOf)).filterMap (getM (pl l))
theorem pl_fst (l : List Ch) : (pl l).map Prod.fst = l.map kOf := by unfold pl; rw [List.map_map]; rfl
theorem getM_cons (x : Ch) (l : List Ch) (p : Plc) : getM (pl (x :: l)) p = if kOf x = p then some x else getM (pl l) p := by
  unfold getM pl
  rw [List.map_cons, List.find?_cons]
  by_cases h : kOf x = p
  · rw [if_pos h]; simp [h]
  · rw [if_neg h]; simp [h]
theorem getM_some {p : Plc} {c : Ch} : ∀ {l : List Ch}, (l.map kOf).Nodup → (getM (pl l) p = some c ↔ c ∈ l ∧ kOf c = p)
  | [], _ => ⟨(fun h => by cases h), fun h => nomatch h.1⟩
  | x :: l, nd => by
    rw [List.map_cons, List.nodup_cons] at nd
    rw [getM_cons]
    by_cases h : kOf x = p
    · rw [if_pos h]
      constructor
      · intro e; cases e; exact ⟨List.mem_cons_self, h⟩
      · rintro ⟨hm, hk⟩
        rcases List.mem_cons.mp hm with rfl | hm
        · rfl
        · exact absurd (List.mem_map.mpr ⟨c, hm, hk.trans h.symm⟩) nd.1
    · rw [if_neg h, getM_some nd.2]
      constructor
      · rintro ⟨hm, hk⟩; exact ⟨List.mem_cons_of_mem _ hm, hk⟩
      · rintro ⟨hm, hk⟩
        rcases List.mem_cons.mp hm with rfl | hm
        · exact absurd hk h
        · exact ⟨hm, hk⟩
theorem getM_is {p : Plc} : ∀ {l : List Ch}, (getM (pl l) p).isSome = decide (p ∈ l.map kOf)
  | [] => rfl
  | x :: l => by
    rw [getM_cons]
    by_cases h : kOf x = p
    · rw [if_pos h]; simp [h]
    · rw [if_neg h, getM_is, List.map_cons]
      simp [show ¬ p = kOf x from fun e => h e.symm]
theorem put_new {l : List Ch} {c : Ch} (h : kOf c ∉ l.map kOf) (hl : l.length < 1000) : pyPutD (pl l) (kOf c) c = some (pl (l ++ [c])) := by
  unfold pyPutD
  rw [if_pos (by unfold pl; rw [List.length_map]; omega)]
  unfold putM
  rw [if_neg]
  · unfold pl; rw [List.map_append]; rfl
  · intro e
    obtain ⟨x, hx, e⟩ := List.any_eq_true.mp e
    rw [← pl_fst] at h
    exact h (List.mem_map.mpr ⟨x, hx, of_decide_eq_true e⟩)
theorem Good.sub {l l2 : List Ch} (g : Good l) (h : l2.Sublist l) : Good l2 := ⟨fun c hc => g.tx c (h.subset hc), fun c hc => g.ne c (h.subset hc), g.nd.sublist (h.map kOf), Nat.lt_of_le_of_lt h.length_le g.len⟩
theorem good_nil : Good [] := ⟨(fun _ z => nomatch z), (fun _ z => nomatch z), List.nodup_nil, by decide⟩
theorem Good.snoc {l : List Ch} {c : Ch} (g : Good l) (h1 : TxO c.1) (h2 : c.2.2.1 ≠ c.2.2.2) (h3 : kOf c ∉ l.map kOf) (h4 : l.length < 63) : Good (l ++ [c]) :=
  ⟨fun x hx => (List.mem_append.mp hx).elim (g.tx x) fun hx => by rw [List.mem_singleton.mp hx]; exact h1,
   fun x hx => (List.mem_append.mp hx).elim (g.ne x) fun hx => by rw [List.mem_singleton.mp hx]; exact h2,
   by rw [List.map_append]; exact nodup_snoc.mpr ⟨g.nd, h3⟩, by rw [List.length_append, List.length_singleton]; omega⟩
/-- the first fault in the order of the list, behind acc -/
def flt : List Ch → List Ch → Option (Ch ⊕ Plc)
  | _, [] => none
  | acc, c :: cs => if c.2.2.1 = c.2.2.2 then some (.inl c) else if kOf c ∈ acc.map kOf then some (.inr (kOf c)) else flt (acc ++ [c]) cs
theorem row_eq (x y : Row) : pyEq (dRow x) (dRow y) = some (decide (x = y)) := dt_row.eq (by decide) trivial trivial
theorem placed_loop : ∀ {cs acc : List Ch}, acc.length + cs.length < 1000 → forL m_placed_changes_b1 cs (pl acc) = some (match flt acc cs with
    | some e => .ret (.er e)
    | none => .nx (pl (acc ++ cs)))
  | [], acc, _ => by rw [List.append_nil]; rfl
  | c :: cs, acc, h => by
    rw [List.length_cons] at h
    have ei : (getM (pl acc) (c.1, c.2.1)).isSome = decide (kOf c ∈ acc.map kOf) := getM_is
    have e : m_placed_changes_b1 c (pl acc) = some (if c.2.2.1 = c.2.2.2 then .ret (.er (.inl c)) else if kOf c ∈ acc.map kOf then .ret (.er (.inr (kOf c))) else .nx (pl (acc ++ [c]))) := by
      unfold m_placed_changes_b1
      rw [letO_s, row_eq, bindO_s, letO_s]
      by_cases h1 : c.2.2.1 = c.2.2.2
      · rw [if_pos h1, decide_eq_true h1]; rfl
      · rw [if_neg h1, decide_eq_false h1, iteO_F, letO_s, ei]
        by_cases h2 : kOf c ∈ acc.map kOf
        · rw [if_pos h2, decide_eq_true h2]; rfl
        · rw [if_neg h2, decide_eq_false h2, iteO_F]
          have ep : pyPutD (pl acc) (c.1, c.2.1) c = some (pl (acc ++ [c])) := put_new h2 (by omega)
          rw [ep]; rfl
    rw [forL_cons, e]
    unfold flt
    by_cases h1 : c.2.2.1 = c.2.2.2
    · rw [if_pos h1, if_pos h1]
    · rw [if_neg h1, if_neg h1]
      by_cases h2 : kOf c ∈ acc.map kOf
      · rw [if_pos h2, if_pos h2]
      · rw [if_neg h2, if_neg h2]
        have := placed_loop (cs := cs) (acc := acc ++ [c]) (by rw [List.length_append, List.length_singleton]; omega)
        rw [List.append_assoc] at this
        exact this
theorem flt_none : ∀ {cs acc : List Ch}, (acc.map kOf).Nodup → (flt acc cs = none ↔ (∀ c ∈ cs, c.2.2.1 ≠ c.2.2.2) ∧ ((acc ++ cs).map kOf).Nodup)
  | [], acc, h => by rw [List.append_nil]; exact ⟨fun _ => ⟨(fun _ z => nomatch z), h⟩, fun _ => rfl⟩
  | c :: cs, acc, h => by
    unfold flt
    by_cases h1 : c.2.2.1 = c.2.2.2
    · rw [if_pos h1]
      exact ⟨(fun z => nomatch z), fun z => absurd h1 (z.1 c List.mem_cons_self)⟩
    · rw [if_neg h1]
      by_cases h2 : kOf c ∈ acc.map kOf
      · rw [if_pos h2]
        refine ⟨(fun z => nomatch z), fun z => ?_⟩
        have := z.2
        rw [List.map_append, List.nodup_append] at this
        exact absurd rfl (this.2.2 _ h2 _ (by rw [List.map_cons]; exact List.mem_cons_self))
      · rw [if_neg h2, flt_none (by rw [List.map_append]; exact nodup_snoc.mpr ⟨h, h2⟩), List.append_assoc]
        exact ⟨fun ⟨a, b⟩ => ⟨fun x hx => (List.mem_cons.mp hx).elim (fun e => e ▸ h1) (a x), b⟩, fun ⟨a, b⟩ => ⟨fun x hx => a x (List.mem_cons_of_mem _ hx), b⟩⟩
theorem init_good {l : List Ch} (g : Good l) : bindO (pyKeysD (pl l)) (fun l4 => bindO (pySortN l4) fun l5 => bindO (compL (m_Edit___init_c1 (pl l)) l5) fun l8 => letO (l8) fun changes9 => some (Res.ok (pl l, changes9) : Res (Ch ⊕ Plc) (List (Plc × Ch) × List Ch))) = some (.ok (pl l, srt l)) := by
  have ek : pyKeysD (pl l) = some (l.map kOf) := by
    unfold pyKeysD
    rw [if_pos (by unfold pl; rw [List.length_map]; exact Nat.le_of_lt (Nat.lt_trans g.len (by decide))), pl_fst]
  have es : pySortN (l.map kOf) = some (oP.sort (l.map kOf)) := if_pos (by rw [List.length_map]; exact g.len)
  have ec : compL (m_Edit___init_c1 (pl l)) (oP.sort (l.map kOf)) = some (srt l) := compL_fm fun p hp => by
    have hp : p ∈ l.map kOf := (oP.sort_perm _).mem_iff.mp hp
    have hi : (getM (pl l) p).isSome = true := by rw [getM_is]; exact decide_eq_true hp
    unfold m_Edit___init_c1
    cases q : getM (pl l) p with
    | none => rw [q] at hi; cases hi
    | some y => rfl
  simp only [bindO_s, letO_s, ek, es, ec]
theorem init_res {l : List Ch} (tx : ∀ c ∈ l, TxO c.1) (hl : l.length < 64) : m_Edit___init l = some (match flt [] l with
    | some e => .er e
    | none => .ok (pl l, srt l)) := by
  unfold m_Edit___init m_placed_changes
  have e : forL m_placed_changes_b1 l [] = _ := placed_loop (cs := l) (acc := []) (by simp only [List.length_nil]; omega)
  rw [e, bindO_s]
  cases q : flt [] l with
  | some z => rfl
  | none =>
    obtain ⟨a, b⟩ := (flt_none (acc := []) List.nodup_nil).mp q
    exact init_good ⟨tx, a, b, hl⟩
theorem init_Vt : m_Edit___init___Vt = m_Edit___init := rfl
theorem good_flt {l : List Ch} (g : Good l) : flt [] l = none := (flt_none (acc := []) List.nodup_nil).mpr ⟨g.ne, g.nd⟩
theorem init_ok {l : List Ch} (g : Good l) : m_Edit___init l = some (.ok (pl l, srt l)) := by rw [init_res g.tx g.len, good_flt g]
theorem init_nil : m_Edit___init___Vk [] = some (pl [], srt []) := by
  have hs : oP.sort [] = [] := by unfold Ord.sort; exact List.mergeSort_nil
  unfold m_Edit___init___Vk m_placed_changes_Vk srt
  have ek : pyKeysD ([] : List (Plc × Ch)) = some [] := rfl
  have es : pySortN [] = some [] := by show (if [].length < 64 then some (oP.sort []) else none) = _; rw [hs]; rfl
  rw [show (([] : List Ch).map kOf) = [] from rfl, hs, show forL m_placed_changes_Vk_b1 [] [] = some (.nx []) from rfl]
  simp only [bindO_s, stepO_N, letO_s, ek, es]
  rfl
theorem mem_srt {l : List Ch} (g : Good l) {c : Ch} : c ∈ srt l ↔ c ∈ l := by
  unfold srt
  rw [List.mem_filterMap]
  constructor
  · rintro ⟨p, _, e⟩; exact ((getM_some g.nd).mp e).1
  · intro h
    exact ⟨kOf c, (oP.sort_perm _).mem_iff.mpr (List.mem_map.mpr ⟨c, h, rfl⟩), (getM_some g.nd).mpr ⟨h, rfl⟩⟩
def sub (a b : List Ch) : Bool := decide (∀ c ∈ a, c ∈ b)
theorem srt_eq {a b : List Ch} (ga : Good a) (gb : Good b) : srt a = srt b ↔ (∀ c ∈ a, c ∈ b) ∧ ∀ c ∈ b, c ∈ a := by
  constructor
  · intro e
    exact ⟨fun c hc => (mem_srt gb).mp (e ▸ (mem_srt ga).mpr hc), fun c hc => (mem_srt ga).mp (e ▸ (mem_srt gb).mpr hc)⟩
  · rintro ⟨h1, h2⟩
    have na : a.Nodup := List.Pairwise.of_map kOf (fun _ _ h e => h (congrArg kOf e)) ga.nd
    have nb : b.Nodup := List.Pairwise.of_map kOf (fun _ _ h e => h (congrArg kOf e)) gb.nd
    have pm : a.Perm b := (List.perm_ext_iff_of_nodup na nb).mpr fun c => ⟨h1 c, h2 c⟩
    have es : oP.sort (a.map kOf) = oP.sort (b.map kOf) := oP.sort_eq ((oP.sort_perm _).trans (pm.map kOf)) (oP.sort_asc _)
    have eg : getM (pl a) = getM (pl b) := funext fun p => Option.ext fun c => by
      rw [getM_some ga.nd, getM_some gb.nd]
      exact ⟨fun ⟨x, y⟩ => ⟨h1 c x, y⟩, fun ⟨x, y⟩ => ⟨h2 c x, y⟩⟩
    unfold srt
    rw [es, eg]
theorem eq_ok {a b : List Ch} (ga : Good a) (gb : Good b) : m_Edit___eq (pl a, srt a) (pl b, srt b) = some (sub a b && sub b a) := by
  unfold m_Edit___eq
  have e := (dt_tpl dt_ch).eq (by decide) (x := srt a) (y := srt b) (fun c hc => ga.tx c ((mem_srt ga).mp hc)) (fun c hc => gb.tx c ((mem_srt gb).mp hc))
  simp only [letO_s, iteO_T, e, bindO_s]
  congr 1
  unfold sub
  rw [Bool.eq_iff_iff, Bool.and_eq_true, decide_eq_true_eq, decide_eq_true_eq, decide_eq_true_eq]
  exact srt_eq ga gb
end Law

set_option maxHeartbeats 4000000
namespace Law
local instance : G.TabL := ⟨[]⟩
open PySem L2 G
theorem srt_keys {l : List Ch} (g : Good l) : (srt l).map kOf = oP.sort (l.map kOf) := by
  unfold srt
  have : ∀ {ps : List Plc}, (∀ p ∈ ps, p ∈ l.map kOf) → (ps.filterMap (getM (pl l))).map kOf = ps := fun {ps} => by
    induction ps with
    | nil => intro _; rfl
    | cons p ps ih =>
      intro h
      have hi : (getM (pl l) p).isSome = true := by rw [getM_is]; exact decide_eq_true (h p List.mem_cons_self)
      cases q : getM (pl l) p with
      | none => rw [q] at hi; cases hi
      | some c =>
        rw [List.filterMap_cons, q]
        dsimp only
        rw [List.map_cons, ih fun r hr => h r (List.mem_cons_of_mem _ hr), ((getM_some g.nd).mp q).2]
  exact this fun p hp => (oP.sort_perm _).mem_iff.mp hp
theorem srt_nd {l : List Ch} (g : Good l) : ((srt l).map kOf).Nodup := by rw [srt_keys g]; exact (oP.sort_perm _).nodup_iff.mpr g.nd
theorem same_keys {l : List Ch} (nd : (l.map kOf).Nodup) : ∀ {xs ys : List Ch}, (∀ c ∈ xs, c ∈ l) → (∀ c ∈ ys, c ∈ l) → xs.map kOf = ys.map kOf → xs = ys
  | [], [], _, _, _ => rfl
  | [], y :: ys, _, _, e => by cases e
  | x :: xs, [], _, _, e => by cases e
  | x :: xs, y :: ys, hx, hy, e => by
    rw [List.map_cons, List.map_cons] at e
    obtain ⟨e1, e2⟩ := List.cons.inj e
    have a1 := (getM_some (l := l) nd).mpr ⟨hx x List.mem_cons_self, rfl⟩
    have a2 := (getM_some (l := l) nd).mpr ⟨hy y List.mem_cons_self, rfl⟩
    rw [e1, a2] at a1
    rw [Option.some.inj a1, same_keys nd (fun c hc => hx c (List.mem_cons_of_mem _ hc)) (fun c hc => hy c (List.mem_cons_of_mem _ hc)) e2]
theorem by_srt {l : List Ch} (g : Good l) : srtBy (fun x : Ch => (x.1, x.2.1)) l = srt l := by
  refine same_keys g.nd (fun c hc => (List.mergeSort_perm _ _).mem_iff.mp hc) (fun c hc => (mem_srt g).mp hc) ?_
  rw [srt_keys g]
  unfold srtBy Ord.sort
  exact List.map_mergeSort (fun _ _ _ _ => rfl)
end Law

set_option maxHeartbeats 4000000
/-! # edits made, asked, refused -/
namespace Law
local instance : G.TabL := ⟨[]⟩
open PySem L2 G
def NL : List Str := [Str.ofString "a", Str.ofString "ab", Str.ofString "b", Str.ofString "b_1", Str.ofString "z"]
def FNs : List Str := [Str.ofString "free_0", Str.ofString "free_1", Str.ofString "free_2", Str.ofString "free_3", Str.ofString "free_4", Str.ofString "free_5", Str.ofString "free_6", Str.ofString "free_7", Str.ofString "free_8"]
def FN (j : Nat) : Str := FNs.getD j (Str.ofString "")
theorem fn_is : ∀ j : Fin 9, bindO (pyStrI (j.val : Int)) (fun s => pyAddS (Str.ofString "free_") s) = some (FN j.val) := by decide +kernel
theorem fn_in : ∀ j : Fin 9, FN j.val ∈ FNs := by decide +kernel
theorem nf_tx : ∀ x ∈ NL ++ FNs, (x.cps.all fun c => decide (c < 0x110000)) = true := by decide +kernel
/-- a place of the draws -/
def Pl (p : Plc) : Prop := (p.1 ∈ NL ∧ (7 : Int) ∉ p.2 ∧ (8 : Int) ∉ p.2 ∧ p.2 ≠ []) ∨ p.1 ∈ FNs
theorem Pl.tx {p : Plc} (h : Pl p) : TxO p.1 := lit_ok _ (nf_tx _ (List.mem_append.mpr (h.imp (·.1) id)))
theorem row_ok {n : Int} {st : Dr} (h : I n st) (hn : n ≤ 40000) : ∃ r st', m_l_row st = some (r, st') ∧ I (n + 5) st' := by
  unfold m_l_row
  obtain ⟨d, s1, e1, p1, q1, i1⟩ := draw_ok h (by omega) (show (0 : Int) < 4 by decide) (by decide)
  simp only [e1, bindO_s, letO_s]
  cases decide (d = 0) with
  | true => exact ⟨none, s1, rfl, I_mono i1 (by omega)⟩
  | false =>
    obtain ⟨m, s2, e2, p2, q2, i2⟩ := draw_ok i1 (by omega) (show (0 : Int) < 3 by decide) (by decide)
    obtain ⟨ys, s3, e3, hl, _, i3⟩ := drawn_ok (f := m_l_row_c1) (c := 1) 50000 (fun _ => True) (by decide) (fun x n st hi hn => by
      obtain ⟨d, s, e, p, q, i⟩ := draw_ok hi (by omega) (show (0 : Int) < 6 by decide) (by decide)
      obtain ⟨y, hy⟩ := at_some (l := [(0 : Int), (1 : Int), (9 : Int), (10 : Int), (-(1 : Int)), ((10 : Int) ^ ((30 : Int)).toNat)]) p q
      unfold m_l_row_c1
      simp only [e, bindO_s, hy]
      exact ⟨_, _, rfl, trivial, i⟩) (rng 0 (1 + m).toNat) _ _ i2 (by rw [rng_len]; omega)
    rw [rng_len] at hl i3
    simp only [iteO_F, e2, bindO_s, rng_some (show (0 : Int) ≤ 1 + m by omega) (by omega), e3]
    exact ⟨_, _, rfl, I_mono i3 (by omega)⟩
theorem place_ok {n : Int} {st : Dr} (h : I n st) (hn : n ≤ 40000) : ∃ p st', m_l_place st = some (p, st') ∧ Pl p ∧ I (n + 4) st' := by
  unfold m_l_place
  obtain ⟨d, s1, e1, p1, q1, i1⟩ := draw_ok h (by omega) (show (0 : Int) < 5 by decide) (by decide)
  obtain ⟨y, hy⟩ := at_some (l := NL) p1 q1
  have hy' : atI [(Str.ofString "a"), (Str.ofString "ab"), (Str.ofString "b"), (Str.ofString "b_1"), (Str.ofString "z")] d = some y := hy
  obtain ⟨m, s2, e2, p2, q2, i2⟩ := draw_ok i1 (by omega) (show (0 : Int) < 2 by decide) (by decide)
  obtain ⟨ys, s3, e3, hl, ha, i3⟩ := drawn_ok (f := m_l_place_c1) (c := 1) 50000 (fun y : Int => y ≠ 7 ∧ y ≠ 8) (by decide) (fun x n st hi hn => by
    obtain ⟨d, s, e, p, q, i⟩ := draw_ok hi (by omega) (show (0 : Int) < 7 by decide) (by decide)
    obtain ⟨y, hy⟩ := at_some (l := [(0 : Int), (9 : Int), (10 : Int), (100 : Int), (99 : Int), (-(2 : Int)), ((10 : Int) ^ ((20 : Int)).toNat)]) p q
    have hm := at_mem hy
    unfold m_l_place_c1
    simp only [e, bindO_s, hy]
    refine ⟨_, _, rfl, ?_, i⟩
    constructor
    · rintro rfl; revert hm; decide
    · rintro rfl; revert hm; decide) (rng 0 (1 + m).toNat) _ _ i2 (by rw [rng_len]; omega)
  rw [rng_len] at i3 hl
  simp only [e1, bindO_s, hy', letO_s, e2, rng_some (show (0 : Int) ≤ 1 + m by omega) (by omega), e3]
  refine ⟨_, _, rfl, .inl ⟨at_mem hy, fun hc => (ha _ hc).1 rfl, fun hc => (ha _ hc).2 rfl, fun z => ?_⟩, I_mono i3 (by omega)⟩
  have z' : ys = [] := z
  rw [z'] at hl
  simp only [List.length_nil] at hl
  omega
theorem ite_row {b : Bool} (x y : Row) : ∃ z : Row, iteO b (some x) (some y) = some z := by cases b; exact ⟨y, rfl⟩; exact ⟨x, rfl⟩
theorem step_ok {i : Nat} {n : Int} {s : Dr × List Ch} (hi : i < 9) (h : I n s.1) (hn : n ≤ 30000) (hl : s.2.length = i) (N : ∀ c ∈ s.2, Pl (kOf c)) : ∃ s', m_l_changes_b1 (i : Int) s = some (.nx s') ∧ (∀ c ∈ s'.2, Pl (kOf c)) ∧ s'.2.length = i + 1 ∧ I (n + 20) s'.1 := by
  obtain ⟨st, found⟩ := s
  dsimp only at h hl N
  unfold m_l_changes_b1
  obtain ⟨kd, s0, e0, p0, q0, i0⟩ := draw_ok h (by omega) (show (0 : Int) < 12 by decide) (by decide)
  obtain ⟨p, s1, e1, hp, i1⟩ := place_ok i0 (by omega)
  obtain ⟨bf, s2, e2, i2⟩ := row_ok i1 (by omega)
  obtain ⟨af, s3, e3, i3⟩ := row_ok i2 (by omega)
  simp only [e0, bindO_s, letO_s, e1, e2, e3]
  have ea : ∃ b : Bool, iteO (decide ((1 : Int) < kd)) (bindO (pyEq (dRow bf) (dRow af)) fun q14 => some q14) (some false) = some b := by
    rw [row_eq]
    cases decide ((1 : Int) < kd) <;> exact ⟨_, rfl⟩
  obtain ⟨b1, ea⟩ := ea
  rw [ea]
  simp only [bindO_s]
  obtain ⟨a1, ea1⟩ := ite_row (b := b1) (some [(5 : Int), (found.length : Int)]) af
  rw [ea1]
  simp only [bindO_s]
  obtain ⟨a2, ea2⟩ := ite_row (b := decide (kd = 0)) bf a1
  rw [ea2]
  simp only [bindO_s]
  have ej : ∃ (q : Plc) (st' : Dr), iteO (decide (kd = (1 : Int)) && decide ((0 : Int) < (found.length : Int))) (bindO (m_l_draw s3 (found.length : Int)) fun p25 => bindO (atI found p25.1) fun y26 => some ((y26.1, y26.2.1), p25.2)) (some (p, s3)) = some (q, st') ∧ Pl q ∧ I (n + 1 + 4 + 5 + 5 + 1) st' := by
    cases hc : (decide (kd = (1 : Int)) && decide ((0 : Int) < (found.length : Int))) with
    | false => rw [iteO_F]; exact ⟨p, s3, rfl, hp, I_mono i3 (by omega)⟩
    | true =>
      have hpos : (0 : Int) < (found.length : Int) := of_decide_eq_true (Bool.and_eq_true_iff.mp hc).2
      obtain ⟨d, s4, e4, p4, q4, i4⟩ := draw_ok i3 (by omega) hpos (by omega)
      obtain ⟨y, hy⟩ := at_some p4 q4
      rw [iteO_T, e4, bindO_s]
      dsimp only
      rw [hy, bindO_s]
      exact ⟨kOf y, s4, rfl, N y (at_mem hy), i4⟩
  obtain ⟨q, s4, eq, hq, i4⟩ := ej
  rw [eq]
  simp only [bindO_s]
  have ec : compL m_l_changes_c1 found = some (found.map kOf) := compL_mp fun x _ => rfl
  have ein : ∃ b, iteO (decide ((1 : Int) < kd)) (bindO (compL m_l_changes_c1 found) fun l29 => bindO (pyInD (dPlc q) (l29.map dPlc)) fun n30 => some n30) (some false) = some b := by
    obtain ⟨b0, e, _⟩ : ∃ b, pyInD (dPlc q) ((found.map kOf).map dPlc) = some b ∧ (b = true ↔ q ∈ found.map kOf) := dt_plc.isinE (by decide) hq.tx fun y hy => by
      obtain ⟨c, hc, rfl⟩ : ∃ c : Ch, c ∈ found ∧ kOf c = y := List.mem_map.mp hy
      exact (N c hc).tx
    rw [ec, bindO_s, e]
    cases decide ((1 : Int) < kd)
    · exact ⟨false, rfl⟩
    · exact ⟨b0, rfl⟩
  obtain ⟨b2, ein⟩ := ein
  rw [ein]
  simp only [bindO_s]
  have ej2 : ∃ r : Plc, iteO b2 (bindO (pyStrI (i : Int)) fun s35 => bindO (pyAddS (Str.ofString "free_") s35) fun s36 => some (s36, [(i : Int), (0 : Int)])) (some q) = some r ∧ Pl r := by
    cases b2 with
    | true =>
      rw [iteO_T]
      have e := fn_is ⟨i, hi⟩
      cases es : pyStrI (i : Int) with
      | none => rw [es] at e; cases e
      | some z =>
        rw [es, bindO_s] at e
        rw [bindO_s, e]
        exact ⟨_, rfl, .inr (fn_in ⟨i, hi⟩)⟩
    | false => exact ⟨q, rfl, hq⟩
  obtain ⟨r, er, hr⟩ := ej2
  rw [er]
  have ea : pyApp found (r.1, r.2, bf, a2) = some (found ++ [(r.1, r.2, bf, a2)]) := app_some (by omega)
  simp only [bindO_s, ea]
  refine ⟨_, rfl, fun c hc => ?_, by rw [List.length_append, hl, List.length_singleton], I_mono i4 (by omega)⟩
  rcases List.mem_append.mp hc with hc | hc
  · exact N c hc
  · rw [List.mem_singleton.mp hc]; exact hr
theorem changes_ok {n : Int} {st : Dr} (h : I n st) (hn : n ≤ 20000) : ∃ l st', m_l_changes st = some (l, st', ()) ∧ (∀ c ∈ l, Pl (kOf c)) ∧ l.length ≤ 9 := by
  unfold m_l_changes
  obtain ⟨d, s1, e1, p1, q1, i1⟩ := draw_ok h (by omega) (show (0 : Int) < 10 by decide) (by decide)
  simp only [letO_s, e1, bindO_s, rng_some p1 (show d ≤ 1000 by omega)]
  obtain ⟨s, e, hN, hl, hi⟩ := forL_inv (ρ := List Ch × Dr × Unit) (f := m_l_changes_b1) (xs := rng 0 d.toNat) (s := (s1, [])) (k := 0) (fun i s => (∀ c ∈ s.2, Pl (kOf c)) ∧ s.2.length = i ∧ I (n + 1 + 20 * (i : Int)) s.1) ⟨(fun _ z => nomatch z), rfl, by simpa using i1⟩ (fun i x s hx hs => by
    obtain ⟨hN, hl, hi⟩ := hs
    obtain ⟨hid, rfl⟩ := rng_get hx
    rw [Nat.zero_add] at hl hi
    obtain ⟨s', e', hN', hl', hi'⟩ := step_ok (by omega) hi (by omega) hl hN
    refine ⟨s', by rw [Int.zero_add]; exact e', hN', by rw [Nat.zero_add]; exact hl', I_mono hi' (by omega)⟩)
  rw [rng_len, Nat.zero_add] at hl
  rw [e, bindO_s, stepO_N]
  exact ⟨s.2, s.1, rfl, hN, by omega⟩
/-! ### what is due -/
abbrev DuT := (Str × Ch) ⊕ ((Str × Plc) ⊕ (Str × List Ch))
def erD : Ch ⊕ Plc → DuT
  | .inl c => .inl (Str.ofString "InvalidChange", c)
  | .inr p => .inr (.inl (Str.ofString "SamePlace", p))
theorem cut_take {l : List Ch} {i : Nat} (h : i ≤ l.length) : cut l none (some (i : Int)) = l.take i := by
  unfold cut
  rw [HT.sIx_nat, HT.sIx_none, List.drop_zero, Nat.sub_zero, Nat.min_eq_left h]
theorem due_step {l : List Ch} (tx : ∀ c ∈ l, TxO c.1) {i : Nat} {c : Ch} (hc : l[i]? = some c) : m_l_due_b1 l (i : Int) () = some (if c.2.2.1 = c.2.2.2 then .ret (erD (.inl c)) else if kOf c ∈ (l.take i).map kOf then .ret (erD (.inr (kOf c))) else .nx ()) := by
  have ha := at_get hc
  have hm : c ∈ l := List.mem_of_getElem? hc
  have hi : i < l.length := (List.getElem?_eq_some_iff.mp hc).1
  unfold m_l_due_b1
  rw [ha, bindO_s, bindO_s, row_eq, bindO_s, letO_s]
  by_cases h1 : c.2.2.1 = c.2.2.2
  · rw [if_pos h1, decide_eq_true h1]; rfl
  · rw [if_neg h1, decide_eq_false h1, iteO_F, bindO_s]
    have ec : compL m_l_due_c1 (cut l none (some (i : Int))) = some ((l.take i).map kOf) := by
      rw [cut_take (by omega)]; exact compL_mp fun x _ => rfl
    rw [ec, bindO_s]
    have e := dt_plc.isin (by decide) (x := kOf c) (ys := (l.take i).map kOf) (tx c hm) fun y hy => by
      obtain ⟨d, hd, rfl⟩ := List.mem_map.mp hy
      have z : TxO d.1 := tx d (List.mem_of_mem_take hd)
      exact z
    show bindO (pyInD (dPlc (kOf c)) (((l.take i).map kOf).map dPlc)) _ = _
    rw [e, bindO_s, letO_s]
    by_cases h2 : kOf c ∈ (l.take i).map kOf
    · simp only [h2, decide_true, if_true]; rfl
    · simp only [h2, decide_false, if_false]; rfl
theorem rng_cons (lo : Int) (k : Nat) : rng lo (k + 1) = lo :: rng (lo + 1) k := by
  unfold rng
  rw [List.range_succ_eq_map, List.map_cons, List.map_map]
  congr 1
  · simp
  · apply List.map_congr_left
    intro i _
    show lo + ((i + 1 : Nat) : Int) = lo + 1 + (i : Int)
    omega
theorem due_loop {l : List Ch} (tx : ∀ c ∈ l, TxO c.1) : ∀ (k i : Nat), i + k = l.length → forL (m_l_due_b1 l) (rng (i : Int) k) () = some (match flt (l.take i) (l.drop i) with
    | some e => .ret (erD e)
    | none => .nx ())
  | 0, i, h => by
    rw [List.drop_eq_nil_of_le (by omega)]
    rfl
  | k + 1, i, h => by
    have hi : i < l.length := by omega
    have hc : l[i]? = some l[i] := List.getElem?_eq_getElem hi
    have ih := due_loop tx k (i + 1) (by omega)
    have ht : l.take (i + 1) = l.take i ++ [l[i]] := by rw [List.take_succ, hc]; rfl
    rw [rng_cons, show (i : Int) + 1 = ((i + 1 : Nat) : Int) by omega, forL_cons, due_step tx hc, List.drop_eq_getElem_cons hi]
    generalize l[i] = c at *
    conv => rhs; unfold flt
    by_cases h1 : c.2.2.1 = c.2.2.2
    · rw [if_pos h1, if_pos h1]
    · rw [if_neg h1, if_neg h1]
      by_cases h2 : kOf c ∈ (l.take i).map kOf
      · rw [if_pos h2, if_pos h2]
      · rw [if_neg h2, if_neg h2, ← ht]
        exact ih
theorem due_res {l : List Ch} (tx : ∀ c ∈ l, TxO c.1) (hl : l.length < 64) : m_l_due l = some (match flt [] l with
    | some e => erD e
    | none => .inr (.inr (Str.ofString "made", srt l))) := by
  unfold m_l_due
  rw [rng_some (by omega) (by omega), bindO_s, Int.toNat_natCast]
  have e := due_loop tx l.length 0 (by omega)
  rw [List.take_zero, List.drop_zero, show ((0 : Nat) : Int) = 0 from rfl] at e
  rw [e, bindO_s]
  cases q : flt [] l with
  | some z => rfl
  | none =>
    obtain ⟨a, b⟩ := (flt_none (acc := []) List.nodup_nil).mp q
    show some (Sum.inr (Sum.inr (Str.ofString "made", srtBy (fun x : Ch => (x.1, x.2.1)) l))) = _
    rw [by_srt ⟨tx, a, b, hl⟩]
abbrev MaT := (Str × Ch) ⊕ ((Str × Plc) ⊕ (Str × (List (Plc × Ch) × List Ch)))
def erM : Ch ⊕ Plc → MaT
  | .inl c => .inl (Str.ofString "InvalidChange", c)
  | .inr p => .inr (.inl (Str.ofString "SamePlace", p))
theorem made_res {l : List Ch} (tx : ∀ c ∈ l, TxO c.1) (hl : l.length < 64) : m_l_made l = some (match flt [] l with
    | some e => erM e
    | none => .inr (.inr (Str.ofString "made", pl l, srt l))) := by
  unfold m_l_made
  rw [letO_s, init_res tx hl, bindO_s]
  cases flt [] l with
  | none => rfl
  | some e => cases e <;> rfl
theorem base_res {l : List Ch} (tx : ∀ c ∈ l, TxO c.1) (hl : l.length < 64) {e : Ch ⊕ Plc} (h : flt [] l = some e) : m_l_base_caught l = some true := by
  unfold m_l_base_caught
  rw [letO_s, init_Vt, init_res tx hl, bindO_s, h]
  cases e <;> rfl
theorem flt_tx : ∀ {cs acc : List Ch} {e : Ch ⊕ Plc}, (∀ c ∈ cs, TxO c.1) → flt acc cs = some e → (∀ c, e = .inl c → TxO c.1) ∧ ∀ p, e = .inr p → TxO p.1
  | [], _, _, _, h => by cases h
  | c :: cs, acc, e, tx, h => by
    unfold flt at h
    split at h
    · cases h; exact ⟨fun d z => by cases z; exact tx c List.mem_cons_self, fun p z => (nomatch z)⟩
    · split at h
      · cases h; exact ⟨fun d z => (nomatch z), fun p z => by cases z; exact tx c List.mem_cons_self⟩
      · exact flt_tx (fun d hd => tx d (List.mem_cons_of_mem _ hd)) h
theorem tx_ic : TxO (Str.ofString "InvalidChange") := lit_ok _ (by decide +kernel)
theorem tx_sp : TxO (Str.ofString "SamePlace") := lit_ok _ (by decide +kernel)
theorem tx_nc : TxO (Str.ofString "NoChange") := lit_ok _ (by decide +kernel)
theorem tx_to : TxO (Str.ofString "told") := lit_ok _ (by decide +kernel)
theorem eq_ic {c : Ch} (h : TxO c.1) : pyEq (dTup (dwC PyData.str (dw1 dCh)) (Str.ofString "InvalidChange", c)) (dTup (dwC PyData.str (dw1 dCh)) (Str.ofString "InvalidChange", c)) = some true := by
  have := (dt_tup (dw_C (dt_str.up (show 0 ≤ 2 by decide)) (dw_1 dt_ch))).eq (by decide) (x := (Str.ofString "InvalidChange", c)) (y := (Str.ofString "InvalidChange", c)) ⟨tx_ic, h⟩ ⟨tx_ic, h⟩
  rw [decide_eq_true rfl] at this
  exact this
theorem eq_sp {n : Str} {p : Plc} (hn : TxO n) (h : TxO p.1) : pyEq (dTup (dwC PyData.str (dw1 dPlc)) (n, p)) (dTup (dwC PyData.str (dw1 dPlc)) (n, p)) = some true := by
  have := (dt_tup (dw_C (dt_str.up (show 0 ≤ 2 by decide)) (dw_1 dt_plc))).eq (by decide) (x := (n, p)) (y := (n, p)) ⟨hn, h⟩ ⟨hn, h⟩
  rw [decide_eq_true rfl] at this
  exact this
theorem eq_to (r : Row × Row) : pyEq (dTup (dwC PyData.str (dw1 (dTup (dwC dRow (dw1 dRow))))) (Str.ofString "told", r)) (dTup (dwC PyData.str (dw1 (dTup (dwC dRow (dw1 dRow))))) (Str.ofString "told", r)) = some true := by
  have := (dt_tup (dw_C (dt_str.up (show 0 ≤ 2 by decide)) (dw_1 (dt_tup (dw_C dt_row (dw_1 dt_row)))))).eq (by decide) (x := (Str.ofString "told", r)) (y := (Str.ofString "told", r)) ⟨tx_to, trivial, trivial⟩ ⟨tx_to, trivial, trivial⟩
  rw [decide_eq_true rfl] at this
  exact this
/-! ### a good edit -/
theorem asked_in {l : List Ch} (g : Good l) {c : Ch} (hc : c ∈ l) : m_l_asked (pl l, srt l) (kOf c) = some (.inr (Str.ofString "told", c.2.2)) := by
  unfold m_l_asked m_Edit___getitem
  rw [letO_s, (getM_some g.nd).mpr ⟨hc, rfl⟩]
  rfl
theorem asked_out {l : List Ch} {p : Plc} (h : p ∉ l.map kOf) : m_l_asked (pl l, srt l) p = some (.inl (Str.ofString "NoChange", p)) := by
  have : (getM (pl l) p).isSome = false := by rw [getM_is]; exact decide_eq_false h
  unfold m_l_asked m_Edit___getitem
  rw [letO_s]
  dsimp only
  rw [this]
  rfl
theorem lst_eq {l : List Ch} (h : ∀ c ∈ l, TxO c.1) : pyEq (dLst dCh l) (dLst dCh l) = some true := by
  rw [(dt_lst dt_ch).eq (by decide) h h, decide_eq_true rfl]
def stP : List Plc := [(Str.ofString "a", [7, 7, 7]), (Str.ofString "ab", []), (Str.ofString "", [0]), (Str.ofString "b", [8])]
theorem st_out {p : Plc} (h : Pl p) : p ∉ stP := by
  intro hm
  have n1 : Str.ofString "a" ∉ FNs := by decide +kernel
  have n2 : Str.ofString "ab" ∉ FNs := by decide +kernel
  have n3 : Str.ofString "" ∉ NL ++ FNs := by decide +kernel
  have n4 : Str.ofString "b" ∉ FNs := by decide +kernel
  simp only [stP, List.mem_cons, List.not_mem_nil, or_false] at hm
  rcases hm with rfl | rfl | rfl | rfl
  · rcases h with h | h
    · exact h.2.1 (by simp)
    · exact n1 h
  · rcases h with h | h
    · exact h.2.2.2 rfl
    · exact n2 h
  · exact n3 (List.mem_append.mpr (h.imp (·.1) id))
  · rcases h with h | h
    · exact h.2.2.1 (by simp)
    · exact n4 h
theorem st_tx : ∀ p ∈ stP, TxO p.1 := fun p hp => by
  have : ∀ p ∈ stP, (p.1.cps.all fun c => decide (c < 0x110000)) = true := by decide +kernel
  exact lit_ok _ (this p hp)
theorem loop1_ok {l : List Ch} (g : Good l) : forL (m_l_right_b1 (pl l, srt l)) (srt l) () = some (.nx ()) := forL_same fun c hc => by
  have hm := (mem_srt g).mp hc
  unfold m_l_right_b1 m_Edit___contains
  show bindO (some (getM (pl l) (kOf c)).isSome) _ = _
  rw [(getM_some g.nd).mpr ⟨hm, rfl⟩, bindO_s, letO_s]
  show bindO (bindO (m_l_asked (pl l, srt l) (kOf c)) _) _ = _
  rw [asked_in g hm, bindO_s]
  show bindO (bindO (pyEq (dTup (dwC PyData.str (dw1 (dTup (dwC dRow (dw1 dRow))))) (Str.ofString "told", c.2.2)) (dTup (dwC PyData.str (dw1 (dTup (dwC dRow (dw1 dRow))))) (Str.ofString "told", c.2.2))) _) _ = _
  rw [eq_to, bindO_s]
  rfl
theorem loop2_ok {l : List Ch} (hp : ∀ c ∈ l, Pl (kOf c)) : forL (m_l_right_b2 (pl l, srt l)) stP () = some (.nx ()) := forL_same fun p hm => by
  have ho : p ∉ l.map kOf := fun z => by
    obtain ⟨c, hc, rfl⟩ := List.mem_map.mp z
    exact st_out (hp c hc) hm
  have : (getM (pl l) p).isSome = false := by rw [getM_is]; exact decide_eq_false ho
  unfold m_l_right_b2 m_Edit___contains
  show bindO (some (getM (pl l) p).isSome) _ = _
  rw [this, bindO_s, letO_s]
  show bindO (bindO (m_l_asked (pl l, srt l) p) _) _ = _
  rw [asked_out ho, bindO_s]
  show bindO (bindO (pyEq (dTup (dwC PyData.str (dw1 dPlc)) (Str.ofString "NoChange", p)) (dTup (dwC PyData.str (dw1 dPlc)) (Str.ofString "NoChange", p))) _) _ = _
  rw [eq_sp tx_nc (st_tx p hm), bindO_s]
  rfl
theorem pos_ok (n : Nat) : (!decide ((!decide ((n : Int) = 0)) = (decide ((0 : Int) < (n : Int))))) = false := by
  cases n with
  | zero => rfl
  | succ n =>
    rw [decide_eq_false (show ¬ (((n + 1 : Nat) : Int) = 0) by omega), decide_eq_true (show (0 : Int) < ((n + 1 : Nat) : Int) by omega)]; rfl
theorem lenOK_ok {n : Nat} (h : n < 64) : lenOK (n : Int) = some (n : Int) := by
  unfold lenOK
  rw [if_pos ⟨by omega, by omega⟩]
theorem ints_eq (xs : List Int) : pyEq (dLst PyData.int xs) (dLst PyData.int xs) = some true := by rw [(dt_lst dt_int).eq (by decide) (fun _ _ => trivial) fun _ _ => trivial, decide_eq_true rfl]
theorem right_ok {l : List Ch} (g : Good l) (hp : ∀ c ∈ l, Pl (kOf c)) : m_l_right (pl l, srt l) (srt l) = some true := by
  have tx : ∀ c ∈ srt l, TxO c.1 := fun c hc => g.tx c ((mem_srt g).mp hc)
  have hlen : (srt l).length < 64 := by
    have := congrArg List.length (srt_keys g)
    rw [List.length_map, (oP.sort_perm _).length_eq, List.length_map] at this
    rw [this]; exact g.len
  have c1 : ∃ a, compL m_Edit_deletes_c1 (srt l) = some a := ⟨_, compL_fm (g := fun c : Ch => if c.2.2.2.isNone = true then some c else none) fun c _ => by
    unfold m_Edit_deletes_c1; rw [letO_s]; cases c.2.2.2.isNone <;> rfl⟩
  obtain ⟨a, c1⟩ := c1
  have c2 : ∃ a, compL m_Edit_inserts_c1 (srt l) = some a := ⟨_, compL_fm (g := fun c : Ch => if c.2.2.1.isNone = true then some c else none) fun c _ => by
    unfold m_Edit_inserts_c1; rw [letO_s]; cases c.2.2.1.isNone <;> rfl⟩
  obtain ⟨b, c2⟩ := c2
  have d1 : m_Edit_deletes (pl l, srt l) = some (a.length : Int) := by unfold m_Edit_deletes; rw [c1, bindO_s]
  have d2 : m_Edit_inserts (pl l, srt l) = some (b.length : Int) := by unfold m_Edit_inserts; rw [c2, bindO_s]
  have d3 : m_Edit_sets (pl l, srt l) = some ((((srt l).length : Int) - (a.length : Int)) - (b.length : Int)) := by unfold m_Edit_sets; rw [d1, bindO_s, d2, bindO_s]
  have c1' : compL m_l_right_c1 (srt l) = some a := c1
  have c2' : compL m_l_right_c2 (srt l) = some b := c2
  have q1 := lst_eq tx
  have q3 := lenOK_ok hlen
  have q4 : m_Edit___len (pl l, srt l) = some ((srt l).length : Int) := rfl
  have q5 := pos_ok (srt l).length
  have f1 := loop1_ok g
  have f2 := loop2_ok hp
  unfold m_l_right
  rw [letO_s]
  dsimp only
  rw [show (!true) = false from rfl, iteO_F]
  show bindO (bindO (pyEq (dLst dCh (srt l)) (dLst dCh (srt l))) _) _ = _
  rw [q1]
  rw [bindO_s, bindO_s, letO_s, show (!true) = false from rfl, iteO_F, d1, bindO_s, d2, bindO_s, d3, bindO_s, letO_s, c1', bindO_s, letO_s, c2', bindO_s, letO_s, ints_eq, bindO_s, letO_s, show (!true) = false from rfl, iteO_F, q4, bindO_s, q3, bindO_s, decide_eq_true rfl, show (!true) = false from rfl, bindO_s, letO_s, iteO_F, bindO_s, q3, bindO_s, letO_s, q5, iteO_F, f1, bindO_s, stepO_N]
  show bindO (forL (m_l_right_b2 (pl l, srt l)) stP ()) _ = _
  rw [f2]
  rfl
theorem srt_nil : srt [] = [] := by
  unfold srt
  rw [show (([] : List Ch).map kOf) = [] from rfl, show oP.sort [] = [] by unfold Ord.sort; exact List.mergeSort_nil]
  rfl
theorem cut_last (l : List Ch) : cut l none (some (-(1 : Int))) = l.dropLast := by
  unfold cut
  rw [List.dropLast_eq_take, HT.sIx_none, List.drop_zero, Nat.sub_zero]
  congr 1
  show (if (-(1 : Int)) < 0 then (-(1 : Int) + (l.length : Int)).toNat else min (-(1 : Int)).toNat l.length) = _
  rw [if_pos (by decide)]
  omega
/-- the three questions at the end -/
theorem nothing_ok : (bindO (m_Edit___init___Vk ([] : (List Ch))) fun o53 => bindO (m_Edit___len o53) fun n54 => bindO (lenOK n54) fun k55 => letO ((decide (k55 = (0 : Int)))) fun c64 => bindO (iteO c64 (bindO (m_Edit___init___Vk ([] : (List Ch))) fun o56 => bindO (pyEq ((dTpl dCh) o56.2) ((dTup dw0) ())) fun q57 => letO (q57) fun c62 => bindO (iteO c62 (bindO (m_Edit___init___Vk ([] : (List Ch))) fun o58 => bindO (m_Edit___len o58) fun n59 => bindO (lenOK n59) fun k60 => some (decide (k60 = 0))) (some false)) fun b61 => some b61) (some false)) fun b63 => some b63) = some true := by
  have z3 : pyEq (dTpl dCh (srt [])) ((dTup dw0) ()) = some true := by
    rw [srt_nil]
    have := (dt_tpl dt_ch).eq (by decide) (x := []) (y := []) (fun _ z => nomatch z) fun _ z => nomatch z
    rw [decide_eq_true rfl] at this
    exact this
  have e1 : m_Edit___len (pl [], srt []) = some 0 := by unfold m_Edit___len; rw [srt_nil]; rfl
  have e2 : lenOK 0 = some 0 := rfl
  simp only [init_nil, bindO_s, e1, e2, letO_s, decide_true, iteO_T]
  rw [z3]
  rfl
theorem law_true (ns : List Int) (h : ns.length ≤ 63) : m_law ns = some true := by
  unfold m_law
  obtain ⟨st, e, hi⟩ := start_ok ns h
  obtain ⟨l, s1, e1, hp, len1⟩ := changes_ok hi (by omega)
  have tx : ∀ c ∈ l, TxO c.1 := fun c hc => (hp c hc).tx
  have d1 := due_res tx (by omega)
  have m1 := made_res tx (by omega)
  have q0 := lst_eq tx
  simp only [e, letO_s, e1, bindO_s, d1, m1]
  rw [q0]
  simp only [bindO_s]
  cases hf : flt [] l with
  | some z =>
    have b1 := base_res tx (by omega) hf
    obtain ⟨x1, x2⟩ := flt_tx tx hf
    cases z with
    | inl c =>
      dsimp only [erM, erD, altO]
      simp only [decide_true, Bool.not_true, Bool.or_self, iteO_F]
      simp only [show ((Str.ofString "InvalidChange") = (Str.ofString "made")) = False from eq_false (by decide +kernel), decide_false, Bool.not_false, iteO_T]
      dsimp only [dropR]
      rw [bindO_s]
      show bindO (pyEq (dTup (dwC PyData.str (dw1 dCh)) (Str.ofString "InvalidChange", c)) (dTup (dwC PyData.str (dw1 dCh)) (Str.ofString "InvalidChange", c))) _ = _
      rw [eq_ic (x1 c rfl), bindO_s, b1]
      rfl
    | inr p =>
      dsimp only [erM, erD, altO]
      simp only [decide_true, Bool.not_true, Bool.or_self, iteO_F]
      simp only [show ((Str.ofString "SamePlace") = (Str.ofString "made")) = False from eq_false (by decide +kernel), decide_false, Bool.not_false, iteO_T]
      dsimp only [dropR]
      rw [bindO_s]
      show bindO (pyEq (dTup (dwC PyData.str (dw1 dPlc)) (Str.ofString "SamePlace", p)) (dTup (dwC PyData.str (dw1 dPlc)) (Str.ofString "SamePlace", p))) _ = _
      rw [eq_sp tx_sp (x2 p rfl), bindO_s, b1]
      rfl
  | none =>
    obtain ⟨a, b⟩ := (flt_none (acc := []) List.nodup_nil).mp hf
    have g : Good l := ⟨tx, a, b, by omega⟩
    have gr : Good l.reverse := ⟨fun c hc => tx c (List.mem_reverse.mp hc), fun c hc => a c (List.mem_reverse.mp hc), by rw [List.map_reverse]; exact (List.reverse_perm _).nodup_iff.mpr b, by rw [List.length_reverse]; omega⟩
    have r1 := right_ok g hp
    have i1 : m_Edit___init___Vt l.reverse = some (.ok (pl l.reverse, srt l.reverse)) := by rw [init_Vt]; exact init_ok gr
    have s1 : sub l.reverse l = true := decide_eq_true fun c hc => List.mem_reverse.mp hc
    have s2 : sub l l.reverse = true := decide_eq_true fun c hc => List.mem_reverse.mpr hc
    have q1 := eq_ok gr g
    rw [s1, s2] at q1
    have q1 : m_Edit___eq (pl l.reverse, srt l.reverse) (pl l, srt l) = some true := q1
    have q2 : m_Edit___eq___Vt (pl l.reverse, srt l.reverse) (srt l.reverse) = some false := rfl
    dsimp only [altO]
    simp only [decide_true, Bool.not_true, Bool.or_self, iteO_F]
    simp only [altR, bindO_s, r1, Bool.not_true, iteO_F, i1, okR, q1, q2]
    cases hl : decide ((0 : Int) < (l.length : Int)) with
    | false => rw [iteO_F]; exact nothing_ok
    | true =>
      rw [iteO_T]
      have hpos : 0 < l.length := by have := of_decide_eq_true hl; omega
      have hne : l ≠ [] := fun z => by rw [z] at hpos; exact absurd hpos (by decide)
      have gd : Good l.dropLast := g.sub (List.dropLast_sublist l)
      have i2 := init_ok gd
      rw [cut_last, i2, bindO_s]
      dsimp only [okR]
      rw [bindO_s]
      have s3 : sub l l.dropLast = false := decide_eq_false fun z => by
        have h1 := z (l.getLast hne) (List.getLast_mem hne)
        have nd : l.Nodup := List.Pairwise.of_map kOf (fun _ _ h e => h (congrArg kOf e)) b
        rw [← List.dropLast_concat_getLast hne] at nd
        exact (nodup_snoc.mp nd).2 h1
      have q3 := eq_ok gd g
      rw [s3, Bool.and_false] at q3
      rw [q3, bindO_s]
      simp only [iteO_F, bindO_s, Bool.not_false, Bool.not_true]
      exact nothing_ok
end Law

set_option maxHeartbeats 4000000
namespace Law
open PySem PySem.Spec PyProof.Rows L2 G
abbrev topS (i : Nat) : Stmt := PySem.Challenge.pw_shownwrites_k10_edit_changes.main.body.getD i (.Pass ⟨0, 0, 0, 0⟩)
abbrev s_placed_changes : Stmt := topS 8
abbrev N_placed_changes : List Str := ["changes", "placed", "change", "name", "key", "before", "after"]
theorem sc_placed_changes : FnScope N_placed_changes ["changes"] (defScope s_placed_changes) := ⟨rfl, rfl, rfl, by decide +kernel, rfl, by decide +kernel, by decide +kernel⟩
abbrev s_Edit___init : Stmt := inClass (topS 10) 0
abbrev N_Edit___init : List Str := ["self", "changes", "place"]
theorem sc_Edit___init : FnScope N_Edit___init ["self", "changes"] (defScope s_Edit___init) := ⟨rfl, rfl, rfl, by decide +kernel, rfl, by decide +kernel, by decide +kernel⟩
abbrev s_Edit___contains : Stmt := inClass (topS 10) 6
abbrev N_Edit___contains : List Str := ["self", "x"]
theorem sc_Edit___contains : FnScope N_Edit___contains ["self", "x"] (defScope s_Edit___contains) := ⟨rfl, rfl, rfl, by decide +kernel, rfl, by decide +kernel, by decide +kernel⟩
abbrev s_Edit___getitem : Stmt := inClass (topS 10) 7
abbrev N_Edit___getitem : List Str := ["self", "at", "change"]
theorem sc_Edit___getitem : FnScope N_Edit___getitem ["self", "at"] (defScope s_Edit___getitem) := ⟨rfl, rfl, rfl, by decide +kernel, rfl, by decide +kernel, by decide +kernel⟩
abbrev s_Edit___eq : Stmt := inClass (topS 10) 3
abbrev N_Edit___eq : List Str := ["self", "other"]
theorem sc_Edit___eq : FnScope N_Edit___eq ["self", "other"] (defScope s_Edit___eq) := ⟨rfl, rfl, rfl, by decide +kernel, rfl, by decide +kernel, by decide +kernel⟩
abbrev s_Edit___len : Stmt := inClass (topS 10) 4
abbrev N_Edit___len : List Str := ["self"]
theorem sc_Edit___len : FnScope N_Edit___len ["self"] (defScope s_Edit___len) := ⟨rfl, rfl, rfl, by decide +kernel, rfl, by decide +kernel, by decide +kernel⟩
abbrev s_Edit_deletes : Stmt := inClass (topS 10) 8
abbrev N_Edit_deletes : List Str := ["self", "change"]
theorem sc_Edit_deletes : FnScope N_Edit_deletes ["self"] (defScope s_Edit_deletes) := ⟨rfl, rfl, rfl, by decide +kernel, rfl, by decide +kernel, by decide +kernel⟩
abbrev s_Edit_inserts : Stmt := inClass (topS 10) 9
abbrev N_Edit_inserts : List Str := ["self", "change"]
theorem sc_Edit_inserts : FnScope N_Edit_inserts ["self"] (defScope s_Edit_inserts) := ⟨rfl, rfl, rfl, by decide +kernel, rfl, by decide +kernel, by decide +kernel⟩
abbrev s_Edit_sets : Stmt := inClass (topS 10) 10
abbrev N_Edit_sets : List Str := ["self"]
theorem sc_Edit_sets : FnScope N_Edit_sets ["self"] (defScope s_Edit_sets) := ⟨rfl, rfl, rfl, by decide +kernel, rfl, by decide +kernel, by decide +kernel⟩
abbrev s_l_start : Stmt := topS 12
abbrev N_l_start : List Str := ["_law_script", "_law_first"]
theorem sc_l_start : FnScope N_l_start ["_law_script"] (defScope s_l_start) := ⟨rfl, rfl, rfl, by decide +kernel, rfl, by decide +kernel, by decide +kernel⟩
abbrev s_l_draw : Stmt := topS 13
abbrev N_l_draw : List Str := ["_law_state", "_law_many", "_law_drawn", "_law_seed", "_law_mixed"]
theorem sc_l_draw : FnScope N_l_draw ["_law_state", "_law_many"] (defScope s_l_draw) := ⟨rfl, rfl, rfl, by decide +kernel, rfl, by decide +kernel, by decide +kernel⟩
abbrev s_l_row : Stmt := topS 14
abbrev N_l_row : List Str := ["_law_state", "_law_size", "_law_k"]
theorem sc_l_row : FnScope N_l_row ["_law_state"] (defScope s_l_row) := ⟨rfl, rfl, rfl, by decide +kernel, rfl, by decide +kernel, by decide +kernel⟩
abbrev s_l_place : Stmt := topS 15
abbrev N_l_place : List Str := ["_law_state", "_law_name", "_law_size", "_law_k"]
theorem sc_l_place : FnScope N_l_place ["_law_state"] (defScope s_l_place) := ⟨rfl, rfl, rfl, by decide +kernel, rfl, by decide +kernel, by decide +kernel⟩
abbrev s_l_changes : Stmt := topS 16
abbrev N_l_changes : List Str := ["_law_state", "_law_found", "_law_k", "_law_kind", "_law_place_here", "_law_before", "_law_after", "_law_change"]
theorem sc_l_changes : FnScope N_l_changes ["_law_state"] (defScope s_l_changes) := ⟨rfl, rfl, rfl, by decide +kernel, rfl, by decide +kernel, by decide +kernel⟩
abbrev s_l_due : Stmt := topS 17
abbrev q_l_due : Str := ("_law_due" : Str) ++ ".<locals>." ++ "<lambda>"
abbrev N_l_due : List Str := ["_law_moves", "_law_k", "_law_change"]
theorem sc_l_due : FnScope N_l_due ["_law_moves"] (defScope s_l_due) := ⟨rfl, rfl, rfl, by decide +kernel, rfl, by decide +kernel, by decide +kernel⟩
abbrev s_l_made : Stmt := topS 18
abbrev N_l_made : List Str := ["_law_moves", "_law_caught", "_law_edit", "e"]
theorem sc_l_made : FnScope N_l_made ["_law_moves"] (defScope s_l_made) := ⟨rfl, rfl, rfl, by decide +kernel, rfl, by decide +kernel, by decide +kernel⟩
abbrev s_l_base_caught : Stmt := topS 19
abbrev N_l_base_caught : List Str := ["_law_moves", "_law_caught", "e"]
theorem sc_l_base_caught : FnScope N_l_base_caught ["_law_moves"] (defScope s_l_base_caught) := ⟨rfl, rfl, rfl, by decide +kernel, rfl, by decide +kernel, by decide +kernel⟩
abbrev s_l_asked : Stmt := topS 20
abbrev N_l_asked : List Str := ["_law_edit", "_law_place_here", "_law_caught", "_law_found", "e"]
theorem sc_l_asked : FnScope N_l_asked ["_law_edit", "_law_place_here"] (defScope s_l_asked) := ⟨rfl, rfl, rfl, by decide +kernel, rfl, by decide +kernel, by decide +kernel⟩
abbrev s_l_right : Stmt := topS 21
abbrev N_l_right : List Str := ["_law_edit", "_law_due_here", "_law_counts", "_law_deletes", "_law_inserts", "_law_change", "_law_place_here"]
theorem sc_l_right : FnScope N_l_right ["_law_edit", "_law_due_here"] (defScope s_l_right) := ⟨rfl, rfl, rfl, by decide +kernel, rfl, by decide +kernel, by decide +kernel⟩
abbrev s_law : Stmt := topS 22
abbrev N_law : List Str := ["_law_script", "_law_state", "_law_moves", "_law_due_here", "_law_given", "_law_answer", "_law_other", "_law_less"]
theorem sc_law : FnScope N_law ["_law_script"] (defScope s_law) := ⟨rfl, rfl, rfl, by decide +kernel, rfl, by decide +kernel, by decide +kernel⟩
abbrev s_e_InvalidChange : Stmt := inClass (topS 3) 0
theorem sc_e_InvalidChange : FnScope ["self", "change"] ["self", "change"] (defScope s_e_InvalidChange) := ⟨rfl, rfl, rfl, by decide +kernel, rfl, by decide +kernel, by decide +kernel⟩
abbrev s_e_NoChange : Stmt := inClass (topS 6) 0
theorem sc_e_NoChange : FnScope ["self", "place"] ["self", "place"] (defScope s_e_NoChange) := ⟨rfl, rfl, rfl, by decide +kernel, rfl, by decide +kernel, by decide +kernel⟩
abbrev s_e_SamePlace : Stmt := inClass (topS 4) 0
theorem sc_e_SamePlace : FnScope ["self", "place"] ["self", "place"] (defScope s_e_SamePlace) := ⟨rfl, rfl, rfl, by decide +kernel, rfl, by decide +kernel, by decide +kernel⟩
structure Ad where
  f_placed_changes : Addr
  d_placed_changes : FuncData
  f_Edit___init : Addr
  d_Edit___init : FuncData
  f_Edit___contains : Addr
  d_Edit___contains : FuncData
  f_Edit___getitem : Addr
  d_Edit___getitem : FuncData
  f_Edit___eq : Addr
  d_Edit___eq : FuncData
  f_Edit___len : Addr
  d_Edit___len : FuncData
  f_Edit_deletes : Addr
  d_Edit_deletes : FuncData
  f_Edit_inserts : Addr
  d_Edit_inserts : FuncData
  f_Edit_sets : Addr
  d_Edit_sets : FuncData
  f_l_start : Addr
  d_l_start : FuncData
  f_l_draw : Addr
  d_l_draw : FuncData
  f_l_row : Addr
  d_l_row : FuncData
  f_l_place : Addr
  d_l_place : FuncData
  f_l_changes : Addr
  d_l_changes : FuncData
  f_l_due : Addr
  d_l_due : FuncData
  f_l_made : Addr
  d_l_made : FuncData
  f_l_base_caught : Addr
  d_l_base_caught : FuncData
  f_l_asked : Addr
  d_l_asked : FuncData
  f_l_right : Addr
  d_l_right : FuncData
  f_law : Addr
  d_law : FuncData
  e_Edit___init_0 : Addr
  z_Edit___init_0 : List Value
  z_Edit___init_1 : List Value
  p_Edit_deletes : Addr
  p_Edit_inserts : Addr
  p_Edit_sets : Addr
  c_l_due : Addr
  P_l_due : Addr
  C_InvalidChange : Addr
  C_SamePlace : Addr
  C_Edit : Addr
  C_NoChange : Addr
  C_ShownError : Addr
  C_Clash : Addr
  f_e_InvalidChange : Addr
  d_e_InvalidChange : FuncData
  f_e_NoChange : Addr
  d_e_NoChange : FuncData
  f_e_SamePlace : Addr
  d_e_SamePlace : FuncData
structure Txt [TabL] (K : PySem.W.Frag) (mg : Str → Option Value) (base : Heap) (a : Ad) : Prop where
  F_placed_changes : Fun K "placed_changes" "placed_changes" s_placed_changes a.f_placed_changes a.d_placed_changes
  g_placed_changes : mg "placed_changes" = some (.ref a.f_placed_changes)
  n_placed_changes : Binds K a.d_placed_changes ["changes"] []
  F_Edit___init : FunD K "__init__" "Edit.__init__" (defArgs s_Edit___init) (defBody s_Edit___init) (defScope s_Edit___init) [V.ref a.e_Edit___init_0] [] a.f_Edit___init a.d_Edit___init
  t_Edit___init_0 : EmpT K a.e_Edit___init_0
  n_Edit___init_0 : Binds K a.d_Edit___init ["self", "changes"] a.z_Edit___init_0
  v_Edit___init_0 : Vals [V.ref a.e_Edit___init_0] a.z_Edit___init_0
  n_Edit___init_1 : Binds K a.d_Edit___init ["self", "changes"] a.z_Edit___init_1
  v_Edit___init_1 : Vals [] a.z_Edit___init_1
  F_Edit___contains : Fun K "__contains__" "Edit.__contains__" s_Edit___contains a.f_Edit___contains a.d_Edit___contains
  n_Edit___contains : Binds K a.d_Edit___contains ["self", "x"] []
  F_Edit___getitem : Fun K "__getitem__" "Edit.__getitem__" s_Edit___getitem a.f_Edit___getitem a.d_Edit___getitem
  n_Edit___getitem : Binds K a.d_Edit___getitem ["self", "at"] []
  F_Edit___eq : Fun K "__eq__" "Edit.__eq__" s_Edit___eq a.f_Edit___eq a.d_Edit___eq
  n_Edit___eq : Binds K a.d_Edit___eq ["self", "other"] []
  F_Edit___len : Fun K "__len__" "Edit.__len__" s_Edit___len a.f_Edit___len a.d_Edit___len
  n_Edit___len : Binds K a.d_Edit___len ["self"] []
  F_Edit_deletes : Fun K "deletes" "Edit.deletes" s_Edit_deletes a.f_Edit_deletes a.d_Edit_deletes
  n_Edit_deletes : Binds K a.d_Edit_deletes ["self"] []
  F_Edit_inserts : Fun K "inserts" "Edit.inserts" s_Edit_inserts a.f_Edit_inserts a.d_Edit_inserts
  n_Edit_inserts : Binds K a.d_Edit_inserts ["self"] []
  F_Edit_sets : Fun K "sets" "Edit.sets" s_Edit_sets a.f_Edit_sets a.d_Edit_sets
  n_Edit_sets : Binds K a.d_Edit_sets ["self"] []
  F_l_start : Fun K "_law_start" "_law_start" s_l_start a.f_l_start a.d_l_start
  g_l_start : mg "_law_start" = some (.ref a.f_l_start)
  n_l_start : Binds K a.d_l_start ["_law_script"] []
  F_l_draw : Fun K "_law_draw" "_law_draw" s_l_draw a.f_l_draw a.d_l_draw
  g_l_draw : mg "_law_draw" = some (.ref a.f_l_draw)
  n_l_draw : Binds K a.d_l_draw ["_law_state", "_law_many"] []
  F_l_row : Fun K "_law_row" "_law_row" s_l_row a.f_l_row a.d_l_row
  g_l_row : mg "_law_row" = some (.ref a.f_l_row)
  n_l_row : Binds K a.d_l_row ["_law_state"] []
  F_l_place : Fun K "_law_place" "_law_place" s_l_place a.f_l_place a.d_l_place
  g_l_place : mg "_law_place" = some (.ref a.f_l_place)
  n_l_place : Binds K a.d_l_place ["_law_state"] []
  F_l_changes : Fun K "_law_changes" "_law_changes" s_l_changes a.f_l_changes a.d_l_changes
  g_l_changes : mg "_law_changes" = some (.ref a.f_l_changes)
  n_l_changes : Binds K a.d_l_changes ["_law_state"] []
  F_l_due : Fun K "_law_due" "_law_due" s_l_due a.f_l_due a.d_l_due
  g_l_due : mg "_law_due" = some (.ref a.f_l_due)
  n_l_due : Binds K a.d_l_due ["_law_moves"] []
  F_l_made : Fun K "_law_made" "_law_made" s_l_made a.f_l_made a.d_l_made
  g_l_made : mg "_law_made" = some (.ref a.f_l_made)
  n_l_made : Binds K a.d_l_made ["_law_moves"] []
  F_l_base_caught : Fun K "_law_base_caught" "_law_base_caught" s_l_base_caught a.f_l_base_caught a.d_l_base_caught
  g_l_base_caught : mg "_law_base_caught" = some (.ref a.f_l_base_caught)
  n_l_base_caught : Binds K a.d_l_base_caught ["_law_moves"] []
  F_l_asked : Fun K "_law_asked" "_law_asked" s_l_asked a.f_l_asked a.d_l_asked
  g_l_asked : mg "_law_asked" = some (.ref a.f_l_asked)
  n_l_asked : Binds K a.d_l_asked ["_law_edit", "_law_place_here"] []
  F_l_right : Fun K "_law_right" "_law_right" s_l_right a.f_l_right a.d_l_right
  g_l_right : mg "_law_right" = some (.ref a.f_l_right)
  n_l_right : Binds K a.d_l_right ["_law_edit", "_law_due_here"] []
  F_law : Fun K "law" "law" s_law a.f_law a.d_law
  g_law : mg "law" = some (.ref a.f_law)
  n_law : Binds K a.d_law ["_law_script"] []
  hc_l_due : a.d_l_due.code = .ref a.c_l_due
  tb_l_due : LamX.TabB base mg a.c_l_due a.P_l_due
  hT_l_due : (a.P_l_due, q_l_due) ∈ TabL.T
  hu_l_due : ∀ r, (a.P_l_due, r) ∈ TabL.T → r = q_l_due
  b_ValueError : mg "ValueError" = none
  b_bool : mg "bool" = none
  b_int : mg "int" = none
  b_isinstance : mg "isinstance" = none
  b_len : mg "len" = none
  b_list : mg "list" = none
  b_range : mg "range" = none
  b_sorted : mg "sorted" = none
  b_str : mg "str" = none
  b_tuple : mg "tuple" = none
  g_InvalidChange : mg "InvalidChange" = some (.ref a.C_InvalidChange)
  g_SamePlace : mg "SamePlace" = some (.ref a.C_SamePlace)
  g_Edit : mg "Edit" = some (.ref a.C_Edit)
  cl_Edit : Cls K a.C_Edit
  na_Edit__placed : NoAttr K a.C_Edit "_placed"
  na_Edit_changes : NoAttr K a.C_Edit "changes"
  g_NoChange : mg "NoChange" = some (.ref a.C_NoChange)
  ct_Edit : ClsT K a.C_Edit
  q_Edit_Edit : PySem.W.kitOne K (.ref a.C_Edit) (.ref a.C_Edit) = some true
  q_tuple_Edit : PySem.W.kitOne K (.type "tuple") (.ref a.C_Edit) = some false
  pr_Edit_deletes : PropOf K a.C_Edit "deletes" a.p_Edit_deletes a.f_Edit_deletes
  pr_Edit_inserts : PropOf K a.C_Edit "inserts" a.p_Edit_inserts a.f_Edit_inserts
  M_Edit : Mk K a.C_Edit a.f_Edit___init
  e_InvalidChange_InvalidChange : PySem.W.exmOne K (.ref a.C_InvalidChange) (.ref a.C_InvalidChange) = some true
  xf_InvalidChange : XfC K a.C_InvalidChange
  na_InvalidChange_change : PySem.W.findIn K (.ref a.C_InvalidChange) "change" = some none
  e_SamePlace_InvalidChange : PySem.W.exmOne K (.ref a.C_SamePlace) (.ref a.C_InvalidChange) = some false
  e_SamePlace_SamePlace : PySem.W.exmOne K (.ref a.C_SamePlace) (.ref a.C_SamePlace) = some true
  xf_SamePlace : XfC K a.C_SamePlace
  na_SamePlace_place : PySem.W.findIn K (.ref a.C_SamePlace) "place" = some none
  g_ShownError : mg "ShownError" = some (.ref a.C_ShownError)
  e_InvalidChange_ShownError : PySem.W.exmOne K (.ref a.C_InvalidChange) (.ref a.C_ShownError) = some true
  xc_InvalidChange : ExcC K a.C_InvalidChange
  q_InvalidChange_ValueError : PySem.W.kitOne K (.ref a.C_InvalidChange) (.type "ValueError") = some true
  g_Clash : mg "Clash" = some (.ref a.C_Clash)
  q_InvalidChange_Clash : PySem.W.kitOne K (.ref a.C_InvalidChange) (.ref a.C_Clash) = some false
  q_InvalidChange_NoChange : PySem.W.kitOne K (.ref a.C_InvalidChange) (.ref a.C_NoChange) = some false
  e_SamePlace_ShownError : PySem.W.exmOne K (.ref a.C_SamePlace) (.ref a.C_ShownError) = some true
  xc_SamePlace : ExcC K a.C_SamePlace
  q_SamePlace_ValueError : PySem.W.kitOne K (.ref a.C_SamePlace) (.type "ValueError") = some true
  q_SamePlace_Clash : PySem.W.kitOne K (.ref a.C_SamePlace) (.ref a.C_Clash) = some false
  q_SamePlace_NoChange : PySem.W.kitOne K (.ref a.C_SamePlace) (.ref a.C_NoChange) = some false
  me_Edit___getitem : Meth K a.C_Edit "__getitem__" a.f_Edit___getitem
  fi_Edit___getitem : PySem.W.fnIn K a.f_Edit___getitem = true
  e_NoChange_NoChange : PySem.W.exmOne K (.ref a.C_NoChange) (.ref a.C_NoChange) = some true
  xf_NoChange : XfC K a.C_NoChange
  na_NoChange_place : PySem.W.findIn K (.ref a.C_NoChange) "place" = some none
  pr_Edit_sets : PropOf K a.C_Edit "sets" a.p_Edit_sets a.f_Edit_sets
  me_Edit___len : Meth K a.C_Edit "__len__" a.f_Edit___len
  nb_Edit : PySem.W.findIn K (.ref a.C_Edit) "__bool__" = some none
  me_Edit___contains : Meth K a.C_Edit "__contains__" a.f_Edit___contains
  me_Edit___eq : Meth K a.C_Edit "__eq__" a.f_Edit___eq
  nf_Edit_Edit : PySem.W.notFirst K a.C_Edit (.ref a.C_Edit) = true
  nn_Edit : NoNe K a.C_Edit
  nf_Edit_tuple : PySem.W.notFirst K a.C_Edit (.type "tuple") = true
  x_InvalidChange : OexC K a.C_InvalidChange
  i_InvalidChange : PySem.W.findIn K (.ref a.C_InvalidChange) "__init__" = some (some (.ref a.f_e_InvalidChange))
  t_InvalidChange : PySem.W.typeIn K (.ref a.f_e_InvalidChange) = some (.type "function")
  F_e_InvalidChange : Fun K "__init__" "InvalidChange.__init__" s_e_InvalidChange a.f_e_InvalidChange a.d_e_InvalidChange
  n_e_InvalidChange : Binds K a.d_e_InvalidChange ["self", "change"] []
  x_NoChange : OexC K a.C_NoChange
  i_NoChange : PySem.W.findIn K (.ref a.C_NoChange) "__init__" = some (some (.ref a.f_e_NoChange))
  t_NoChange : PySem.W.typeIn K (.ref a.f_e_NoChange) = some (.type "function")
  F_e_NoChange : Fun K "__init__" "NoChange.__init__" s_e_NoChange a.f_e_NoChange a.d_e_NoChange
  n_e_NoChange : Binds K a.d_e_NoChange ["self", "place"] []
  x_SamePlace : OexC K a.C_SamePlace
  i_SamePlace : PySem.W.findIn K (.ref a.C_SamePlace) "__init__" = some (some (.ref a.f_e_SamePlace))
  t_SamePlace : PySem.W.typeIn K (.ref a.f_e_SamePlace) = some (.type "function")
  F_e_SamePlace : Fun K "__init__" "SamePlace.__init__" s_e_SamePlace a.f_e_SamePlace a.d_e_SamePlace
  n_e_SamePlace : Binds K a.d_e_SamePlace ["self", "place"] []
section
variable [TabL] {P : Program} {w : World} {K : PySem.W.Frag} {mg : Str → Option Value} {base : Heap} {a : Ad}
theorem ok_e_InvalidChange (T : Txt K mg base a) : FnOk P w K mg base CX0 1 a.f_e_InvalidChange a.d_e_InvalidChange ["self", "change"] (SpE1 a.C_InvalidChange "change") := okE1 T.F_e_InvalidChange sc_e_InvalidChange T.x_InvalidChange T.na_InvalidChange_change rfl rfl rfl (Or.inl rfl) (Or.inl rfl) (by decide) (by decide) rfl
theorem ok_e_NoChange (T : Txt K mg base a) : FnOk P w K mg base CX0 1 a.f_e_NoChange a.d_e_NoChange ["self", "place"] (SpE1 a.C_NoChange "place") := okE1 T.F_e_NoChange sc_e_NoChange T.x_NoChange T.na_NoChange_place rfl rfl rfl (Or.inl rfl) (Or.inl rfl) (by decide) (by decide) rfl
theorem ok_e_SamePlace (T : Txt K mg base a) : FnOk P w K mg base CX0 1 a.f_e_SamePlace a.d_e_SamePlace ["self", "place"] (SpE1 a.C_SamePlace "place") := okE1 T.F_e_SamePlace sc_e_SamePlace T.x_SamePlace T.na_SamePlace_place rfl rfl rfl (Or.inl rfl) (Or.inl rfl) (by decide) (by decide) rfl
theorem ok_placed_changes (T : Txt K mg base a) : FnOk P w K mg base (L2.CX P w) 3 a.f_placed_changes a.d_placed_changes ["changes"] (SpX (erS (erC a.C_InvalidChange [("change" : Str)] (w1 (rOb (cTup (wC rStr (wC (rOb (cTpl rInt)) (wC (rOpt (rOb (cTpl rInt))) (w1 (rOpt (rOb (cTpl rInt))))))))))) (erC a.C_SamePlace [("place" : Str)] (w1 (rOb (cTup (wC rStr (w1 (rOb (cTpl rInt))))))))) (w1 (rOb (cLst (rOb (cTup (wC rStr (wC (rOb (cTpl rInt)) (wC (rOpt (rOb (cTpl rInt))) (w1 (rOpt (rOb (cTpl rInt)))))))))))) (rDicN P w kyPlc (rOb (cTup (wC rStr (wC (rOb (cTpl rInt)) (wC (rOpt (rOb (cTpl rInt))) (w1 (rOpt (rOb (cTpl rInt)))))))))) (fun x => m_placed_changes x)) := by
  refine T.F_placed_changes.okX sc_placed_changes (fun vs H Q E h => ?_) (fun cdv A outer s H vs Q E hr h => ?_)
  · obtain ⟨B, x, b, z, sm, hw, h, kr, ke⟩ := h
    rw [WLen.len hw]; rfl
  · obtain ⟨B, changes0, b, z, sm, hw, h, kr, ke⟩ := h
    have h : m_placed_changes changes0 = some b := h
    refine ⟨_, (pss_cons (ps_set (i := 1) sc_placed_changes.nd rfl (by first | exact Or.inl rfl | exact Or.inr rfl) (dnewK (P := P) (w := w) rfl rfl)) (pss_cons (ps_for (passes_of rfl) rfl (pi_list (pv 0)) (pg_name (i := 2) sc_placed_changes.nd rfl (by first | exact Or.inl rfl | exact Or.inr rfl)) (pss_cons (ps_asg (pv 2) (pg_tupK (K := K) rfl 4 rfl (pgs_cons (pg_name (i := 3) sc_placed_changes.nd rfl (by first | exact Or.inl rfl | exact Or.inr rfl)) (pgs_cons (pg_name (i := 4) sc_placed_changes.nd rfl (by first | exact Or.inl rfl | exact Or.inr rfl)) (pgs_cons (pg_name (i := 5) sc_placed_changes.nd rfl (by first | exact Or.inl rfl | exact Or.inr rfl)) (pgs_cons (pg_name (i := 6) sc_placed_changes.nd rfl (by first | exact Or.inl rfl | exact Or.inr rfl)) pgs_nil)))))) (pss_cons (ps_if (pt_cmpR (eqDK (K := K) rfl hr.units) (pv 5) (pv 6) (nomark _)) (pss_cons (ps_raise rfl (takes_of rfl rfl rfl rfl) (pmk_oex T.x_InvalidChange T.i_InvalidChange T.t_InvalidChange (ok_e_InvalidChange T) (hr.mono (by decide)) T.n_e_InvalidChange .nil pass0 rfl T.g_InvalidChange (pa_cons (pv 2) pa_nil))) pss_nil) pss_nil) (pss_cons (ps_if (pt_cmp (ninK (P := P) (w := w) rfl rfl hr.units8 (pe_tup (pa_cons (pv 3) (pa_cons (pv 4) pa_nil))) (pv 1))) (pss_cons (ps_raise rfl (takes_of rfl rfl rfl rfl) (pmk_oex T.x_SamePlace T.i_SamePlace T.t_SamePlace (ok_e_SamePlace T) (hr.mono (by decide)) T.n_e_SamePlace .nil pass0 rfl T.g_SamePlace (pa_cons (pe_tup (pa_cons (pv 3) (pa_cons (pv 4) pa_nil))) pa_nil))) pss_nil) pss_nil) (pss_cons (nputK (P := P) (w := w) rfl rfl hr.units8 (pv 1) (pe_tup (pa_cons (pv 3) (pa_cons (pv 4) pa_nil))) (pv 2) rfl) pss_nil))))) (pss_cons (ps_ret (pv 1)) pss_nil))), ?_⟩
    refine nx_go (frm_start (N := N_placed_changes) (n := 6) z sm hw (by rw [WLen.len hw]; rfl)) ?_
    show Nx _ _ [.imm (rOb (cLst (rOb (cTup (wC rStr (wC (rOb (cTpl rInt)) (wC (rOpt (rOb (cTpl rInt))) (w1 (rOpt (rOb (cTpl rInt))))))))))) changes0, .no, .no, .no, .no, .no, .no]
    unfold m_placed_changes at h
    refine (sq_newN kyPlc (rOb (cTup (wC rStr (wC (rOb (cTpl rInt)) (wC (rOpt (rOb (cTpl rInt))) (w1 (rOpt (rOb (cTpl rInt))))))))) (fun a_placed1 na_placed1 => ?_))
    show Nx _ _ [.imm (rOb (cLst (rOb (cTup (wC rStr (wC (rOb (cTpl rInt)) (wC (rOpt (rOb (cTpl rInt))) (w1 (rOpt (rOb (cTpl rInt))))))))))) changes0, .cel a_placed1 (cDicN P w a_placed1 kyPlc (rOb (cTup (wC rStr (wC (rOb (cTpl rInt)) (wC (rOpt (rOb (cTpl rInt))) (w1 (rOpt (rOb (cTpl rInt)))))))))) ([] : (List ((Str × (List Int)) × (Str × (List Int) × (Option (List Int)) × (Option (List Int)))))), .no, .no, .no, .no, .no]
    obtain ⟨R9, hR9, h⟩ := bindO_some h
    refine (sq_forX (ψ := psi (rDicN P w kyPlc (rOb (cTup (wC rStr (wC (rOb (cTpl rInt)) (wC (rOpt (rOb (cTpl rInt))) (w1 (rOpt (rOb (cTpl rInt))))))))))) (R := (erS (erC a.C_InvalidChange [("change" : Str)] (w1 (rOb (cTup (wC rStr (wC (rOb (cTpl rInt)) (wC (rOpt (rOb (cTpl rInt))) (w1 (rOpt (rOb (cTpl rInt))))))))))) (erC a.C_SamePlace [("place" : Str)] (w1 (rOb (cTup (wC rStr (w1 (rOb (cTpl rInt)))))))))) (E := E) (m_placed_changes_b1) (fun z => [.imm (rOb (cLst (rOb (cTup (wC rStr (wC (rOb (cTpl rInt)) (wC (rOpt (rOb (cTpl rInt))) (w1 (rOpt (rOb (cTpl rInt))))))))))) changes0, .cel a_placed1 (cDicN P w a_placed1 kyPlc (rOb (cTup (wC rStr (wC (rOb (cTpl rInt)) (wC (rOpt (rOb (cTpl rInt))) (w1 (rOpt (rOb (cTpl rInt)))))))))) z, .no, .no, .no, .no, .no]) (it_list (ev_var rfl)) hR9 (fun A1 _ => ?_) (fun _ => tg_name) (fun A1 D1 change3 s2 st hA1 h k1 => ?_) ?_ ?_ ?_)
    · exact nx_fin
    · show Nx _ _ [.imm (rOb (cLst (rOb (cTup (wC rStr (wC (rOb (cTpl rInt)) (wC (rOpt (rOb (cTpl rInt))) (w1 (rOpt (rOb (cTpl rInt))))))))))) changes0, .cel a_placed1 (cDicN P w a_placed1 kyPlc (rOb (cTup (wC rStr (wC (rOb (cTpl rInt)) (wC (rOpt (rOb (cTpl rInt))) (w1 (rOpt (rOb (cTpl rInt)))))))))) s2, .imm (rOb (cTup (wC rStr (wC (rOb (cTpl rInt)) (wC (rOpt (rOb (cTpl rInt))) (w1 (rOpt (rOb (cTpl rInt))))))))) change3, .no, .no, .no, .no]
      unfold m_placed_changes_b1 at h
      obtain ⟨u4, hu4, h⟩ := letO_some h
      refine (sq_asgT (ev_to (ev_var rfl) hu4.symm) (tg_tup (tw_C tg_name (fun _ => (tw_C tg_name (fun _ => (tw_C tg_name (fun _ => (tw_1 tg_name)))))))) ?_)
      show Nx _ _ [.imm (rOb (cLst (rOb (cTup (wC rStr (wC (rOb (cTpl rInt)) (wC (rOpt (rOb (cTpl rInt))) (w1 (rOpt (rOb (cTpl rInt))))))))))) changes0, .cel a_placed1 (cDicN P w a_placed1 kyPlc (rOb (cTup (wC rStr (wC (rOb (cTpl rInt)) (wC (rOpt (rOb (cTpl rInt))) (w1 (rOpt (rOb (cTpl rInt)))))))))) s2, .imm (rOb (cTup (wC rStr (wC (rOb (cTpl rInt)) (wC (rOpt (rOb (cTpl rInt))) (w1 (rOpt (rOb (cTpl rInt))))))))) change3, .imm rStr u4.1, .imm (rOb (cTpl rInt)) u4.2.1, .imm (rOpt (rOb (cTpl rInt))) u4.2.2.1, .imm (rOpt (rOb (cTpl rInt))) u4.2.2.2]
      obtain ⟨q5, hq5, h⟩ := bindO_some h
      obtain ⟨c6, hc6, h⟩ := letO_some h
      refine (sq_if (et_to (et_T (ev_eqD (da_opt (da_tpl da_int)) (da_opt (da_tpl da_int)) (ev_var rfl) (ev_var rfl) hq5)) hc6.symm) (fun hc => ?_) (fun hc => ?_))
      · have h := iteO_t hc h
        exact (sq_raise1 (ev_var rfl) (k1.er _ (Option.some.inj h).symm) (fun _ _ _ q => q) (fun _ _ _ _ q => q))
      · have h := iteO_f hc h
        refine nx_next ?_
        try dsimp only
        obtain ⟨c7, hc7, h⟩ := letO_some h
        refine (sq_if (et_to (et_B (ev_ninCelN (ev_new (ec_tup (ew_C (ev_var rfl) (ew_1 (ev_var rfl))))) rfl)) hc7.symm) (fun hc => ?_) (fun hc => ?_))
        · have h := iteO_t hc h
          exact (sq_raise1 (ev_new (ec_tup (ew_C (ev_var rfl) (ew_1 (ev_var rfl))))) (k1.er _ (Option.some.inj h).symm) (fun _ _ _ q => q) (fun _ _ _ _ q => q))
        · have h := iteO_f hc h
          refine nx_next ?_
          try dsimp only
          obtain ⟨d8, hd8, h⟩ := bindO_some h
          refine (sq_nput (ev_var rfl) (ev_new (ec_tup (ew_C (ev_var rfl) (ew_1 (ev_var rfl))))) rfl rfl hd8 ?_)
          show Nx _ _ [.imm (rOb (cLst (rOb (cTup (wC rStr (wC (rOb (cTpl rInt)) (wC (rOpt (rOb (cTpl rInt))) (w1 (rOpt (rOb (cTpl rInt))))))))))) changes0, .cel a_placed1 (cDicN P w a_placed1 kyPlc (rOb (cTup (wC rStr (wC (rOb (cTpl rInt)) (wC (rOpt (rOb (cTpl rInt))) (w1 (rOpt (rOb (cTpl rInt)))))))))) d8, .imm (rOb (cTup (wC rStr (wC (rOb (cTpl rInt)) (wC (rOpt (rOb (cTpl rInt))) (w1 (rOpt (rOb (cTpl rInt))))))))) change3, .imm rStr u4.1, .imm (rOb (cTpl rInt)) u4.2.1, .imm (rOpt (rOb (cTpl rInt))) u4.2.2.1, .imm (rOpt (rOb (cTpl rInt))) u4.2.2.2]
          refine nx_next ?_
          refine nx_forget 2 ?_
          refine nx_forget 3 ?_
          refine nx_forget 4 ?_
          refine nx_forget 5 ?_
          refine nx_forget 6 ?_
          exact k1.nx _ (Option.some.inj h).symm
    · intro b e
      subst e
      obtain rfl := stepO_ret h
      exact kr _ rfl
    · intro b e
      subst e
      obtain rfl := stepO_ret h
      exact ke _ rfl
    · intro e10 e
      subst e
      have h := stepO_nx h
      show Nx _ _ [.imm (rOb (cLst (rOb (cTup (wC rStr (wC (rOb (cTpl rInt)) (wC (rOpt (rOb (cTpl rInt))) (w1 (rOpt (rOb (cTpl rInt))))))))))) changes0, .cel a_placed1 (cDicN P w a_placed1 kyPlc (rOb (cTup (wC rStr (wC (rOb (cTpl rInt)) (wC (rOpt (rOb (cTpl rInt))) (w1 (rOpt (rOb (cTpl rInt)))))))))) e10, .no, .no, .no, .no, .no]
      obtain rfl := Option.some.inj h
      exact (sq_retCelN (i := 1) rfl (fun _ h => h) rfl (kr _ rfl))
theorem ok_placed_changes_Vt (T : Txt K mg base a) : FnOk P w K mg base (L2.CX P w) 3 a.f_placed_changes a.d_placed_changes ["changes"] (SpX (erS (erC a.C_InvalidChange [("change" : Str)] (w1 (rOb (cTup (wC rStr (wC (rOb (cTpl rInt)) (wC (rOpt (rOb (cTpl rInt))) (w1 (rOpt (rOb (cTpl rInt))))))))))) (erC a.C_SamePlace [("place" : Str)] (w1 (rOb (cTup (wC rStr (w1 (rOb (cTpl rInt))))))))) (w1 (rOb (cTpl (rOb (cTup (wC rStr (wC (rOb (cTpl rInt)) (wC (rOpt (rOb (cTpl rInt))) (w1 (rOpt (rOb (cTpl rInt)))))))))))) (rDicN P w kyPlc (rOb (cTup (wC rStr (wC (rOb (cTpl rInt)) (wC (rOpt (rOb (cTpl rInt))) (w1 (rOpt (rOb (cTpl rInt)))))))))) (fun x => m_placed_changes_Vt x)) := by
  refine T.F_placed_changes.okX sc_placed_changes (fun vs H Q E h => ?_) (fun cdv A outer s H vs Q E hr h => ?_)
  · obtain ⟨B, x, b, z, sm, hw, h, kr, ke⟩ := h
    rw [WLen.len hw]; rfl
  · obtain ⟨B, changes0, b, z, sm, hw, h, kr, ke⟩ := h
    have h : m_placed_changes_Vt changes0 = some b := h
    refine ⟨_, (pss_cons (ps_set (i := 1) sc_placed_changes.nd rfl (by first | exact Or.inl rfl | exact Or.inr rfl) (dnewK (P := P) (w := w) rfl rfl)) (pss_cons (ps_for (passes_of rfl) rfl (pi_tup (pv 0)) (pg_name (i := 2) sc_placed_changes.nd rfl (by first | exact Or.inl rfl | exact Or.inr rfl)) (pss_cons (ps_asg (pv 2) (pg_tupK (K := K) rfl 4 rfl (pgs_cons (pg_name (i := 3) sc_placed_changes.nd rfl (by first | exact Or.inl rfl | exact Or.inr rfl)) (pgs_cons (pg_name (i := 4) sc_placed_changes.nd rfl (by first | exact Or.inl rfl | exact Or.inr rfl)) (pgs_cons (pg_name (i := 5) sc_placed_changes.nd rfl (by first | exact Or.inl rfl | exact Or.inr rfl)) (pgs_cons (pg_name (i := 6) sc_placed_changes.nd rfl (by first | exact Or.inl rfl | exact Or.inr rfl)) pgs_nil)))))) (pss_cons (ps_if (pt_cmpR (eqDK (K := K) rfl hr.units) (pv 5) (pv 6) (nomark _)) (pss_cons (ps_raise rfl (takes_of rfl rfl rfl rfl) (pmk_oex T.x_InvalidChange T.i_InvalidChange T.t_InvalidChange (ok_e_InvalidChange T) (hr.mono (by decide)) T.n_e_InvalidChange .nil pass0 rfl T.g_InvalidChange (pa_cons (pv 2) pa_nil))) pss_nil) pss_nil) (pss_cons (ps_if (pt_cmp (ninK (P := P) (w := w) rfl rfl hr.units8 (pe_tup (pa_cons (pv 3) (pa_cons (pv 4) pa_nil))) (pv 1))) (pss_cons (ps_raise rfl (takes_of rfl rfl rfl rfl) (pmk_oex T.x_SamePlace T.i_SamePlace T.t_SamePlace (ok_e_SamePlace T) (hr.mono (by decide)) T.n_e_SamePlace .nil pass0 rfl T.g_SamePlace (pa_cons (pe_tup (pa_cons (pv 3) (pa_cons (pv 4) pa_nil))) pa_nil))) pss_nil) pss_nil) (pss_cons (nputK (P := P) (w := w) rfl rfl hr.units8 (pv 1) (pe_tup (pa_cons (pv 3) (pa_cons (pv 4) pa_nil))) (pv 2) rfl) pss_nil))))) (pss_cons (ps_ret (pv 1)) pss_nil))), ?_⟩
    refine nx_go (frm_start (N := N_placed_changes) (n := 6) z sm hw (by rw [WLen.len hw]; rfl)) ?_
    show Nx _ _ [.imm (rOb (cTpl (rOb (cTup (wC rStr (wC (rOb (cTpl rInt)) (wC (rOpt (rOb (cTpl rInt))) (w1 (rOpt (rOb (cTpl rInt))))))))))) changes0, .no, .no, .no, .no, .no, .no]
    unfold m_placed_changes_Vt at h
    refine (sq_newN kyPlc (rOb (cTup (wC rStr (wC (rOb (cTpl rInt)) (wC (rOpt (rOb (cTpl rInt))) (w1 (rOpt (rOb (cTpl rInt))))))))) (fun a_placed1 na_placed1 => ?_))
    show Nx _ _ [.imm (rOb (cTpl (rOb (cTup (wC rStr (wC (rOb (cTpl rInt)) (wC (rOpt (rOb (cTpl rInt))) (w1 (rOpt (rOb (cTpl rInt))))))))))) changes0, .cel a_placed1 (cDicN P w a_placed1 kyPlc (rOb (cTup (wC rStr (wC (rOb (cTpl rInt)) (wC (rOpt (rOb (cTpl rInt))) (w1 (rOpt (rOb (cTpl rInt)))))))))) ([] : (List ((Str × (List Int)) × (Str × (List Int) × (Option (List Int)) × (Option (List Int)))))), .no, .no, .no, .no, .no]
    obtain ⟨R9, hR9, h⟩ := bindO_some h
    refine (sq_forX (ψ := psi (rDicN P w kyPlc (rOb (cTup (wC rStr (wC (rOb (cTpl rInt)) (wC (rOpt (rOb (cTpl rInt))) (w1 (rOpt (rOb (cTpl rInt))))))))))) (R := (erS (erC a.C_InvalidChange [("change" : Str)] (w1 (rOb (cTup (wC rStr (wC (rOb (cTpl rInt)) (wC (rOpt (rOb (cTpl rInt))) (w1 (rOpt (rOb (cTpl rInt))))))))))) (erC a.C_SamePlace [("place" : Str)] (w1 (rOb (cTup (wC rStr (w1 (rOb (cTpl rInt)))))))))) (E := E) (m_placed_changes_Vt_b1) (fun z => [.imm (rOb (cTpl (rOb (cTup (wC rStr (wC (rOb (cTpl rInt)) (wC (rOpt (rOb (cTpl rInt))) (w1 (rOpt (rOb (cTpl rInt))))))))))) changes0, .cel a_placed1 (cDicN P w a_placed1 kyPlc (rOb (cTup (wC rStr (wC (rOb (cTpl rInt)) (wC (rOpt (rOb (cTpl rInt))) (w1 (rOpt (rOb (cTpl rInt)))))))))) z, .no, .no, .no, .no, .no]) (it_tpl (ev_var rfl)) hR9 (fun A1 _ => ?_) (fun _ => tg_name) (fun A1 D1 change3 s2 st hA1 h k1 => ?_) ?_ ?_ ?_)
    · exact nx_fin
    · show Nx _ _ [.imm (rOb (cTpl (rOb (cTup (wC rStr (wC (rOb (cTpl rInt)) (wC (rOpt (rOb (cTpl rInt))) (w1 (rOpt (rOb (cTpl rInt))))))))))) changes0, .cel a_placed1 (cDicN P w a_placed1 kyPlc (rOb (cTup (wC rStr (wC (rOb (cTpl rInt)) (wC (rOpt (rOb (cTpl rInt))) (w1 (rOpt (rOb (cTpl rInt)))))))))) s2, .imm (rOb (cTup (wC rStr (wC (rOb (cTpl rInt)) (wC (rOpt (rOb (cTpl rInt))) (w1 (rOpt (rOb (cTpl rInt))))))))) change3, .no, .no, .no, .no]
      unfold m_placed_changes_Vt_b1 at h
      obtain ⟨u4, hu4, h⟩ := letO_some h
      refine (sq_asgT (ev_to (ev_var rfl) hu4.symm) (tg_tup (tw_C tg_name (fun _ => (tw_C tg_name (fun _ => (tw_C tg_name (fun _ => (tw_1 tg_name)))))))) ?_)
      show Nx _ _ [.imm (rOb (cTpl (rOb (cTup (wC rStr (wC (rOb (cTpl rInt)) (wC (rOpt (rOb (cTpl rInt))) (w1 (rOpt (rOb (cTpl rInt))))))))))) changes0, .cel a_placed1 (cDicN P w a_placed1 kyPlc (rOb (cTup (wC rStr (wC (rOb (cTpl rInt)) (wC (rOpt (rOb (cTpl rInt))) (w1 (rOpt (rOb (cTpl rInt)))))))))) s2, .imm (rOb (cTup (wC rStr (wC (rOb (cTpl rInt)) (wC (rOpt (rOb (cTpl rInt))) (w1 (rOpt (rOb (cTpl rInt))))))))) change3, .imm rStr u4.1, .imm (rOb (cTpl rInt)) u4.2.1, .imm (rOpt (rOb (cTpl rInt))) u4.2.2.1, .imm (rOpt (rOb (cTpl rInt))) u4.2.2.2]
      obtain ⟨q5, hq5, h⟩ := bindO_some h
      obtain ⟨c6, hc6, h⟩ := letO_some h
      refine (sq_if (et_to (et_T (ev_eqD (da_opt (da_tpl da_int)) (da_opt (da_tpl da_int)) (ev_var rfl) (ev_var rfl) hq5)) hc6.symm) (fun hc => ?_) (fun hc => ?_))
      · have h := iteO_t hc h
        exact (sq_raise1 (ev_var rfl) (k1.er _ (Option.some.inj h).symm) (fun _ _ _ q => q) (fun _ _ _ _ q => q))
      · have h := iteO_f hc h
        refine nx_next ?_
        try dsimp only
        obtain ⟨c7, hc7, h⟩ := letO_some h
        refine (sq_if (et_to (et_B (ev_ninCelN (ev_new (ec_tup (ew_C (ev_var rfl) (ew_1 (ev_var rfl))))) rfl)) hc7.symm) (fun hc => ?_) (fun hc => ?_))
        · have h := iteO_t hc h
          exact (sq_raise1 (ev_new (ec_tup (ew_C (ev_var rfl) (ew_1 (ev_var rfl))))) (k1.er _ (Option.some.inj h).symm) (fun _ _ _ q => q) (fun _ _ _ _ q => q))
        · have h := iteO_f hc h
          refine nx_next ?_
          try dsimp only
          obtain ⟨d8, hd8, h⟩ := bindO_some h
          refine (sq_nput (ev_var rfl) (ev_new (ec_tup (ew_C (ev_var rfl) (ew_1 (ev_var rfl))))) rfl rfl hd8 ?_)
          show Nx _ _ [.imm (rOb (cTpl (rOb (cTup (wC rStr (wC (rOb (cTpl rInt)) (wC (rOpt (rOb (cTpl rInt))) (w1 (rOpt (rOb (cTpl rInt))))))))))) changes0, .cel a_placed1 (cDicN P w a_placed1 kyPlc (rOb (cTup (wC rStr (wC (rOb (cTpl rInt)) (wC (rOpt (rOb (cTpl rInt))) (w1 (rOpt (rOb (cTpl rInt)))))))))) d8, .imm (rOb (cTup (wC rStr (wC (rOb (cTpl rInt)) (wC (rOpt (rOb (cTpl rInt))) (w1 (rOpt (rOb (cTpl rInt))))))))) change3, .imm rStr u4.1, .imm (rOb (cTpl rInt)) u4.2.1, .imm (rOpt (rOb (cTpl rInt))) u4.2.2.1, .imm (rOpt (rOb (cTpl rInt))) u4.2.2.2]
          refine nx_next ?_
          refine nx_forget 2 ?_
          refine nx_forget 3 ?_
          refine nx_forget 4 ?_
          refine nx_forget 5 ?_
          refine nx_forget 6 ?_
          exact k1.nx _ (Option.some.inj h).symm
    · intro b e
      subst e
      obtain rfl := stepO_ret h
      exact kr _ rfl
    · intro b e
      subst e
      obtain rfl := stepO_ret h
      exact ke _ rfl
    · intro e10 e
      subst e
      have h := stepO_nx h
      show Nx _ _ [.imm (rOb (cTpl (rOb (cTup (wC rStr (wC (rOb (cTpl rInt)) (wC (rOpt (rOb (cTpl rInt))) (w1 (rOpt (rOb (cTpl rInt))))))))))) changes0, .cel a_placed1 (cDicN P w a_placed1 kyPlc (rOb (cTup (wC rStr (wC (rOb (cTpl rInt)) (wC (rOpt (rOb (cTpl rInt))) (w1 (rOpt (rOb (cTpl rInt)))))))))) e10, .no, .no, .no, .no, .no]
      obtain rfl := Option.some.inj h
      exact (sq_retCelN (i := 1) rfl (fun _ h => h) rfl (kr _ rfl))
theorem ok_placed_changes_Vk (T : Txt K mg base a) : FnOk P w K mg base CX0 1 a.f_placed_changes a.d_placed_changes ["changes"] (SpP (w1 (rTK K (rOb (cTup (wC rStr (wC (rOb (cTpl rInt)) (wC (rOpt (rOb (cTpl rInt))) (w1 (rOpt (rOb (cTpl rInt))))))))))) (rDicN P w kyPlc (rOb (cTup (wC rStr (wC (rOb (cTpl rInt)) (wC (rOpt (rOb (cTpl rInt))) (w1 (rOpt (rOb (cTpl rInt)))))))))) (fun x => m_placed_changes_Vk x)) := by
  refine T.F_placed_changes.ok sc_placed_changes (fun vs H Q E h => ?_) (fun cdv A outer s H vs Q E hr h => ?_)
  · obtain ⟨B, x, b, z, sm, hw, h, kr⟩ := h
    rw [WLen.len hw]; rfl
  · obtain ⟨B, changes0, b, z, sm, hw, h, kr⟩ := h
    have h : m_placed_changes_Vk changes0 = some b := h
    refine ⟨_, (pss_cons (ps_set (i := 1) sc_placed_changes.nd rfl (by first | exact Or.inl rfl | exact Or.inr rfl) (dnewK (P := P) (w := w) rfl rfl)) (pss_cons (ps_for PassesOwn.never rfl (pi_tup (pv 0)) (pg_name (i := 2) sc_placed_changes.nd rfl (by first | exact Or.inl rfl | exact Or.inr rfl)) (pss_cons (ps_asg (pv 2) (pg_tupK (K := K) rfl 4 rfl (pgs_cons (pg_name (i := 3) sc_placed_changes.nd rfl (by first | exact Or.inl rfl | exact Or.inr rfl)) (pgs_cons (pg_name (i := 4) sc_placed_changes.nd rfl (by first | exact Or.inl rfl | exact Or.inr rfl)) (pgs_cons (pg_name (i := 5) sc_placed_changes.nd rfl (by first | exact Or.inl rfl | exact Or.inr rfl)) (pgs_cons (pg_name (i := 6) sc_placed_changes.nd rfl (by first | exact Or.inl rfl | exact Or.inr rfl)) pgs_nil)))))) (pss_cons (ps_if (pt_cmpR (eqDK (K := K) rfl hr.units) (pv 5) (pv 6) (nomark _)) (pss_cons G.ps_never pss_nil) pss_nil) (pss_cons (ps_if (pt_cmp (ninK (P := P) (w := w) rfl rfl hr.units8 (pe_tup (pa_cons (pv 3) (pa_cons (pv 4) pa_nil))) (pv 1))) (pss_cons G.ps_never pss_nil) pss_nil) (pss_cons (nputK (P := P) (w := w) rfl rfl hr.units8 (pv 1) (pe_tup (pa_cons (pv 3) (pa_cons (pv 4) pa_nil))) (pv 2) rfl) pss_nil))))) (pss_cons (ps_ret (pv 1)) pss_nil))), ?_⟩
    refine nx_go (frm_start (N := N_placed_changes) (n := 6) z sm hw (by rw [WLen.len hw]; rfl)) ?_
    show Nx _ _ [.imm (rTK K (rOb (cTup (wC rStr (wC (rOb (cTpl rInt)) (wC (rOpt (rOb (cTpl rInt))) (w1 (rOpt (rOb (cTpl rInt)))))))))) changes0, .no, .no, .no, .no, .no, .no]
    unfold m_placed_changes_Vk at h
    refine (sq_newN kyPlc (rOb (cTup (wC rStr (wC (rOb (cTpl rInt)) (wC (rOpt (rOb (cTpl rInt))) (w1 (rOpt (rOb (cTpl rInt))))))))) (fun a_placed1 na_placed1 => ?_))
    show Nx _ _ [.imm (rTK K (rOb (cTup (wC rStr (wC (rOb (cTpl rInt)) (wC (rOpt (rOb (cTpl rInt))) (w1 (rOpt (rOb (cTpl rInt)))))))))) changes0, .cel a_placed1 (cDicN P w a_placed1 kyPlc (rOb (cTup (wC rStr (wC (rOb (cTpl rInt)) (wC (rOpt (rOb (cTpl rInt))) (w1 (rOpt (rOb (cTpl rInt)))))))))) ([] : (List ((Str × (List Int)) × (Str × (List Int) × (Option (List Int)) × (Option (List Int)))))), .no, .no, .no, .no, .no]
    obtain ⟨R9, hR9, h⟩ := bindO_some h
    refine (sq_for (ψ := psi (rDicN P w kyPlc (rOb (cTup (wC rStr (wC (rOb (cTpl rInt)) (wC (rOpt (rOb (cTpl rInt))) (w1 (rOpt (rOb (cTpl rInt))))))))))) (m_placed_changes_Vk_b1) (fun z => [.imm (rTK K (rOb (cTup (wC rStr (wC (rOb (cTpl rInt)) (wC (rOpt (rOb (cTpl rInt))) (w1 (rOpt (rOb (cTpl rInt)))))))))) changes0, .cel a_placed1 (cDicN P w a_placed1 kyPlc (rOb (cTup (wC rStr (wC (rOb (cTpl rInt)) (wC (rOpt (rOb (cTpl rInt))) (w1 (rOpt (rOb (cTpl rInt)))))))))) z, .no, .no, .no, .no, .no]) (it_tk (ev_var rfl)) hR9 (fun A1 _ => ?_) (fun _ => tg_name) (fun A1 D1 change3 s2 st hA1 h k1 => ?_) ?_ ?_)
    · exact nx_fin
    · show Nx _ _ [.imm (rTK K (rOb (cTup (wC rStr (wC (rOb (cTpl rInt)) (wC (rOpt (rOb (cTpl rInt))) (w1 (rOpt (rOb (cTpl rInt)))))))))) changes0, .cel a_placed1 (cDicN P w a_placed1 kyPlc (rOb (cTup (wC rStr (wC (rOb (cTpl rInt)) (wC (rOpt (rOb (cTpl rInt))) (w1 (rOpt (rOb (cTpl rInt)))))))))) s2, .imm (rOb (cTup (wC rStr (wC (rOb (cTpl rInt)) (wC (rOpt (rOb (cTpl rInt))) (w1 (rOpt (rOb (cTpl rInt))))))))) change3, .no, .no, .no, .no]
      unfold m_placed_changes_Vk_b1 at h
      obtain ⟨u4, hu4, h⟩ := letO_some h
      refine (sq_asgT (ev_to (ev_var rfl) hu4.symm) (tg_tup (tw_C tg_name (fun _ => (tw_C tg_name (fun _ => (tw_C tg_name (fun _ => (tw_1 tg_name)))))))) ?_)
      show Nx _ _ [.imm (rTK K (rOb (cTup (wC rStr (wC (rOb (cTpl rInt)) (wC (rOpt (rOb (cTpl rInt))) (w1 (rOpt (rOb (cTpl rInt)))))))))) changes0, .cel a_placed1 (cDicN P w a_placed1 kyPlc (rOb (cTup (wC rStr (wC (rOb (cTpl rInt)) (wC (rOpt (rOb (cTpl rInt))) (w1 (rOpt (rOb (cTpl rInt)))))))))) s2, .imm (rOb (cTup (wC rStr (wC (rOb (cTpl rInt)) (wC (rOpt (rOb (cTpl rInt))) (w1 (rOpt (rOb (cTpl rInt))))))))) change3, .imm rStr u4.1, .imm (rOb (cTpl rInt)) u4.2.1, .imm (rOpt (rOb (cTpl rInt))) u4.2.2.1, .imm (rOpt (rOb (cTpl rInt))) u4.2.2.2]
      obtain ⟨q5, hq5, h⟩ := bindO_some h
      obtain ⟨c6, hc6, h⟩ := letO_some h
      refine (sq_if (et_to (et_T (ev_eqD (da_opt (da_tpl da_int)) (da_opt (da_tpl da_int)) (ev_var rfl) (ev_var rfl) hq5)) hc6.symm) (fun hc => ?_) (fun hc => ?_))
      · have h := iteO_t hc h
        cases h
      · have h := iteO_f hc h
        refine nx_next ?_
        try dsimp only
        obtain ⟨c7, hc7, h⟩ := letO_some h
        refine (sq_if (et_to (et_B (ev_ninCelN (ev_new (ec_tup (ew_C (ev_var rfl) (ew_1 (ev_var rfl))))) rfl)) hc7.symm) (fun hc => ?_) (fun hc => ?_))
        · have h := iteO_t hc h
          cases h
        · have h := iteO_f hc h
          refine nx_next ?_
          try dsimp only
          obtain ⟨d8, hd8, h⟩ := bindO_some h
          refine (sq_nput (ev_var rfl) (ev_new (ec_tup (ew_C (ev_var rfl) (ew_1 (ev_var rfl))))) rfl rfl hd8 ?_)
          show Nx _ _ [.imm (rTK K (rOb (cTup (wC rStr (wC (rOb (cTpl rInt)) (wC (rOpt (rOb (cTpl rInt))) (w1 (rOpt (rOb (cTpl rInt)))))))))) changes0, .cel a_placed1 (cDicN P w a_placed1 kyPlc (rOb (cTup (wC rStr (wC (rOb (cTpl rInt)) (wC (rOpt (rOb (cTpl rInt))) (w1 (rOpt (rOb (cTpl rInt)))))))))) d8, .imm (rOb (cTup (wC rStr (wC (rOb (cTpl rInt)) (wC (rOpt (rOb (cTpl rInt))) (w1 (rOpt (rOb (cTpl rInt))))))))) change3, .imm rStr u4.1, .imm (rOb (cTpl rInt)) u4.2.1, .imm (rOpt (rOb (cTpl rInt))) u4.2.2.1, .imm (rOpt (rOb (cTpl rInt))) u4.2.2.2]
          refine nx_next ?_
          refine nx_forget 2 ?_
          refine nx_forget 3 ?_
          refine nx_forget 4 ?_
          refine nx_forget 5 ?_
          refine nx_forget 6 ?_
          exact k1.nx _ (Option.some.inj h).symm
    · intro b e
      subst e
      obtain rfl := stepO_ret h; exact kr
    · intro e10 e
      subst e
      have h := stepO_nx h
      show Nx _ _ [.imm (rTK K (rOb (cTup (wC rStr (wC (rOb (cTpl rInt)) (wC (rOpt (rOb (cTpl rInt))) (w1 (rOpt (rOb (cTpl rInt)))))))))) changes0, .cel a_placed1 (cDicN P w a_placed1 kyPlc (rOb (cTup (wC rStr (wC (rOb (cTpl rInt)) (wC (rOpt (rOb (cTpl rInt))) (w1 (rOpt (rOb (cTpl rInt)))))))))) e10, .no, .no, .no, .no, .no]
      exact (sq_retCelN (i := 1) rfl (fun _ h => h) h kr)
theorem ok_Edit___init (T : Txt K mg base a) : FnOk P w K mg base (L2.CX P w) 4 a.f_Edit___init a.d_Edit___init ["self", "changes"] (SpI (erS (erC a.C_InvalidChange [("change" : Str)] (w1 (rOb (cTup (wC rStr (wC (rOb (cTpl rInt)) (wC (rOpt (rOb (cTpl rInt))) (w1 (rOpt (rOb (cTpl rInt))))))))))) (erC a.C_SamePlace [("place" : Str)] (w1 (rOb (cTup (wC rStr (w1 (rOb (cTpl rInt))))))))) a.C_Edit (w1 (rOb (cLst (rOb (cTup (wC rStr (wC (rOb (cTpl rInt)) (wC (rOpt (rOb (cTpl rInt))) (w1 (rOpt (rOb (cTpl rInt)))))))))))) (cIns a.C_Edit [("_placed" : Str), ("changes" : Str)] (wC (rDicN P w kyPlc (rOb (cTup (wC rStr (wC (rOb (cTpl rInt)) (wC (rOpt (rOb (cTpl rInt))) (w1 (rOpt (rOb (cTpl rInt)))))))))) (w1 (rOb (cTpl (rOb (cTup (wC rStr (wC (rOb (cTpl rInt)) (wC (rOpt (rOb (cTpl rInt))) (w1 (rOpt (rOb (cTpl rInt)))))))))))))) (fun x => m_Edit___init x)) := by
  refine FunD.ok (CX := L2.CX P w) T.F_Edit___init sc_Edit___init (fun vs H Q E h => ?_) (fun cdv A outer s H vs Q E hr h => ?_)
  · obtain ⟨p, dx, vs', B, x, b, rfl, hp, hB, z, sm, hw, h, kr, ke⟩ := h
    show vs'.length + 1 = _; rw [WLen.len hw]; rfl
  · obtain ⟨p, dx, vs', B, changes0, b, rfl, hp, hB, z, sm, hw, h, kr, ke⟩ := h
    have h : m_Edit___init changes0 = some b := h
    refine ⟨_, (pss_cons (ps_fld (pv 0) (pe_callS (ok_placed_changes (P := P) (w := w) (base := base) T) (hr.mono (Nat.le_of_ble_eq_true rfl)) rfl T.g_placed_changes T.F_placed_changes.kp T.n_placed_changes (fun σ => passAt (takes_of rfl rfl rfl rfl) σ) (pa_cons (pv 1) pa_nil)) rfl) (pss_cons (ps_fld (pv 0) (pe_callTy (tuple_ofK (K := K) rfl) (by rfl) T.b_tuple (by decide +kernel) (pa_cons (pe_lc (own := [("place", 2)]) rfl sc_Edit___init.nd (pi_list (pe_callB (sortNK (K := K) rfl hr.units16) (by rfl) T.b_sorted (by decide +kernel) (pa_cons (pe_callTy (listNK (P := P) (w := w) rfl rfl rfl) (by rfl) T.b_list (by decide +kernel) (pa_cons (fldK (K := K) rfl (pv 0) rfl) pa_nil)) pa_nil))) (blkOk_by (N := N_Edit___init) (sc := defScope s_Edit___init) (by decide +kernel)) (fun _ _ _ _ _ => (pg_name (i := 2) sc_Edit___init.nd rfl (by first | exact Or.inl rfl | exact Or.inr rfl))) (fun _ _ _ _ _ => pts_nil) (fun _ _ _ _ _ => (ngetK (P := P) (w := w) rfl rfl hr.units8 (fldK (K := K) rfl (pv 0) rfl) (pv 2) (fun _ _ => rfl)))) pa_nil)) rfl) pss_nil)), ?_⟩
    refine nx_go (frm_startS (cc := cIns a.C_Edit [] w0) (st := ()) (o := .ins a.C_Edit dx []) (N := N_Edit___init) (n := 1) z sm hB hp ⟨dx, [], rfl, rfl, rfl⟩ hw (by rw [WLen.len hw]; rfl)) ?_
    show Nx _ _ [.cel p (cIns a.C_Edit [] w0) (), .imm (rOb (cLst (rOb (cTup (wC rStr (wC (rOb (cTpl rInt)) (wC (rOpt (rOb (cTpl rInt))) (w1 (rOpt (rOb (cTpl rInt))))))))))) changes0, .no]
    unfold m_Edit___init at h
    obtain ⟨r1, hr1, h⟩ := bindO_some h
    refine (xfCall (i := 0) (ew_1 (ev_var rfl)) hr1 h rfl snoc0 (by decide +kernel) (by decide) T.cl_Edit T.na_Edit__placed (fun self2 h => ?_) (fun e3 h => ?_))
    · show Nx _ _ [.cel p (cIns a.C_Edit [("_placed" : Str)] (w1 (rDicN P w kyPlc (rOb (cTup (wC rStr (wC (rOb (cTpl rInt)) (wC (rOpt (rOb (cTpl rInt))) (w1 (rOpt (rOb (cTpl rInt)))))))))))) self2, .imm (rOb (cLst (rOb (cTup (wC rStr (wC (rOb (cTpl rInt)) (wC (rOpt (rOb (cTpl rInt))) (w1 (rOpt (rOb (cTpl rInt))))))))))) changes0, .no]
      obtain ⟨l4, hl4, h⟩ := bindO_some h
      obtain ⟨l5, hl5, h⟩ := bindO_some h
      obtain ⟨l8, hl8, h⟩ := bindO_some h
      obtain ⟨changes9, hchanges9, h⟩ := letO_some h
      refine (sq_fld (i := 0) (ev_to (ev_new (ec_tupL (ev_new (ec_lc (m_Edit___init_c1 self2) (it_list (ev_new (ec_sortN (ev_new (ec_listN' kyPlc (ev_celFld rfl (acc1) rfl (by decide +kernel) T.cl_Edit T.na_Edit__placed) hl4)) hl5))) hl8 tg_name (fun k hk => hk) (by rfl) (fun _ => by rfl) (fun place6 o ho => by unfold m_Edit___init_c1 at ho; obtain ⟨y7, hy7, ho⟩ := bindO_some ho; cases ho; exact ⟨et_yes, fun y hy => by cases hy; exact ev_to (ev_nget kyPlc (ev_celFld rfl (acc1) rfl (by decide +kernel) T.cl_Edit T.na_Edit__placed) (ev_var rfl) hy7) rfl⟩))))) hchanges9.symm) rfl snoc1 (by decide +kernel) (by decide) T.cl_Edit T.na_Edit_changes ?_)
      show Nx _ _ [.cel p (cIns a.C_Edit [("_placed" : Str), ("changes" : Str)] (wC (rDicN P w kyPlc (rOb (cTup (wC rStr (wC (rOb (cTpl rInt)) (wC (rOpt (rOb (cTpl rInt))) (w1 (rOpt (rOb (cTpl rInt)))))))))) (w1 (rOb (cTpl (rOb (cTup (wC rStr (wC (rOb (cTpl rInt)) (wC (rOpt (rOb (cTpl rInt))) (w1 (rOpt (rOb (cTpl rInt)))))))))))))) (self2, changes9), .imm (rOb (cLst (rOb (cTup (wC rStr (wC (rOb (cTpl rInt)) (wC (rOpt (rOb (cTpl rInt))) (w1 (rOpt (rOb (cTpl rInt))))))))))) changes0, .no]
      obtain rfl := Option.some.inj h
      exact nx_next (fun σ H B F => kr _ rfl _ _ F.post (cel_at (i := 0) F rfl).2)
    · obtain rfl := Option.some.inj h
      exact nxe_out (ke _ rfl)
theorem ok_Edit___init___Vt (T : Txt K mg base a) : FnOk P w K mg base (L2.CX P w) 4 a.f_Edit___init a.d_Edit___init ["self", "changes"] (SpI (erS (erC a.C_InvalidChange [("change" : Str)] (w1 (rOb (cTup (wC rStr (wC (rOb (cTpl rInt)) (wC (rOpt (rOb (cTpl rInt))) (w1 (rOpt (rOb (cTpl rInt))))))))))) (erC a.C_SamePlace [("place" : Str)] (w1 (rOb (cTup (wC rStr (w1 (rOb (cTpl rInt))))))))) a.C_Edit (w1 (rOb (cTpl (rOb (cTup (wC rStr (wC (rOb (cTpl rInt)) (wC (rOpt (rOb (cTpl rInt))) (w1 (rOpt (rOb (cTpl rInt)))))))))))) (cIns a.C_Edit [("_placed" : Str), ("changes" : Str)] (wC (rDicN P w kyPlc (rOb (cTup (wC rStr (wC (rOb (cTpl rInt)) (wC (rOpt (rOb (cTpl rInt))) (w1 (rOpt (rOb (cTpl rInt)))))))))) (w1 (rOb (cTpl (rOb (cTup (wC rStr (wC (rOb (cTpl rInt)) (wC (rOpt (rOb (cTpl rInt))) (w1 (rOpt (rOb (cTpl rInt)))))))))))))) (fun x => m_Edit___init___Vt x)) := by
  refine FunD.ok (CX := L2.CX P w) T.F_Edit___init sc_Edit___init (fun vs H Q E h => ?_) (fun cdv A outer s H vs Q E hr h => ?_)
  · obtain ⟨p, dx, vs', B, x, b, rfl, hp, hB, z, sm, hw, h, kr, ke⟩ := h
    show vs'.length + 1 = _; rw [WLen.len hw]; rfl
  · obtain ⟨p, dx, vs', B, changes0, b, rfl, hp, hB, z, sm, hw, h, kr, ke⟩ := h
    have h : m_Edit___init___Vt changes0 = some b := h
    refine ⟨_, (pss_cons (ps_fld (pv 0) (pe_callS (ok_placed_changes_Vt (P := P) (w := w) (base := base) T) (hr.mono (Nat.le_of_ble_eq_true rfl)) rfl T.g_placed_changes T.F_placed_changes.kp T.n_placed_changes (fun σ => passAt (takes_of rfl rfl rfl rfl) σ) (pa_cons (pv 1) pa_nil)) rfl) (pss_cons (ps_fld (pv 0) (pe_callTy (tuple_ofK (K := K) rfl) (by rfl) T.b_tuple (by decide +kernel) (pa_cons (pe_lc (own := [("place", 2)]) rfl sc_Edit___init.nd (pi_list (pe_callB (sortNK (K := K) rfl hr.units16) (by rfl) T.b_sorted (by decide +kernel) (pa_cons (pe_callTy (listNK (P := P) (w := w) rfl rfl rfl) (by rfl) T.b_list (by decide +kernel) (pa_cons (fldK (K := K) rfl (pv 0) rfl) pa_nil)) pa_nil))) (blkOk_by (N := N_Edit___init) (sc := defScope s_Edit___init) (by decide +kernel)) (fun _ _ _ _ _ => (pg_name (i := 2) sc_Edit___init.nd rfl (by first | exact Or.inl rfl | exact Or.inr rfl))) (fun _ _ _ _ _ => pts_nil) (fun _ _ _ _ _ => (ngetK (P := P) (w := w) rfl rfl hr.units8 (fldK (K := K) rfl (pv 0) rfl) (pv 2) (fun _ _ => rfl)))) pa_nil)) rfl) pss_nil)), ?_⟩
    refine nx_go (frm_startS (cc := cIns a.C_Edit [] w0) (st := ()) (o := .ins a.C_Edit dx []) (N := N_Edit___init) (n := 1) z sm hB hp ⟨dx, [], rfl, rfl, rfl⟩ hw (by rw [WLen.len hw]; rfl)) ?_
    show Nx _ _ [.cel p (cIns a.C_Edit [] w0) (), .imm (rOb (cTpl (rOb (cTup (wC rStr (wC (rOb (cTpl rInt)) (wC (rOpt (rOb (cTpl rInt))) (w1 (rOpt (rOb (cTpl rInt))))))))))) changes0, .no]
    unfold m_Edit___init___Vt at h
    obtain ⟨r1, hr1, h⟩ := bindO_some h
    refine (xfCall (i := 0) (ew_1 (ev_var rfl)) hr1 h rfl snoc0 (by decide +kernel) (by decide) T.cl_Edit T.na_Edit__placed (fun self2 h => ?_) (fun e3 h => ?_))
    · show Nx _ _ [.cel p (cIns a.C_Edit [("_placed" : Str)] (w1 (rDicN P w kyPlc (rOb (cTup (wC rStr (wC (rOb (cTpl rInt)) (wC (rOpt (rOb (cTpl rInt))) (w1 (rOpt (rOb (cTpl rInt)))))))))))) self2, .imm (rOb (cTpl (rOb (cTup (wC rStr (wC (rOb (cTpl rInt)) (wC (rOpt (rOb (cTpl rInt))) (w1 (rOpt (rOb (cTpl rInt))))))))))) changes0, .no]
      obtain ⟨l4, hl4, h⟩ := bindO_some h
      obtain ⟨l5, hl5, h⟩ := bindO_some h
      obtain ⟨l8, hl8, h⟩ := bindO_some h
      obtain ⟨changes9, hchanges9, h⟩ := letO_some h
      refine (sq_fld (i := 0) (ev_to (ev_new (ec_tupL (ev_new (ec_lc (m_Edit___init___Vt_c1 self2) (it_list (ev_new (ec_sortN (ev_new (ec_listN' kyPlc (ev_celFld rfl (acc1) rfl (by decide +kernel) T.cl_Edit T.na_Edit__placed) hl4)) hl5))) hl8 tg_name (fun k hk => hk) (by rfl) (fun _ => by rfl) (fun place6 o ho => by unfold m_Edit___init___Vt_c1 at ho; obtain ⟨y7, hy7, ho⟩ := bindO_some ho; cases ho; exact ⟨et_yes, fun y hy => by cases hy; exact ev_to (ev_nget kyPlc (ev_celFld rfl (acc1) rfl (by decide +kernel) T.cl_Edit T.na_Edit__placed) (ev_var rfl) hy7) rfl⟩))))) hchanges9.symm) rfl snoc1 (by decide +kernel) (by decide) T.cl_Edit T.na_Edit_changes ?_)
      show Nx _ _ [.cel p (cIns a.C_Edit [("_placed" : Str), ("changes" : Str)] (wC (rDicN P w kyPlc (rOb (cTup (wC rStr (wC (rOb (cTpl rInt)) (wC (rOpt (rOb (cTpl rInt))) (w1 (rOpt (rOb (cTpl rInt)))))))))) (w1 (rOb (cTpl (rOb (cTup (wC rStr (wC (rOb (cTpl rInt)) (wC (rOpt (rOb (cTpl rInt))) (w1 (rOpt (rOb (cTpl rInt)))))))))))))) (self2, changes9), .imm (rOb (cTpl (rOb (cTup (wC rStr (wC (rOb (cTpl rInt)) (wC (rOpt (rOb (cTpl rInt))) (w1 (rOpt (rOb (cTpl rInt))))))))))) changes0, .no]
      obtain rfl := Option.some.inj h
      exact nx_next (fun σ H B F => kr _ rfl _ _ F.post (cel_at (i := 0) F rfl).2)
    · obtain rfl := Option.some.inj h
      exact nxe_out (ke _ rfl)
theorem ok_Edit___init___Vk (T : Txt K mg base a) : FnOk P w K mg base CX0 2 a.f_Edit___init a.d_Edit___init ["self", "changes"] (SpJ a.C_Edit (w1 (rTK K (rOb (cTup (wC rStr (wC (rOb (cTpl rInt)) (wC (rOpt (rOb (cTpl rInt))) (w1 (rOpt (rOb (cTpl rInt))))))))))) (cIns a.C_Edit [("_placed" : Str), ("changes" : Str)] (wC (rDicN P w kyPlc (rOb (cTup (wC rStr (wC (rOb (cTpl rInt)) (wC (rOpt (rOb (cTpl rInt))) (w1 (rOpt (rOb (cTpl rInt)))))))))) (w1 (rOb (cTpl (rOb (cTup (wC rStr (wC (rOb (cTpl rInt)) (wC (rOpt (rOb (cTpl rInt))) (w1 (rOpt (rOb (cTpl rInt)))))))))))))) (fun x => m_Edit___init___Vk x)) := by
  refine funD_okN T.F_Edit___init sc_Edit___init (fun vs H Q E h => ?_) (fun cdv A outer s H vs Q E hr h => ?_)
  · obtain ⟨p, dx, vs', B, x, b, rfl, hp, hB, z, sm, hw, h, kr⟩ := h
    show vs'.length + 1 = _; rw [WLen.len hw]; rfl
  · obtain ⟨p, dx, vs', B, changes0, b, rfl, hp, hB, z, sm, hw, h, kr⟩ := h
    have h : m_Edit___init___Vk changes0 = some b := h
    refine ⟨_, (pss_cons (ps_fld (pv 0) (pe_call (ok_placed_changes_Vk T) (hr.mono (by decide)) rfl T.g_placed_changes T.F_placed_changes.kp T.n_placed_changes .nil pass0 (pa_cons (pv 1) pa_nil)) rfl) (pss_cons (ps_fld (pv 0) (pe_callTy (tuple_ofK (K := K) rfl) (by rfl) T.b_tuple (by decide +kernel) (pa_cons (pe_lc (own := [("place", 2)]) rfl sc_Edit___init.nd (pi_list (pe_callB (sortNK (K := K) rfl hr.units16) (by rfl) T.b_sorted (by decide +kernel) (pa_cons (pe_callTy (listNK (P := P) (w := w) rfl rfl rfl) (by rfl) T.b_list (by decide +kernel) (pa_cons (fldK (K := K) rfl (pv 0) rfl) pa_nil)) pa_nil))) (blkOk_by (N := N_Edit___init) (sc := defScope s_Edit___init) (by decide +kernel)) (fun _ _ _ _ _ => (pg_name (i := 2) sc_Edit___init.nd rfl (by first | exact Or.inl rfl | exact Or.inr rfl))) (fun _ _ _ _ _ => pts_nil) (fun _ _ _ _ _ => (ngetK (P := P) (w := w) rfl rfl hr.units8 (fldK (K := K) rfl (pv 0) rfl) (pv 2) (fun _ _ => rfl)))) pa_nil)) rfl) pss_nil)), ?_⟩
    refine nx_go (frm_startS (cc := cIns a.C_Edit [] w0) (st := ()) (o := .ins a.C_Edit dx []) (N := N_Edit___init) (n := 1) z sm hB hp ⟨dx, [], rfl, rfl, rfl⟩ hw (by rw [WLen.len hw]; rfl)) ?_
    show Nx _ _ [.cel p (cIns a.C_Edit [] w0) (), .imm (rTK K (rOb (cTup (wC rStr (wC (rOb (cTpl rInt)) (wC (rOpt (rOb (cTpl rInt))) (w1 (rOpt (rOb (cTpl rInt)))))))))) changes0, .no]
    unfold m_Edit___init___Vk at h
    obtain ⟨v1, hv1, h⟩ := bindO_some h
    obtain ⟨placed2, hplaced2, h⟩ := letO_some h
    refine (sq_fld (i := 0) (ev_to (ev_call (ew_1 (ev_var rfl)) hv1) hplaced2.symm) rfl snoc0 (by decide +kernel) (by decide) T.cl_Edit T.na_Edit__placed ?_)
    show Nx _ _ [.cel p (cIns a.C_Edit [("_placed" : Str)] (w1 (rDicN P w kyPlc (rOb (cTup (wC rStr (wC (rOb (cTpl rInt)) (wC (rOpt (rOb (cTpl rInt))) (w1 (rOpt (rOb (cTpl rInt)))))))))))) placed2, .imm (rTK K (rOb (cTup (wC rStr (wC (rOb (cTpl rInt)) (wC (rOpt (rOb (cTpl rInt))) (w1 (rOpt (rOb (cTpl rInt)))))))))) changes0, .no]
    obtain ⟨l3, hl3, h⟩ := bindO_some h
    obtain ⟨l4, hl4, h⟩ := bindO_some h
    obtain ⟨l7, hl7, h⟩ := bindO_some h
    obtain ⟨changes8, hchanges8, h⟩ := letO_some h
    refine (sq_fld (i := 0) (ev_to (ev_new (ec_tupL (ev_new (ec_lc (m_Edit___init___Vk_c1 placed2) (it_list (ev_new (ec_sortN (ev_new (ec_listN' kyPlc (ev_celFld rfl (acc1) rfl (by decide +kernel) T.cl_Edit T.na_Edit__placed) hl3)) hl4))) hl7 tg_name (fun k hk => hk) (by rfl) (fun _ => by rfl) (fun place5 o ho => by unfold m_Edit___init___Vk_c1 at ho; obtain ⟨y6, hy6, ho⟩ := bindO_some ho; cases ho; exact ⟨et_yes, fun y hy => by cases hy; exact ev_to (ev_nget kyPlc (ev_celFld rfl (acc1) rfl (by decide +kernel) T.cl_Edit T.na_Edit__placed) (ev_var rfl) hy6) rfl⟩))))) hchanges8.symm) rfl snoc1 (by decide +kernel) (by decide) T.cl_Edit T.na_Edit_changes ?_)
    show Nx _ _ [.cel p (cIns a.C_Edit [("_placed" : Str), ("changes" : Str)] (wC (rDicN P w kyPlc (rOb (cTup (wC rStr (wC (rOb (cTpl rInt)) (wC (rOpt (rOb (cTpl rInt))) (w1 (rOpt (rOb (cTpl rInt)))))))))) (w1 (rOb (cTpl (rOb (cTup (wC rStr (wC (rOb (cTpl rInt)) (wC (rOpt (rOb (cTpl rInt))) (w1 (rOpt (rOb (cTpl rInt)))))))))))))) (placed2, changes8), .imm (rTK K (rOb (cTup (wC rStr (wC (rOb (cTpl rInt)) (wC (rOpt (rOb (cTpl rInt))) (w1 (rOpt (rOb (cTpl rInt)))))))))) changes0, .no]
    obtain rfl := Option.some.inj h
    exact nx_next (fun σ H B F => kr _ _ F.post (cel_at (i := 0) F rfl).2)
theorem ok_Edit___contains (T : Txt K mg base a) : FnOk P w K mg base CX0 1 a.f_Edit___contains a.d_Edit___contains ["self", "x"] (SpP (wC (rIns a.C_Edit [("_placed" : Str), ("changes" : Str)] (wC (rDicN P w kyPlc (rOb (cTup (wC rStr (wC (rOb (cTpl rInt)) (wC (rOpt (rOb (cTpl rInt))) (w1 (rOpt (rOb (cTpl rInt)))))))))) (w1 (rOb (cTpl (rOb (cTup (wC rStr (wC (rOb (cTpl rInt)) (wC (rOpt (rOb (cTpl rInt))) (w1 (rOpt (rOb (cTpl rInt)))))))))))))) (w1 (rOb (cTup (wC rStr (w1 (rOb (cTpl rInt)))))))) rBool (fun x => m_Edit___contains x.1 x.2)) := by
  refine T.F_Edit___contains.ok sc_Edit___contains (fun vs H Q E h => ?_) (fun cdv A outer s H vs Q E hr h => ?_)
  · obtain ⟨B, x, b, z, sm, hw, h, kr⟩ := h
    rw [WLen.len hw]; rfl
  · obtain ⟨B, ⟨self0, x0⟩, b, z, sm, hw, h, kr⟩ := h
    have h : m_Edit___contains self0 x0 = some b := h
    refine ⟨_, (pss_cons (ps_ret (pe_cmp (ninK (P := P) (w := w) rfl rfl hr.units8 (pv 1) (fldK (K := K) rfl (pv 0) rfl)) rfl)) pss_nil), ?_⟩
    refine nx_go (frm_start (N := N_Edit___contains) (n := 0) z sm hw (by rw [WLen.len hw]; rfl)) ?_
    show Nx _ _ [.imm (rIns a.C_Edit [("_placed" : Str), ("changes" : Str)] (wC (rDicN P w kyPlc (rOb (cTup (wC rStr (wC (rOb (cTpl rInt)) (wC (rOpt (rOb (cTpl rInt))) (w1 (rOpt (rOb (cTpl rInt)))))))))) (w1 (rOb (cTpl (rOb (cTup (wC rStr (wC (rOb (cTpl rInt)) (wC (rOpt (rOb (cTpl rInt))) (w1 (rOpt (rOb (cTpl rInt)))))))))))))) self0, .imm (rOb (cTup (wC rStr (w1 (rOb (cTpl rInt)))))) x0]
    unfold m_Edit___contains at h
    exact (sq_ret (ev_nin kyPlc (ev_var rfl) (ev_fld (ev_var rfl) (acc0) rfl (by decide +kernel) T.cl_Edit T.na_Edit__placed)) h kr)
theorem ok_Edit___getitem (T : Txt K mg base a) : FnOk P w K mg base (L2.CX P w) 3 a.f_Edit___getitem a.d_Edit___getitem ["self", "at"] (SpX (erC a.C_NoChange [("place" : Str)] (w1 (rOb (cTup (wC rStr (w1 (rOb (cTpl rInt)))))))) (wC (rIns a.C_Edit [("_placed" : Str), ("changes" : Str)] (wC (rDicN P w kyPlc (rOb (cTup (wC rStr (wC (rOb (cTpl rInt)) (wC (rOpt (rOb (cTpl rInt))) (w1 (rOpt (rOb (cTpl rInt)))))))))) (w1 (rOb (cTpl (rOb (cTup (wC rStr (wC (rOb (cTpl rInt)) (wC (rOpt (rOb (cTpl rInt))) (w1 (rOpt (rOb (cTpl rInt)))))))))))))) (w1 (rOb (cTup (wC rStr (w1 (rOb (cTpl rInt)))))))) (rOb (cTup (wC (rOpt (rOb (cTpl rInt))) (w1 (rOpt (rOb (cTpl rInt))))))) (fun x => m_Edit___getitem x.1 x.2)) := by
  refine T.F_Edit___getitem.okX sc_Edit___getitem (fun vs H Q E h => ?_) (fun cdv A outer s H vs Q E hr h => ?_)
  · obtain ⟨B, x, b, z, sm, hw, h, kr, ke⟩ := h
    rw [WLen.len hw]; rfl
  · obtain ⟨B, ⟨self0, at0⟩, b, z, sm, hw, h, kr, ke⟩ := h
    have h : m_Edit___getitem self0 at0 = some b := h
    refine ⟨_, (pss_cons (ps_if (pt_cmp (nnotinK (P := P) (w := w) rfl rfl hr.units8 (pv 1) (fldK (K := K) rfl (pv 0) rfl))) (pss_cons (ps_raise rfl (takes_of rfl rfl rfl rfl) (pmk_oex T.x_NoChange T.i_NoChange T.t_NoChange (ok_e_NoChange T) (hr.mono (by decide)) T.n_e_NoChange .nil pass0 rfl T.g_NoChange (pa_cons (pv 1) pa_nil))) pss_nil) pss_nil) (pss_cons (ps_set (i := 2) sc_Edit___getitem.nd rfl (by first | exact Or.inl rfl | exact Or.inr rfl) (ngetK (P := P) (w := w) rfl rfl hr.units8 (fldK (K := K) rfl (pv 0) rfl) (pv 1) (fun _ _ => rfl))) (pss_cons (ps_ret (pe_tup (pa_cons (pe_ix (ix_tupK (K := K) rfl) (pv 2) pe_int (fun _ _ => rfl)) (pa_cons (pe_ix (ix_tupK (K := K) rfl) (pv 2) pe_int (fun _ _ => rfl)) pa_nil)))) pss_nil))), ?_⟩
    refine nx_go (frm_start (N := N_Edit___getitem) (n := 1) z sm hw (by rw [WLen.len hw]; rfl)) ?_
    show Nx _ _ [.imm (rIns a.C_Edit [("_placed" : Str), ("changes" : Str)] (wC (rDicN P w kyPlc (rOb (cTup (wC rStr (wC (rOb (cTpl rInt)) (wC (rOpt (rOb (cTpl rInt))) (w1 (rOpt (rOb (cTpl rInt)))))))))) (w1 (rOb (cTpl (rOb (cTup (wC rStr (wC (rOb (cTpl rInt)) (wC (rOpt (rOb (cTpl rInt))) (w1 (rOpt (rOb (cTpl rInt)))))))))))))) self0, .imm (rOb (cTup (wC rStr (w1 (rOb (cTpl rInt)))))) at0, .no]
    unfold m_Edit___getitem at h
    obtain ⟨c1, hc1, h⟩ := letO_some h
    refine (sq_if (et_to (et_B (ev_nnin kyPlc (ev_var rfl) (ev_fld (ev_var rfl) (acc0) rfl (by decide +kernel) T.cl_Edit T.na_Edit__placed))) hc1.symm) (fun hc => ?_) (fun hc => ?_))
    · have h := iteO_t hc h
      obtain rfl := Option.some.inj h
      exact (sq_raise1 (ev_var rfl) (ke _ rfl) (fun _ _ _ q => q) (fun _ _ _ _ q => q))
    · have h := iteO_f hc h
      refine nx_next ?_
      try dsimp only
      obtain ⟨y2, hy2, h⟩ := bindO_some h
      obtain ⟨change3, hchange3, h⟩ := letO_some h
      refine (sq_asg (ev_to (ev_nget kyPlc (ev_fld (ev_var rfl) (acc0) rfl (by decide +kernel) T.cl_Edit T.na_Edit__placed) (ev_var rfl) hy2) hchange3.symm) ?_)
      show Nx _ _ [.imm (rIns a.C_Edit [("_placed" : Str), ("changes" : Str)] (wC (rDicN P w kyPlc (rOb (cTup (wC rStr (wC (rOb (cTpl rInt)) (wC (rOpt (rOb (cTpl rInt))) (w1 (rOpt (rOb (cTpl rInt)))))))))) (w1 (rOb (cTpl (rOb (cTup (wC rStr (wC (rOb (cTpl rInt)) (wC (rOpt (rOb (cTpl rInt))) (w1 (rOpt (rOb (cTpl rInt)))))))))))))) self0, .imm (rOb (cTup (wC rStr (w1 (rOb (cTpl rInt)))))) at0, .imm (rOb (cTup (wC rStr (wC (rOb (cTpl rInt)) (wC (rOpt (rOb (cTpl rInt))) (w1 (rOpt (rOb (cTpl rInt))))))))) change3]
      obtain rfl := Option.some.inj h
      exact (sq_ret (ev_new (ec_tup (ew_C (ev_ixU (k := 2) (ev_var rfl) (accS (accS (acc0)))) (ew_1 (ev_ixU (k := 3) (ev_var rfl) (accS (accS (accS (acc1))))))))) rfl (kr _ rfl))
theorem ok_Edit___eq (T : Txt K mg base a) : FnOk P w K mg base CX0 1 a.f_Edit___eq a.d_Edit___eq ["self", "other"] (SpP (wC (rIns a.C_Edit [("_placed" : Str), ("changes" : Str)] (wC (rDicN P w kyPlc (rOb (cTup (wC rStr (wC (rOb (cTpl rInt)) (wC (rOpt (rOb (cTpl rInt))) (w1 (rOpt (rOb (cTpl rInt)))))))))) (w1 (rOb (cTpl (rOb (cTup (wC rStr (wC (rOb (cTpl rInt)) (wC (rOpt (rOb (cTpl rInt))) (w1 (rOpt (rOb (cTpl rInt)))))))))))))) (w1 (rIns a.C_Edit [("_placed" : Str), ("changes" : Str)] (wC (rDicN P w kyPlc (rOb (cTup (wC rStr (wC (rOb (cTpl rInt)) (wC (rOpt (rOb (cTpl rInt))) (w1 (rOpt (rOb (cTpl rInt)))))))))) (w1 (rOb (cTpl (rOb (cTup (wC rStr (wC (rOb (cTpl rInt)) (wC (rOpt (rOb (cTpl rInt))) (w1 (rOpt (rOb (cTpl rInt)))))))))))))))) rBool (fun x => m_Edit___eq x.1 x.2)) := by
  refine T.F_Edit___eq.ok sc_Edit___eq (fun vs H Q E h => ?_) (fun cdv A outer s H vs Q E hr h => ?_)
  · obtain ⟨B, x, b, z, sm, hw, h, kr⟩ := h
    rw [WLen.len hw]; rfl
  · obtain ⟨B, ⟨self0, other0⟩, b, z, sm, hw, h, kr⟩ := h
    have h : m_Edit___eq self0 other0 = some b := h
    refine ⟨_, (pss_cons (ps_ret (pe_and (pe_callB (isiK (K := K) rfl) (by rfl) T.b_isinstance (by decide +kernel) (pa_cons (pv 1) (pa_cons (pe_glob (v := .ref a.C_Edit) (by rfl) T.g_Edit rfl) pa_nil))) (pe_one (pe_cmpR (eqDK (K := K) rfl hr.units) (fldK (K := K) rfl (pv 0) rfl) (fldK (K := K) rfl (pv 1) rfl) (nomark _))))) pss_nil), ?_⟩
    refine nx_go (frm_start (N := N_Edit___eq) (n := 0) z sm hw (by rw [WLen.len hw]; rfl)) ?_
    show Nx _ _ [.imm (rIns a.C_Edit [("_placed" : Str), ("changes" : Str)] (wC (rDicN P w kyPlc (rOb (cTup (wC rStr (wC (rOb (cTpl rInt)) (wC (rOpt (rOb (cTpl rInt))) (w1 (rOpt (rOb (cTpl rInt)))))))))) (w1 (rOb (cTpl (rOb (cTup (wC rStr (wC (rOb (cTpl rInt)) (wC (rOpt (rOb (cTpl rInt))) (w1 (rOpt (rOb (cTpl rInt)))))))))))))) self0, .imm (rIns a.C_Edit [("_placed" : Str), ("changes" : Str)] (wC (rDicN P w kyPlc (rOb (cTup (wC rStr (wC (rOb (cTpl rInt)) (wC (rOpt (rOb (cTpl rInt))) (w1 (rOpt (rOb (cTpl rInt)))))))))) (w1 (rOb (cTpl (rOb (cTup (wC rStr (wC (rOb (cTpl rInt)) (wC (rOpt (rOb (cTpl rInt))) (w1 (rOpt (rOb (cTpl rInt)))))))))))))) other0]
    unfold m_Edit___eq at h
    obtain ⟨c3, hc3, h⟩ := letO_some h
    obtain ⟨b2, hb2, h⟩ := bindO_some h
    exact (sq_ret (ev_and (ev_to (ev_isi (ev_var rfl) (ty_ins T.ct_Edit) (.own _) T.q_Edit_Edit) hc3.symm) (fun hc => by have hx := iteO_t hc hb2; obtain ⟨q1, hq1, hx⟩ := bindO_some hx; exact ev_to (ev_eqD (da_tpl (da_tup (daw_C da_str (daw_C (da_tpl da_int) (daw_C (da_opt (da_tpl da_int)) (daw_1 (da_opt (da_tpl da_int)))))))) (da_tpl (da_tup (daw_C da_str (daw_C (da_tpl da_int) (daw_C (da_opt (da_tpl da_int)) (daw_1 (da_opt (da_tpl da_int)))))))) (ev_fld (ev_var rfl) (accS (acc1)) rfl (by decide +kernel) T.cl_Edit T.na_Edit_changes) (ev_fld (ev_var rfl) (accS (acc1)) rfl (by decide +kernel) T.cl_Edit T.na_Edit_changes) hq1) (Option.some.inj hx)) (fun hc => ⟨(Option.some.inj (iteO_f hc hb2)).symm, rfl⟩)) h kr)
theorem ok_Edit___eq___Vt (T : Txt K mg base a) : FnOk P w K mg base CX0 1 a.f_Edit___eq a.d_Edit___eq ["self", "other"] (SpP (wC (rIns a.C_Edit [("_placed" : Str), ("changes" : Str)] (wC (rDicN P w kyPlc (rOb (cTup (wC rStr (wC (rOb (cTpl rInt)) (wC (rOpt (rOb (cTpl rInt))) (w1 (rOpt (rOb (cTpl rInt)))))))))) (w1 (rOb (cTpl (rOb (cTup (wC rStr (wC (rOb (cTpl rInt)) (wC (rOpt (rOb (cTpl rInt))) (w1 (rOpt (rOb (cTpl rInt)))))))))))))) (w1 (rOb (cTpl (rOb (cTup (wC rStr (wC (rOb (cTpl rInt)) (wC (rOpt (rOb (cTpl rInt))) (w1 (rOpt (rOb (cTpl rInt))))))))))))) rBool (fun x => m_Edit___eq___Vt x.1 x.2)) := by
  refine T.F_Edit___eq.ok sc_Edit___eq (fun vs H Q E h => ?_) (fun cdv A outer s H vs Q E hr h => ?_)
  · obtain ⟨B, x, b, z, sm, hw, h, kr⟩ := h
    rw [WLen.len hw]; rfl
  · obtain ⟨B, ⟨self0, other0⟩, b, z, sm, hw, h, kr⟩ := h
    have h : m_Edit___eq___Vt self0 other0 = some b := h
    refine ⟨_, (pss_cons (ps_ret (pe_and (pe_callB (isiK (K := K) rfl) (by rfl) T.b_isinstance (by decide +kernel) (pa_cons (pv 1) (pa_cons (pe_glob (v := .ref a.C_Edit) (by rfl) T.g_Edit rfl) pa_nil))) (pe_one (pe_cmpR op_eq (fldK (K := K) rfl (pv 0) rfl) (fldK (K := K) rfl (pv 1) rfl) (nomark _))))) pss_nil), ?_⟩
    refine nx_go (frm_start (N := N_Edit___eq) (n := 0) z sm hw (by rw [WLen.len hw]; rfl)) ?_
    show Nx _ _ [.imm (rIns a.C_Edit [("_placed" : Str), ("changes" : Str)] (wC (rDicN P w kyPlc (rOb (cTup (wC rStr (wC (rOb (cTpl rInt)) (wC (rOpt (rOb (cTpl rInt))) (w1 (rOpt (rOb (cTpl rInt)))))))))) (w1 (rOb (cTpl (rOb (cTup (wC rStr (wC (rOb (cTpl rInt)) (wC (rOpt (rOb (cTpl rInt))) (w1 (rOpt (rOb (cTpl rInt)))))))))))))) self0, .imm (rOb (cTpl (rOb (cTup (wC rStr (wC (rOb (cTpl rInt)) (wC (rOpt (rOb (cTpl rInt))) (w1 (rOpt (rOb (cTpl rInt))))))))))) other0]
    unfold m_Edit___eq___Vt at h
    exact (sq_ret (ev_and (ev_isi (ev_var rfl) ty_tpl (.own _) T.q_tuple_Edit) (fun hc => nomatch hc) (fun _ => ⟨rfl, rfl⟩)) h kr)
theorem ok_Edit___len (T : Txt K mg base a) : FnOk P w K mg base CX0 1 a.f_Edit___len a.d_Edit___len ["self"] (SpP (w1 (rIns a.C_Edit [("_placed" : Str), ("changes" : Str)] (wC (rDicN P w kyPlc (rOb (cTup (wC rStr (wC (rOb (cTpl rInt)) (wC (rOpt (rOb (cTpl rInt))) (w1 (rOpt (rOb (cTpl rInt)))))))))) (w1 (rOb (cTpl (rOb (cTup (wC rStr (wC (rOb (cTpl rInt)) (wC (rOpt (rOb (cTpl rInt))) (w1 (rOpt (rOb (cTpl rInt))))))))))))))) rInt (fun x => m_Edit___len x)) := by
  refine T.F_Edit___len.ok sc_Edit___len (fun vs H Q E h => ?_) (fun cdv A outer s H vs Q E hr h => ?_)
  · obtain ⟨B, x, b, z, sm, hw, h, kr⟩ := h
    rw [WLen.len hw]; rfl
  · obtain ⟨B, self0, b, z, sm, hw, h, kr⟩ := h
    have h : m_Edit___len self0 = some b := h
    refine ⟨_, (pss_cons (ps_ret (pe_callB (len_seqK (K := K) rfl) (by rfl) T.b_len (by decide +kernel) (pa_cons (fldK (K := K) rfl (pv 0) rfl) pa_nil))) pss_nil), ?_⟩
    refine nx_go (frm_start (N := N_Edit___len) (n := 0) z sm hw (by rw [WLen.len hw]; rfl)) ?_
    show Nx _ _ [.imm (rIns a.C_Edit [("_placed" : Str), ("changes" : Str)] (wC (rDicN P w kyPlc (rOb (cTup (wC rStr (wC (rOb (cTpl rInt)) (wC (rOpt (rOb (cTpl rInt))) (w1 (rOpt (rOb (cTpl rInt)))))))))) (w1 (rOb (cTpl (rOb (cTup (wC rStr (wC (rOb (cTpl rInt)) (wC (rOpt (rOb (cTpl rInt))) (w1 (rOpt (rOb (cTpl rInt)))))))))))))) self0]
    unfold m_Edit___len at h
    exact (sq_ret (ev_lenT (ev_fld (ev_var rfl) (accS (acc1)) rfl (by decide +kernel) T.cl_Edit T.na_Edit_changes)) h kr)
theorem ok_Edit_deletes (T : Txt K mg base a) : FnOk P w K mg base CX0 1 a.f_Edit_deletes a.d_Edit_deletes ["self"] (SpP (w1 (rIns a.C_Edit [("_placed" : Str), ("changes" : Str)] (wC (rDicN P w kyPlc (rOb (cTup (wC rStr (wC (rOb (cTpl rInt)) (wC (rOpt (rOb (cTpl rInt))) (w1 (rOpt (rOb (cTpl rInt)))))))))) (w1 (rOb (cTpl (rOb (cTup (wC rStr (wC (rOb (cTpl rInt)) (wC (rOpt (rOb (cTpl rInt))) (w1 (rOpt (rOb (cTpl rInt))))))))))))))) rInt (fun x => m_Edit_deletes x)) := by
  refine T.F_Edit_deletes.ok sc_Edit_deletes (fun vs H Q E h => ?_) (fun cdv A outer s H vs Q E hr h => ?_)
  · obtain ⟨B, x, b, z, sm, hw, h, kr⟩ := h
    rw [WLen.len hw]; rfl
  · obtain ⟨B, self0, b, z, sm, hw, h, kr⟩ := h
    have h : m_Edit_deletes self0 = some b := h
    refine ⟨_, (pss_cons (ps_ret (pe_callB (len_seqK (K := K) rfl) (by rfl) T.b_len (by decide +kernel) (pa_cons (pe_lc (own := [("change", 1)]) rfl sc_Edit_deletes.nd (pi_tup (fldK (K := K) rfl (pv 0) rfl)) (blkOk_by (N := N_Edit_deletes) (sc := defScope s_Edit_deletes) (by decide +kernel)) (fun _ _ _ _ _ => (pg_name (i := 1) sc_Edit_deletes.nd rfl (by first | exact Or.inl rfl | exact Or.inr rfl))) (fun _ _ _ _ _ => (pts_one (pt_cmp (pc_isN (pe_ix (ix_tupK (K := K) rfl) (pv 1) pe_int (fun _ _ => rfl)))))) (fun _ _ _ _ _ => (pv 1))) pa_nil))) pss_nil), ?_⟩
    refine nx_go (frm_start (N := N_Edit_deletes) (n := 1) z sm hw (by rw [WLen.len hw]; rfl)) ?_
    show Nx _ _ [.imm (rIns a.C_Edit [("_placed" : Str), ("changes" : Str)] (wC (rDicN P w kyPlc (rOb (cTup (wC rStr (wC (rOb (cTpl rInt)) (wC (rOpt (rOb (cTpl rInt))) (w1 (rOpt (rOb (cTpl rInt)))))))))) (w1 (rOb (cTpl (rOb (cTup (wC rStr (wC (rOb (cTpl rInt)) (wC (rOpt (rOb (cTpl rInt))) (w1 (rOpt (rOb (cTpl rInt)))))))))))))) self0, .no]
    unfold m_Edit_deletes at h
    obtain ⟨l3, hl3, h⟩ := bindO_some h
    exact (sq_ret (ev_lenL (ev_new (ec_lc (m_Edit_deletes_c1) (it_tpl (ev_fld (ev_var rfl) (accS (acc1)) rfl (by decide +kernel) T.cl_Edit T.na_Edit_changes)) hl3 tg_name (fun k hk => hk) (by rfl) (fun _ => by rfl) (fun change1 o ho => by unfold m_Edit_deletes_c1 at ho; obtain ⟨c2, hc2, ho⟩ := letO_some ho; cases c2 with | true => (have ho : (some (some change1)) = some o := ho; cases ho; exact ⟨et_to (et_B (ev_isN (ev_ixU (k := 3) (ev_var rfl) (accS (accS (accS (acc1))))))) hc2.symm, fun y hy => by cases hy; exact ev_to (ev_var rfl) rfl⟩) | false => (have ho : some none = some o := ho; cases ho; exact ⟨et_to (et_B (ev_isN (ev_ixU (k := 3) (ev_var rfl) (accS (accS (accS (acc1))))))) hc2.symm, fun y hy => by cases hy⟩))))) h kr)
theorem ok_Edit_inserts (T : Txt K mg base a) : FnOk P w K mg base CX0 1 a.f_Edit_inserts a.d_Edit_inserts ["self"] (SpP (w1 (rIns a.C_Edit [("_placed" : Str), ("changes" : Str)] (wC (rDicN P w kyPlc (rOb (cTup (wC rStr (wC (rOb (cTpl rInt)) (wC (rOpt (rOb (cTpl rInt))) (w1 (rOpt (rOb (cTpl rInt)))))))))) (w1 (rOb (cTpl (rOb (cTup (wC rStr (wC (rOb (cTpl rInt)) (wC (rOpt (rOb (cTpl rInt))) (w1 (rOpt (rOb (cTpl rInt))))))))))))))) rInt (fun x => m_Edit_inserts x)) := by
  refine T.F_Edit_inserts.ok sc_Edit_inserts (fun vs H Q E h => ?_) (fun cdv A outer s H vs Q E hr h => ?_)
  · obtain ⟨B, x, b, z, sm, hw, h, kr⟩ := h
    rw [WLen.len hw]; rfl
  · obtain ⟨B, self0, b, z, sm, hw, h, kr⟩ := h
    have h : m_Edit_inserts self0 = some b := h
    refine ⟨_, (pss_cons (ps_ret (pe_callB (len_seqK (K := K) rfl) (by rfl) T.b_len (by decide +kernel) (pa_cons (pe_lc (own := [("change", 1)]) rfl sc_Edit_inserts.nd (pi_tup (fldK (K := K) rfl (pv 0) rfl)) (blkOk_by (N := N_Edit_inserts) (sc := defScope s_Edit_inserts) (by decide +kernel)) (fun _ _ _ _ _ => (pg_name (i := 1) sc_Edit_inserts.nd rfl (by first | exact Or.inl rfl | exact Or.inr rfl))) (fun _ _ _ _ _ => (pts_one (pt_cmp (pc_isN (pe_ix (ix_tupK (K := K) rfl) (pv 1) pe_int (fun _ _ => rfl)))))) (fun _ _ _ _ _ => (pv 1))) pa_nil))) pss_nil), ?_⟩
    refine nx_go (frm_start (N := N_Edit_inserts) (n := 1) z sm hw (by rw [WLen.len hw]; rfl)) ?_
    show Nx _ _ [.imm (rIns a.C_Edit [("_placed" : Str), ("changes" : Str)] (wC (rDicN P w kyPlc (rOb (cTup (wC rStr (wC (rOb (cTpl rInt)) (wC (rOpt (rOb (cTpl rInt))) (w1 (rOpt (rOb (cTpl rInt)))))))))) (w1 (rOb (cTpl (rOb (cTup (wC rStr (wC (rOb (cTpl rInt)) (wC (rOpt (rOb (cTpl rInt))) (w1 (rOpt (rOb (cTpl rInt)))))))))))))) self0, .no]
    unfold m_Edit_inserts at h
    obtain ⟨l3, hl3, h⟩ := bindO_some h
    exact (sq_ret (ev_lenL (ev_new (ec_lc (m_Edit_inserts_c1) (it_tpl (ev_fld (ev_var rfl) (accS (acc1)) rfl (by decide +kernel) T.cl_Edit T.na_Edit_changes)) hl3 tg_name (fun k hk => hk) (by rfl) (fun _ => by rfl) (fun change1 o ho => by unfold m_Edit_inserts_c1 at ho; obtain ⟨c2, hc2, ho⟩ := letO_some ho; cases c2 with | true => (have ho : (some (some change1)) = some o := ho; cases ho; exact ⟨et_to (et_B (ev_isN (ev_ixU (k := 2) (ev_var rfl) (accS (accS (acc0)))))) hc2.symm, fun y hy => by cases hy; exact ev_to (ev_var rfl) rfl⟩) | false => (have ho : some none = some o := ho; cases ho; exact ⟨et_to (et_B (ev_isN (ev_ixU (k := 2) (ev_var rfl) (accS (accS (acc0)))))) hc2.symm, fun y hy => by cases hy⟩))))) h kr)
theorem ok_Edit_sets (T : Txt K mg base a) : FnOk P w K mg base CX0 3 a.f_Edit_sets a.d_Edit_sets ["self"] (SpP (w1 (rIns a.C_Edit [("_placed" : Str), ("changes" : Str)] (wC (rDicN P w kyPlc (rOb (cTup (wC rStr (wC (rOb (cTpl rInt)) (wC (rOpt (rOb (cTpl rInt))) (w1 (rOpt (rOb (cTpl rInt)))))))))) (w1 (rOb (cTpl (rOb (cTup (wC rStr (wC (rOb (cTpl rInt)) (wC (rOpt (rOb (cTpl rInt))) (w1 (rOpt (rOb (cTpl rInt))))))))))))))) rInt (fun x => m_Edit_sets x)) := by
  refine T.F_Edit_sets.ok sc_Edit_sets (fun vs H Q E h => ?_) (fun cdv A outer s H vs Q E hr h => ?_)
  · obtain ⟨B, x, b, z, sm, hw, h, kr⟩ := h
    rw [WLen.len hw]; rfl
  · obtain ⟨B, self0, b, z, sm, hw, h, kr⟩ := h
    have h : m_Edit_sets self0 = some b := h
    refine ⟨_, (pss_cons (ps_ret (pe_op op_sub (pe_op op_sub (pe_callB (len_seqK (K := K) rfl) (by rfl) T.b_len (by decide +kernel) (pa_cons (fldK (K := K) rfl (pv 0) rfl) pa_nil)) (pe_prop (pv 0) T.cl_Edit T.pr_Edit_deletes (ok_Edit_deletes T) (hr.mono (by decide)) T.n_Edit_deletes .nil pass0 rfl)) (pe_prop (pv 0) T.cl_Edit T.pr_Edit_inserts (ok_Edit_inserts T) (hr.mono (by decide)) T.n_Edit_inserts .nil pass0 rfl))) pss_nil), ?_⟩
    refine nx_go (frm_start (N := N_Edit_sets) (n := 0) z sm hw (by rw [WLen.len hw]; rfl)) ?_
    show Nx _ _ [.imm (rIns a.C_Edit [("_placed" : Str), ("changes" : Str)] (wC (rDicN P w kyPlc (rOb (cTup (wC rStr (wC (rOb (cTpl rInt)) (wC (rOpt (rOb (cTpl rInt))) (w1 (rOpt (rOb (cTpl rInt)))))))))) (w1 (rOb (cTpl (rOb (cTup (wC rStr (wC (rOb (cTpl rInt)) (wC (rOpt (rOb (cTpl rInt))) (w1 (rOpt (rOb (cTpl rInt)))))))))))))) self0]
    unfold m_Edit_sets at h
    obtain ⟨v1, hv1, h⟩ := bindO_some h
    obtain ⟨v2, hv2, h⟩ := bindO_some h
    exact (sq_ret (ev_sub (ev_sub (ev_lenT (ev_fld (ev_var rfl) (accS (acc1)) rfl (by decide +kernel) T.cl_Edit T.na_Edit_changes)) (ev_prop (ev_var rfl) hv1)) (ev_prop (ev_var rfl) hv2)) h kr)
theorem ok_l_start (T : Txt K mg base a) : FnOk P w K mg base CX0 1 a.f_l_start a.d_l_start ["_law_script"] (SpC (w1 (rScr K)) (cHls (wC (rOb (cLst rInt)) (wC rInt (wC rInt (w1 rInt))))) (fun x => m_l_start x)) := by
  refine T.F_l_start.ok sc_l_start (fun vs H Q E h => ?_) (fun cdv A outer s H vs Q E hr h => ?_)
  · obtain ⟨B, x, b, z, sm, hw, h, kr⟩ := h
    rw [WLen.len hw]; rfl
  · obtain ⟨B, script0, b, z, sm, hw, h, kr⟩ := h
    have h : m_l_start script0 = some b := h
    have kr : RtC (amb0 B H) (cHls (wC (rOb (cLst rInt)) (wC rInt (wC rInt (w1 rInt))))) b Q := kr
    refine ⟨_, (pss_cons (ps_set (i := 1) sc_l_start.nd rfl (by first | exact Or.inl rfl | exact Or.inr rfl) pe_int) (Evl.pss_cut (ps_if (pt_cmpR op_gt (pe_callB (len_seqK (K := K) rfl) (by rfl) T.b_len (by decide +kernel) (pa_cons (pv 0) pa_nil)) pe_int (nomark _)) (pss_cons (ps_set (i := 1) sc_l_start.nd rfl (by first | exact Or.inl rfl | exact Or.inr rfl) (pe_ix (ix_listK (K := K) rfl) (pv 0) pe_int (fun _ _ => rfl))) pss_nil) pss_nil) (pss_cons (ps_ret (pe_lst (pa_cons (pe_callTy (list_ofK (K := K) rfl) (by rfl) T.b_list (by decide +kernel) (pa_cons (pv 0) pa_nil)) (pa_cons pe_int (pa_cons (pv 1) (pa_cons pe_int pa_nil)))))) pss_nil))), ?_⟩
    refine nx_go (frm_start (N := N_l_start) (n := 1) z sm hw (by rw [WLen.len hw]; rfl)) ?_
    show Nx _ _ [.imm (rScr K) script0, .no]
    unfold m_l_start at h
    obtain ⟨first1, hfirst1, h⟩ := letO_some h
    refine (sq_asg (ev_to ev_int hfirst1.symm) ?_)
    show Nx _ _ [.imm (rScr K) script0, .imm rInt first1]
    obtain ⟨c2, hc2, h⟩ := letO_some h
    obtain ⟨j3, hj3, h2⟩ := bindO_some h
    have h := hj3
    refine nx_cut [.imm (rScr K) script0, .imm rInt j3] (nx_if (et_to (et_T (ev_gt (ev_lenC (ev_var rfl)) ev_int)) hc2.symm) (fun hc => ?_) (fun hc => ?_)) ?_
    · clear h2 hj3
      have h := iteO_t hc h
      obtain ⟨y4, hy4, h⟩ := bindO_some h
      obtain ⟨first5, hfirst5, h⟩ := letO_some h
      refine (sq_asg (ev_to (ev_ixC (ev_var rfl) ev_int hy4) hfirst5.symm) ?_)
      show Nx _ _ [.imm (rScr K) script0, .imm rInt first5]
      obtain rfl := Option.some.inj h
      exact nx_fin
    · clear h2 hj3
      have h := iteO_f hc h
      obtain rfl := Option.some.inj h
      exact nx_fin
    · clear h
      have h := h2
      obtain ⟨l6, hl6, h⟩ := bindO_some h
      exact (sq_retC (ec_hls (ew_C (ev_new (ec_listC (ev_var rfl) hl6)) (ew_C ev_int (ew_C (ev_var rfl) (ew_1 ev_int))))) h kr)
theorem ok_l_draw (T : Txt K mg base a) : FnOk P w K mg base CX0 1 a.f_l_draw a.d_l_draw ["_law_state", "_law_many"] (SpS (cHls (wC (rOb (cLst rInt)) (wC rInt (wC rInt (w1 rInt))))) (w1 rInt) rInt (fun st x => m_l_draw st x)) := by
  refine T.F_l_draw.ok sc_l_draw (fun vs H Q E h => ?_) (fun cdv A outer s H vs Q E hr h => ?_)
  · obtain ⟨p, vs', B, o, st, x, b, rfl, z, sm, hB, hp, ko, hw, h, kr⟩ := h
    show vs'.length + 1 = _; rw [WLen.len hw]; rfl
  · obtain ⟨p, vs', B, o, st0, many0, b, rfl, z, sm, hB, hp, ko, hw, h, kr⟩ := h
    have h : m_l_draw st0 many0 = some b := h
    refine ⟨_, (pss_cons (ps_if (pt_cmpR op_ge (pe_ix (ix_listK (K := K) rfl) (pv 0) pe_int (fun _ _ => rfl)) (pe_op op_pow pe_int pe_int) (nomark _)) (pss_cons (ps_set (i := 2) sc_l_draw.nd rfl (by first | exact Or.inl rfl | exact Or.inr rfl) (pe_op op_mod (pe_callTy call_int1 (by rfl) T.b_int (by decide +kernel) (pa_cons (pe_ix (ix_listK (K := K) rfl) (pv 0) pe_int (fun _ _ => rfl)) pa_nil)) (pv 1))) (pss_cons (ps_asg (pe_op op_fdivW (pe_ix (ix_listK (K := K) rfl) (pv 0) pe_int (fun _ _ => rfl)) (pv 1)) (pg_sub (pv 0) pe_int set_list)) (pss_cons (ps_ret (pv 2)) pss_nil))) pss_nil) (pss_cons (ps_asg (pe_op op_add (pe_ix (ix_listK (K := K) rfl) (pv 0) pe_int (fun _ _ => rfl)) pe_int) (pg_sub (pv 0) pe_int set_list)) (pss_cons (ps_set (i := 3) sc_l_draw.nd rfl (by first | exact Or.inl rfl | exact Or.inr rfl) (pe_op op_add (pe_op op_add (pe_op op_mod (pe_callTy call_int1 (by rfl) T.b_int (by decide +kernel) (pa_cons (pe_ix (ix_listK (K := K) rfl) (pv 0) pe_int (fun _ _ => rfl)) pa_nil)) pe_int) (pe_op op_mul pe_int (pe_ix (ix_listK (K := K) rfl) (pv 0) pe_int (fun _ _ => rfl)))) pe_int)) (pss_cons (ps_set (i := 4) sc_l_draw.nd rfl (by first | exact Or.inl rfl | exact Or.inr rfl) (pe_op op_mod (pe_op op_pow (pv 3) pe_int) pe_int)) (Evl.pss_cut (ps_if (pt_cmpR op_lt (pe_ix (ix_listK (K := K) rfl) (pv 0) pe_int (fun _ _ => rfl)) (pe_callB (len_seqK (K := K) rfl) (by rfl) T.b_len (by decide +kernel) (pa_cons (pe_ix (ix_listK (K := K) rfl) (pv 0) pe_int (fun _ _ => rfl)) pa_nil)) (nomark _)) (pss_cons (ps_asg (pe_ix (ix_listK (K := K) rfl) (pe_ix (ix_listK (K := K) rfl) (pv 0) pe_int (fun _ _ => rfl)) (pe_ix (ix_listK (K := K) rfl) (pv 0) pe_int (fun _ _ => rfl)) (fun _ _ => rfl)) (pg_sub (pv 0) pe_int set_list)) (pss_cons (ps_asg (pe_op op_add (pe_ix (ix_listK (K := K) rfl) (pv 0) pe_int (fun _ _ => rfl)) pe_int) (pg_sub (pv 0) pe_int set_list)) pss_nil)) pss_nil) (pss_cons (ps_ret (pe_op op_mod (pe_op op_fdivW (pe_callTy call_int1 (by rfl) T.b_int (by decide +kernel) (pa_cons (pv 4) pa_nil)) pe_int) (pv 1))) pss_nil)))))), ?_⟩
    refine nx_go (frm_startS (N := N_l_draw) (n := 3) z sm hB hp ko hw (by rw [WLen.len hw]; rfl)) ?_
    show Nx _ _ [.cel p (cHls (wC (rOb (cLst rInt)) (wC rInt (wC rInt (w1 rInt))))) st0, .imm rInt many0, .no, .no, .no]
    unfold m_l_draw at h
    obtain ⟨c1, hc1, h⟩ := letO_some h
    refine (sq_if (et_to (et_T (ev_ge (ev_celR (k := 2) rfl (accS (accS (acc0)))) (ev_pow ev_int ev_int (by unfold CPow; decide)))) hc1.symm) (fun hc => ?_) (fun hc => ?_))
    · have h := iteO_t hc h
      obtain ⟨r2, hr2, h⟩ := bindO_some h
      obtain ⟨drawn3, hdrawn3, h⟩ := letO_some h
      refine (sq_asg (ev_to (ev_modP (ev_int1 (ev_celR (k := 2) rfl (accS (accS (acc0))))) (ev_var rfl) hr2) hdrawn3.symm) ?_)
      show Nx _ _ [.cel p (cHls (wC (rOb (cLst rInt)) (wC rInt (wC rInt (w1 rInt))))) st0, .imm rInt many0, .imm rInt drawn3, .no, .no]
      obtain ⟨q4, hq4, h⟩ := bindO_some h
      obtain ⟨z5, hz5, h⟩ := letO_some h
      refine (sq_setR (k := 2) (ev_divP (ev_celR (k := 2) rfl (accS (accS (acc0)))) (ev_var rfl) hq4) rfl (updS (updS (upd0))) (nx_cel (i := 0) rfl hz5.symm ?_))
      show Nx _ _ [.cel p (cHls (wC (rOb (cLst rInt)) (wC rInt (wC rInt (w1 rInt))))) z5, .imm rInt many0, .imm rInt drawn3, .no, .no]
      exact (sq_retS (i := 0) (ev_var rfl) rfl h kr)
    · have h := iteO_f hc h
      refine nx_next ?_
      try dsimp only
      obtain ⟨z6, hz6, h⟩ := letO_some h
      refine (sq_setR (k := 3) (ev_add (ev_celR (k := 3) rfl (accS (accS (accS (acc1))))) ev_int) rfl (updS (updS (updS (upd1)))) (nx_cel (i := 0) rfl hz6.symm ?_))
      show Nx _ _ [.cel p (cHls (wC (rOb (cLst rInt)) (wC rInt (wC rInt (w1 rInt))))) z6, .imm rInt many0, .no, .no, .no]
      obtain ⟨seed7, hseed7, h⟩ := letO_some h
      refine (sq_asg (ev_to (ev_add (ev_add (ev_mod (ev_int1 (ev_celR (k := 2) rfl (accS (accS (acc0))))) ev_int (by decide)) (ev_mul ev_int (ev_celR (k := 3) rfl (accS (accS (accS (acc1))))) (.inl (by decide)))) ev_int) hseed7.symm) ?_)
      show Nx _ _ [.cel p (cHls (wC (rOb (cLst rInt)) (wC rInt (wC rInt (w1 rInt))))) z6, .imm rInt many0, .no, .imm rInt seed7, .no]
      obtain ⟨w8, hw8, h⟩ := bindO_some h
      obtain ⟨mixed9, hmixed9, h⟩ := letO_some h
      refine (sq_asg (ev_to (ev_mod (ev_powP (ev_var rfl) ev_int hw8) ev_int (by decide)) hmixed9.symm) ?_)
      show Nx _ _ [.cel p (cHls (wC (rOb (cLst rInt)) (wC rInt (wC rInt (w1 rInt))))) z6, .imm rInt many0, .no, .imm rInt seed7, .imm rInt mixed9]
      obtain ⟨c10, hc10, h⟩ := letO_some h
      obtain ⟨j11, hj11, h2⟩ := bindO_some h
      have h := hj11
      refine nx_cut [.cel p (cHls (wC (rOb (cLst rInt)) (wC rInt (wC rInt (w1 rInt))))) j11, .imm rInt many0, .no, .imm rInt seed7, .imm rInt mixed9] (nx_if (et_to (et_T (ev_lt (ev_celR (k := 1) rfl (accS (acc0))) (ev_lenL (ev_celR (k := 0) rfl (acc0))))) hc10.symm) (fun hc => ?_) (fun hc => ?_)) ?_
      · clear h2 hj11
        have h := iteO_t hc h
        obtain ⟨y12, hy12, h⟩ := bindO_some h
        obtain ⟨z13, hz13, h⟩ := letO_some h
        refine (sq_setR (k := 2) (ev_ixL (ev_celR (k := 0) rfl (acc0)) (ev_celR (k := 1) rfl (accS (acc0))) hy12) rfl (updS (updS (upd0))) (nx_cel (i := 0) rfl hz13.symm ?_))
        show Nx _ _ [.cel p (cHls (wC (rOb (cLst rInt)) (wC rInt (wC rInt (w1 rInt))))) z13, .imm rInt many0, .no, .imm rInt seed7, .imm rInt mixed9]
        obtain ⟨z14, hz14, h⟩ := letO_some h
        refine (sq_setR (k := 1) (ev_add (ev_celR (k := 1) rfl (accS (acc0))) ev_int) rfl (updS (upd0)) (nx_cel (i := 0) rfl hz14.symm ?_))
        show Nx _ _ [.cel p (cHls (wC (rOb (cLst rInt)) (wC rInt (wC rInt (w1 rInt))))) z14, .imm rInt many0, .no, .imm rInt seed7, .imm rInt mixed9]
        obtain rfl := Option.some.inj h
        exact nx_fin
      · clear h2 hj11
        have h := iteO_f hc h
        obtain rfl := Option.some.inj h
        exact nx_fin
      · clear h
        have h := h2
        obtain ⟨r15, hr15, h⟩ := bindO_some h
        exact (sq_retS (i := 0) (ev_modP (ev_divW (ev_int1 (ev_var rfl)) ev_int (by unfold CDivW; decide)) (ev_var rfl) hr15) rfl h kr)
theorem ok_l_row (T : Txt K mg base a) : FnOk P w K mg base CX0 2 a.f_l_row a.d_l_row ["_law_state"] (SpS (cHls (wC (rOb (cLst rInt)) (wC rInt (wC rInt (w1 rInt))))) w0 (rOpt (rOb (cTpl rInt))) (fun st x => m_l_row st)) := by
  refine T.F_l_row.ok sc_l_row (fun vs H Q E h => ?_) (fun cdv A outer s H vs Q E hr h => ?_)
  · obtain ⟨p, vs', B, o, st, x, b, rfl, z, sm, hB, hp, ko, hw, h, kr⟩ := h
    show vs'.length + 1 = _; rw [WLen.len hw]; rfl
  · obtain ⟨p, vs', B, o, st0, _x, b, rfl, z, sm, hB, hp, ko, hw, h, kr⟩ := h
    have h : m_l_row st0  = some b := h
    refine ⟨_, (pss_cons (ps_if (pt_cmpR op_eq (pe_call (ok_l_draw T) (hr.mono (by decide)) rfl T.g_l_draw T.F_l_draw.kp T.n_l_draw .nil pass0 (pa_cons (pv 0) (pa_cons pe_int pa_nil))) pe_int (nomark _)) (pss_cons (ps_ret pe_non) pss_nil) pss_nil) (pss_cons (ps_set (i := 1) sc_l_row.nd rfl (by first | exact Or.inl rfl | exact Or.inr rfl) (pe_op op_add pe_int (pe_call (ok_l_draw T) (hr.mono (by decide)) rfl T.g_l_draw T.F_l_draw.kp T.n_l_draw .nil pass0 (pa_cons (pv 0) (pa_cons pe_int pa_nil))))) (pss_cons (ps_ret (pe_callTy (tuple_ofK (K := K) rfl) (by rfl) T.b_tuple (by decide +kernel) (pa_cons (pe_lc (own := [("_law_k", 2)]) rfl sc_l_row.nd (pi_range1 rfl T.b_range (pa_cons (pv 1) pa_nil)) (blkOk_by (N := N_l_row) (sc := defScope s_l_row) (by decide +kernel)) (fun _ _ _ _ _ => (pg_name (i := 2) sc_l_row.nd rfl (by first | exact Or.inl rfl | exact Or.inr rfl))) (fun _ _ _ _ _ => pts_nil) (fun _ _ _ _ _ => (pe_ix (ix_listK (K := K) rfl) (pe_lst (pa_cons pe_int (pa_cons pe_int (pa_cons pe_int (pa_cons pe_int (pa_cons (pe_un un_neg pe_int) (pa_cons (pe_op op_pow pe_int pe_int) pa_nil))))))) (pe_call (ok_l_draw T) (hr.mono (by decide)) rfl T.g_l_draw T.F_l_draw.kp T.n_l_draw .nil pass0 (pa_cons (pv 0) (pa_cons pe_int pa_nil))) (fun _ _ => rfl)))) pa_nil))) pss_nil))), ?_⟩
    refine nx_go (frm_startS (N := N_l_row) (n := 2) z sm hB hp ko hw (by rw [WLen.len hw]; rfl)) ?_
    show Nx _ _ [.cel p (cHls (wC (rOb (cLst rInt)) (wC rInt (wC rInt (w1 rInt))))) st0, .no, .no]
    unfold m_l_row at h
    obtain ⟨p1, hp1, h⟩ := bindO_some h
    obtain ⟨c2, hc2, h⟩ := letO_some h
    refine (sq_if (et_to (et_T (ev_eqS scInt (ev_callS (ew_1 ev_int) rfl rfl hp1) ev_int rfl)) hc2.symm) (fun hc => ?_) (fun hc => ?_))
    · have h := iteO_t hc h
      exact (sq_retS (i := 0) (ev_none (r := (rOb (cTpl rInt)))) rfl h kr)
    · have h := iteO_f hc h
      refine nx_next ?_
      try dsimp only
      obtain ⟨p3, hp3, h⟩ := bindO_some h
      obtain ⟨size4, hsize4, h⟩ := letO_some h
      refine (sq_asg (ev_to (ev_add ev_int (ev_callS (ew_1 ev_int) rfl rfl hp3)) hsize4.symm) ?_)
      show Nx _ _ [.cel p (cHls (wC (rOb (cLst rInt)) (wC rInt (wC rInt (w1 rInt))))) p3.2, .imm rInt size4, .no]
      obtain ⟨l5, hl5, h⟩ := bindO_some h
      obtain ⟨l10, hl10, h⟩ := bindO_some h
      exact (sq_retS (i := 0) (ev_some nn_ob (ev_new (ec_tupL (ev_new (ec_lcS m_l_row_c1 (fun z => [.cel p (cHls (wC (rOb (cLst rInt)) (wC rInt (wC rInt (w1 rInt))))) z, .imm rInt size4, .no]) (it_rng1 (ew_1 (ev_var rfl)) hl5) hl10 (fun A2 => nx_fin) (fun _ => rfl) (fun _ => tg_name) (fun k hk => hk) (fun _ _ => rfl) (fun k6 st7 o s2 ho => by unfold m_l_row_c1 at ho; obtain ⟨p8, hp8, ho⟩ := bindO_some ho; obtain ⟨y9, hy9, ho⟩ := bindO_some ho; obtain ⟨ho1, ho2⟩ := Prod.mk.inj (Option.some.inj ho); subst ho1; subst ho2; exact ⟨st7, et_yes, fun y hy => by cases hy; exact ev_to (ev_ixL (ev_new (ec_lst (eh_C ev_int (eh_C ev_int (eh_C ev_int (eh_C ev_int (eh_C (ev_neg ev_int) (eh_C (ev_pow ev_int ev_int (by unfold CPow; decide)) eh_0)))))) (Nat.le_of_ble_eq_true rfl))) (ev_callS (ew_1 ev_int) rfl rfl hp8) hy9) rfl, fun hn => by cases hn⟩)))))) rfl h kr)
theorem ok_l_place (T : Txt K mg base a) : FnOk P w K mg base CX0 2 a.f_l_place a.d_l_place ["_law_state"] (SpS (cHls (wC (rOb (cLst rInt)) (wC rInt (wC rInt (w1 rInt))))) w0 (rOb (cTup (wC rStr (w1 (rOb (cTpl rInt)))))) (fun st x => m_l_place st)) := by
  refine T.F_l_place.ok sc_l_place (fun vs H Q E h => ?_) (fun cdv A outer s H vs Q E hr h => ?_)
  · obtain ⟨p, vs', B, o, st, x, b, rfl, z, sm, hB, hp, ko, hw, h, kr⟩ := h
    show vs'.length + 1 = _; rw [WLen.len hw]; rfl
  · obtain ⟨p, vs', B, o, st0, _x, b, rfl, z, sm, hB, hp, ko, hw, h, kr⟩ := h
    have h : m_l_place st0  = some b := h
    refine ⟨_, (pss_cons (ps_set (i := 1) sc_l_place.nd rfl (by first | exact Or.inl rfl | exact Or.inr rfl) (pe_ix (ix_listK (K := K) rfl) (pe_lst (pa_cons pe_str (pa_cons pe_str (pa_cons pe_str (pa_cons pe_str (pa_cons pe_str pa_nil)))))) (pe_call (ok_l_draw T) (hr.mono (by decide)) rfl T.g_l_draw T.F_l_draw.kp T.n_l_draw .nil pass0 (pa_cons (pv 0) (pa_cons pe_int pa_nil))) (fun _ _ => rfl))) (pss_cons (ps_set (i := 2) sc_l_place.nd rfl (by first | exact Or.inl rfl | exact Or.inr rfl) (pe_op op_add pe_int (pe_call (ok_l_draw T) (hr.mono (by decide)) rfl T.g_l_draw T.F_l_draw.kp T.n_l_draw .nil pass0 (pa_cons (pv 0) (pa_cons pe_int pa_nil))))) (pss_cons (ps_ret (pe_tup (pa_cons (pv 1) (pa_cons (pe_callTy (tuple_ofK (K := K) rfl) (by rfl) T.b_tuple (by decide +kernel) (pa_cons (pe_lc (own := [("_law_k", 3)]) rfl sc_l_place.nd (pi_range1 rfl T.b_range (pa_cons (pv 2) pa_nil)) (blkOk_by (N := N_l_place) (sc := defScope s_l_place) (by decide +kernel)) (fun _ _ _ _ _ => (pg_name (i := 3) sc_l_place.nd rfl (by first | exact Or.inl rfl | exact Or.inr rfl))) (fun _ _ _ _ _ => pts_nil) (fun _ _ _ _ _ => (pe_ix (ix_listK (K := K) rfl) (pe_lst (pa_cons pe_int (pa_cons pe_int (pa_cons pe_int (pa_cons pe_int (pa_cons pe_int (pa_cons (pe_un un_neg pe_int) (pa_cons (pe_op op_pow pe_int pe_int) pa_nil)))))))) (pe_call (ok_l_draw T) (hr.mono (by decide)) rfl T.g_l_draw T.F_l_draw.kp T.n_l_draw .nil pass0 (pa_cons (pv 0) (pa_cons pe_int pa_nil))) (fun _ _ => rfl)))) pa_nil)) pa_nil)))) pss_nil))), ?_⟩
    refine nx_go (frm_startS (N := N_l_place) (n := 3) z sm hB hp ko hw (by rw [WLen.len hw]; rfl)) ?_
    show Nx _ _ [.cel p (cHls (wC (rOb (cLst rInt)) (wC rInt (wC rInt (w1 rInt))))) st0, .no, .no, .no]
    unfold m_l_place at h
    obtain ⟨p1, hp1, h⟩ := bindO_some h
    obtain ⟨y2, hy2, h⟩ := bindO_some h
    obtain ⟨name3, hname3, h⟩ := letO_some h
    refine (sq_asg (ev_to (ev_ixL (ev_new (ec_lst (eh_C ev_str (eh_C ev_str (eh_C ev_str (eh_C ev_str (eh_C ev_str eh_0))))) (Nat.le_of_ble_eq_true rfl))) (ev_callS (ew_1 ev_int) rfl rfl hp1) hy2) hname3.symm) ?_)
    show Nx _ _ [.cel p (cHls (wC (rOb (cLst rInt)) (wC rInt (wC rInt (w1 rInt))))) p1.2, .imm rStr name3, .no, .no]
    obtain ⟨p4, hp4, h⟩ := bindO_some h
    obtain ⟨size5, hsize5, h⟩ := letO_some h
    refine (sq_asg (ev_to (ev_add ev_int (ev_callS (ew_1 ev_int) rfl rfl hp4)) hsize5.symm) ?_)
    show Nx _ _ [.cel p (cHls (wC (rOb (cLst rInt)) (wC rInt (wC rInt (w1 rInt))))) p4.2, .imm rStr name3, .imm rInt size5, .no]
    obtain ⟨l6, hl6, h⟩ := bindO_some h
    obtain ⟨l11, hl11, h⟩ := bindO_some h
    exact (sq_retS (i := 0) (ev_new (ec_tup (ew_C (ev_var rfl) (ew_1 (ev_new (ec_tupL (ev_new (ec_lcS m_l_place_c1 (fun z => [.cel p (cHls (wC (rOb (cLst rInt)) (wC rInt (wC rInt (w1 rInt))))) z, .imm rStr name3, .imm rInt size5, .no]) (it_rng1 (ew_1 (ev_var rfl)) hl6) hl11 (fun A2 => nx_fin) (fun _ => rfl) (fun _ => tg_name) (fun k hk => hk) (fun _ _ => rfl) (fun k7 st8 o s2 ho => by unfold m_l_place_c1 at ho; obtain ⟨p9, hp9, ho⟩ := bindO_some ho; obtain ⟨y10, hy10, ho⟩ := bindO_some ho; obtain ⟨ho1, ho2⟩ := Prod.mk.inj (Option.some.inj ho); subst ho1; subst ho2; exact ⟨st8, et_yes, fun y hy => by cases hy; exact ev_to (ev_ixL (ev_new (ec_lst (eh_C ev_int (eh_C ev_int (eh_C ev_int (eh_C ev_int (eh_C ev_int (eh_C (ev_neg ev_int) (eh_C (ev_pow ev_int ev_int (by unfold CPow; decide)) eh_0))))))) (Nat.le_of_ble_eq_true rfl))) (ev_callS (ew_1 ev_int) rfl rfl hp9) hy10) rfl, fun hn => by cases hn⟩))))))))) rfl h kr)
theorem ok_l_changes (T : Txt K mg base a) : FnOk P w K mg base CX0 3 a.f_l_changes a.d_l_changes ["_law_state"] (SpM (mwK (cHls (wC (rOb (cLst rInt)) (wC rInt (wC rInt (w1 rInt))))) mwN) (tK (cLst (rOb (cTup (wC rStr (wC (rOb (cTpl rInt)) (wC (rOpt (rOb (cTpl rInt))) (w1 (rOpt (rOb (cTpl rInt))))))))))) (fun g x => m_l_changes g.1)) := by
  refine T.F_l_changes.ok sc_l_changes (fun vs H Q E h => ?_) (fun cdv A outer s H vs Q E hr h => ?_)
  · obtain ⟨B, o, g, x, b, z, sm, ho, hw, hi, h, kr⟩ := h
    exact Mw.olen _ hw
  · obtain ⟨B, o, g, x, b, z, sm, ho, hw, hi, h, kr⟩ := h
    obtain ⟨state0, gu⟩ := g
    obtain ⟨xu⟩ := x
    obtain ⟨p_0, t_0, u_0, rfl, o_0, hp_0, k_0, hw⟩ := hw
    obtain ⟨_, _, e_0, hi⟩ := hi; cases e_0
    cases (show _ = ([] : List V) from hw)
    have h : m_l_changes state0 = some b := h
    refine ⟨_, (pss_cons (ps_set (i := 1) sc_l_changes.nd rfl (by first | exact Or.inl rfl | exact Or.inr rfl) (pe_lst pa_nil)) (pss_cons (ps_for PassesOwn.never rfl (pi_range1 rfl T.b_range (pa_cons (pe_call (ok_l_draw T) (hr.mono (by decide)) rfl T.g_l_draw T.F_l_draw.kp T.n_l_draw .nil pass0 (pa_cons (pv 0) (pa_cons pe_int pa_nil))) pa_nil)) (pg_name (i := 2) sc_l_changes.nd rfl (by first | exact Or.inl rfl | exact Or.inr rfl)) (pss_cons (ps_set (i := 3) sc_l_changes.nd rfl (by first | exact Or.inl rfl | exact Or.inr rfl) (pe_call (ok_l_draw T) (hr.mono (by decide)) rfl T.g_l_draw T.F_l_draw.kp T.n_l_draw .nil pass0 (pa_cons (pv 0) (pa_cons pe_int pa_nil)))) (pss_cons (ps_set (i := 4) sc_l_changes.nd rfl (by first | exact Or.inl rfl | exact Or.inr rfl) (pe_call (ok_l_place T) (hr.mono (by decide)) rfl T.g_l_place T.F_l_place.kp T.n_l_place .nil pass0 (pa_cons (pv 0) pa_nil))) (pss_cons (ps_set (i := 5) sc_l_changes.nd rfl (by first | exact Or.inl rfl | exact Or.inr rfl) (pe_call (ok_l_row T) (hr.mono (by decide)) rfl T.g_l_row T.F_l_row.kp T.n_l_row .nil pass0 (pa_cons (pv 0) pa_nil))) (pss_cons (ps_set (i := 6) sc_l_changes.nd rfl (by first | exact Or.inl rfl | exact Or.inr rfl) (pe_call (ok_l_row T) (hr.mono (by decide)) rfl T.g_l_row T.F_l_row.kp T.n_l_row .nil pass0 (pa_cons (pv 0) pa_nil))) (Evl.pss_cut (ps_if (PW.pt (pw_and (pt_cmpR op_gt (pv 3) pe_int (nomark _)) (pw_and1 (pt_cmpR (eqDK (K := K) rfl hr.units) (pv 5) (pv 6) (nomark _))))) (pss_cons (ps_set (i := 6) sc_l_changes.nd rfl (by first | exact Or.inl rfl | exact Or.inr rfl) (pe_tup (pa_cons pe_int (pa_cons (pe_callB (len_seqK (K := K) rfl) (by rfl) T.b_len (by decide +kernel) (pa_cons (pv 1) pa_nil)) pa_nil)))) pss_nil) pss_nil) (Evl.pss_cut (ps_if (pt_cmpR op_eq (pv 3) pe_int (nomark _)) (pss_cons (ps_set (i := 6) sc_l_changes.nd rfl (by first | exact Or.inl rfl | exact Or.inr rfl) (pv 5)) pss_nil) pss_nil) (Evl.pss_cut (ps_if (PW.pt (pw_and (pt_cmpR op_eq (pv 3) pe_int (nomark _)) (pw_and1 (pt_cmpR op_gt (pe_callB (len_seqK (K := K) rfl) (by rfl) T.b_len (by decide +kernel) (pa_cons (pv 1) pa_nil)) pe_int (nomark _))))) (pss_cons (ps_set (i := 4) sc_l_changes.nd rfl (by first | exact Or.inl rfl | exact Or.inr rfl) (pe_slice (sl_tupK (K := K) rfl) (pe_ix (ix_listK (K := K) rfl) (pv 1) (pe_call (ok_l_draw T) (hr.mono (by decide)) rfl T.g_l_draw T.F_l_draw.kp T.n_l_draw .nil pass0 (pa_cons (pv 0) (pa_cons (pe_callB (len_seqK (K := K) rfl) (by rfl) T.b_len (by decide +kernel) (pa_cons (pv 1) pa_nil)) pa_nil))) (fun _ _ => rfl)) po_none (po_some pe_int))) pss_nil) pss_nil) (Evl.pss_cut (ps_if (PW.pt (pw_and (pt_cmpR op_gt (pv 3) pe_int (nomark _)) (pw_and1 (pt_cmpR (inDK (K := K) rfl hr.units65) (pv 4) (pe_lc (own := [("_law_change", 7)]) rfl sc_l_changes.nd (pi_list (pv 1)) (blkOk_by (N := N_l_changes) (sc := defScope s_l_changes) (by decide +kernel)) (fun _ _ _ _ _ => (pg_name (i := 7) sc_l_changes.nd rfl (by first | exact Or.inl rfl | exact Or.inr rfl))) (fun _ _ _ _ _ => pts_nil) (fun _ _ _ _ _ => (pe_slice (sl_tupK (K := K) rfl) (pv 7) po_none (po_some pe_int)))) rfl)))) (pss_cons (ps_set (i := 4) sc_l_changes.nd rfl (by first | exact Or.inl rfl | exact Or.inr rfl) (pe_tup (pa_cons (pe_op op_add_str pe_str (pe_callTy call_str_int (by rfl) T.b_str (by decide +kernel) (pa_cons (pv 2) pa_nil))) (pa_cons (pe_tup (pa_cons (pv 2) (pa_cons pe_int pa_nil))) pa_nil)))) pss_nil) pss_nil) (pss_cons (ps_expr (pe_bm PySem.F.plainAttrs_list PySem.F.slot_list_append PySem.F.type_list_append mt_append (pv 1) (pa_cons (pe_tup (pa_cons (pe_ix (ix_tupK (K := K) rfl) (pv 4) pe_int (fun _ _ => rfl)) (pa_cons (pe_ix (ix_tupK (K := K) rfl) (pv 4) pe_int (fun _ _ => rfl)) (pa_cons (pv 5) (pa_cons (pv 6) pa_nil))))) pa_nil))) pss_nil)))))))))) (pss_cons (ps_ret (pv 1)) pss_nil))), ?_⟩
    refine nx_go (frm_startM (N := N_l_changes) (n := 7) (st_K o_0 hp_0 k_0 st_N) z sm ho rfl) ?_
    show Nx _ _ [.cel p_0 (cHls (wC (rOb (cLst rInt)) (wC rInt (wC rInt (w1 rInt))))) state0, .no, .no, .no, .no, .no, .no, .no]
    unfold m_l_changes at h
    obtain ⟨found1, hfound1, h⟩ := letO_some h
    refine (sq_asgC (c := (cLst (rOb (cTup (wC rStr (wC (rOb (cTpl rInt)) (wC (rOpt (rOb (cTpl rInt))) (w1 (rOpt (rOb (cTpl rInt))))))))))) (ec_to (ec_lst eh_0 (Nat.le_of_ble_eq_true rfl)) hfound1.symm) (fun a_found1 na_found1 => ?_))
    show Nx _ _ [.cel p_0 (cHls (wC (rOb (cLst rInt)) (wC rInt (wC rInt (w1 rInt))))) state0, .cel a_found1 (cLst (rOb (cTup (wC rStr (wC (rOb (cTpl rInt)) (wC (rOpt (rOb (cTpl rInt))) (w1 (rOpt (rOb (cTpl rInt)))))))))) found1, .no, .no, .no, .no, .no, .no]
    obtain ⟨p2, hp2, h⟩ := bindO_some h
    obtain ⟨l3, hl3, h⟩ := bindO_some h
    obtain ⟨R39, hR39, h⟩ := bindO_some h
    refine (sq_for (ψ := psiM H o (mwK (cHls (wC (rOb (cLst rInt)) (wC rInt (wC rInt (w1 rInt))))) mwN) [V.ref p_0] (tK (cLst (rOb (cTup (wC rStr (wC (rOb (cTpl rInt)) (wC (rOpt (rOb (cTpl rInt))) (w1 (rOpt (rOb (cTpl rInt)))))))))))) (m_l_changes_b1) (fun z => [.cel p_0 (cHls (wC (rOb (cLst rInt)) (wC rInt (wC rInt (w1 rInt))))) z.1, .cel a_found1 (cLst (rOb (cTup (wC rStr (wC (rOb (cTpl rInt)) (wC (rOpt (rOb (cTpl rInt))) (w1 (rOpt (rOb (cTpl rInt)))))))))) z.2, .no, .no, .no, .no, .no, .no]) (it_rng1 (ew_1 (ev_callS (ew_1 ev_int) rfl rfl hp2)) hl3) hR39 (fun A1 _ => ?_) (fun _ => tg_name) (fun A1 D1 k5 s4 st hA1 h k1 => ?_) ?_ ?_)
    · exact nx_fin
    · show Nx _ _ [.cel p_0 (cHls (wC (rOb (cLst rInt)) (wC rInt (wC rInt (w1 rInt))))) s4.1, .cel a_found1 (cLst (rOb (cTup (wC rStr (wC (rOb (cTpl rInt)) (wC (rOpt (rOb (cTpl rInt))) (w1 (rOpt (rOb (cTpl rInt)))))))))) s4.2, .imm rInt k5, .no, .no, .no, .no, .no]
      unfold m_l_changes_b1 at h
      obtain ⟨p6, hp6, h⟩ := bindO_some h
      obtain ⟨kind7, hkind7, h⟩ := letO_some h
      refine (sq_asg (ev_to (ev_callS (ew_1 ev_int) rfl rfl hp6) hkind7.symm) ?_)
      show Nx _ _ [.cel p_0 (cHls (wC (rOb (cLst rInt)) (wC rInt (wC rInt (w1 rInt))))) p6.2, .cel a_found1 (cLst (rOb (cTup (wC rStr (wC (rOb (cTpl rInt)) (wC (rOpt (rOb (cTpl rInt))) (w1 (rOpt (rOb (cTpl rInt)))))))))) s4.2, .imm rInt k5, .imm rInt kind7, .no, .no, .no, .no]
      obtain ⟨p8, hp8, h⟩ := bindO_some h
      obtain ⟨place_here9, hplace_here9, h⟩ := letO_some h
      refine (sq_asg (ev_to (ev_callS ew_0 rfl rfl hp8) hplace_here9.symm) ?_)
      show Nx _ _ [.cel p_0 (cHls (wC (rOb (cLst rInt)) (wC rInt (wC rInt (w1 rInt))))) p8.2, .cel a_found1 (cLst (rOb (cTup (wC rStr (wC (rOb (cTpl rInt)) (wC (rOpt (rOb (cTpl rInt))) (w1 (rOpt (rOb (cTpl rInt)))))))))) s4.2, .imm rInt k5, .imm rInt kind7, .imm (rOb (cTup (wC rStr (w1 (rOb (cTpl rInt)))))) place_here9, .no, .no, .no]
      obtain ⟨p10, hp10, h⟩ := bindO_some h
      obtain ⟨before11, hbefore11, h⟩ := letO_some h
      refine (sq_asg (ev_to (ev_callS ew_0 rfl rfl hp10) hbefore11.symm) ?_)
      show Nx _ _ [.cel p_0 (cHls (wC (rOb (cLst rInt)) (wC rInt (wC rInt (w1 rInt))))) p10.2, .cel a_found1 (cLst (rOb (cTup (wC rStr (wC (rOb (cTpl rInt)) (wC (rOpt (rOb (cTpl rInt))) (w1 (rOpt (rOb (cTpl rInt)))))))))) s4.2, .imm rInt k5, .imm rInt kind7, .imm (rOb (cTup (wC rStr (w1 (rOb (cTpl rInt)))))) place_here9, .imm (rOpt (rOb (cTpl rInt))) before11, .no, .no]
      obtain ⟨p12, hp12, h⟩ := bindO_some h
      obtain ⟨after13, hafter13, h⟩ := letO_some h
      refine (sq_asg (ev_to (ev_callS ew_0 rfl rfl hp12) hafter13.symm) ?_)
      show Nx _ _ [.cel p_0 (cHls (wC (rOb (cLst rInt)) (wC rInt (wC rInt (w1 rInt))))) p12.2, .cel a_found1 (cLst (rOb (cTup (wC rStr (wC (rOb (cTpl rInt)) (wC (rOpt (rOb (cTpl rInt))) (w1 (rOpt (rOb (cTpl rInt)))))))))) s4.2, .imm rInt k5, .imm rInt kind7, .imm (rOb (cTup (wC rStr (w1 (rOb (cTpl rInt)))))) place_here9, .imm (rOpt (rOb (cTpl rInt))) before11, .imm (rOpt (rOb (cTpl rInt))) after13, .no]
      obtain ⟨c16, hc16, h⟩ := letO_some h
      obtain ⟨b15, hb15, h⟩ := bindO_some h
      obtain ⟨c17, hc17, h⟩ := letO_some h
      obtain ⟨j18, hj18, h2⟩ := bindO_some h
      have h := hj18
      refine nx_cut [.cel p_0 (cHls (wC (rOb (cLst rInt)) (wC rInt (wC rInt (w1 rInt))))) p12.2, .cel a_found1 (cLst (rOb (cTup (wC rStr (wC (rOb (cTpl rInt)) (wC (rOpt (rOb (cTpl rInt))) (w1 (rOpt (rOb (cTpl rInt)))))))))) s4.2, .imm rInt k5, .imm rInt kind7, .imm (rOb (cTup (wC rStr (w1 (rOb (cTpl rInt)))))) place_here9, .imm (rOpt (rOb (cTpl rInt))) before11, .imm (rOpt (rOb (cTpl rInt))) j18, .no] (nx_if (et_to (et_and (et_to (et_T (ev_gt (ev_var rfl) ev_int)) hc16.symm) (fun hc => by have hx := iteO_t hc hb15; obtain ⟨q14, hq14, hx⟩ := bindO_some hx; exact et_to (et_T (ev_eqD (da_opt (da_tpl da_int)) (da_opt (da_tpl da_int)) (ev_var rfl) (ev_var rfl) hq14)) (Option.some.inj hx)) (fun hc => ⟨(Option.some.inj (iteO_f hc hb15)).symm, rfl⟩)) hc17.symm) (fun hc => ?_) (fun hc => ?_)) ?_
      · clear h2 hj18
        have h := iteO_t hc h
        obtain ⟨after19, hafter19, h⟩ := letO_some h
        refine (sq_asg (ev_to (ev_some nn_ob (ev_new (ec_tpl (eh_C ev_int (eh_C (ev_lenCel rfl) eh_0)) (Nat.le_of_ble_eq_true rfl)))) hafter19.symm) ?_)
        show Nx _ _ [.cel p_0 (cHls (wC (rOb (cLst rInt)) (wC rInt (wC rInt (w1 rInt))))) p12.2, .cel a_found1 (cLst (rOb (cTup (wC rStr (wC (rOb (cTpl rInt)) (wC (rOpt (rOb (cTpl rInt))) (w1 (rOpt (rOb (cTpl rInt)))))))))) s4.2, .imm rInt k5, .imm rInt kind7, .imm (rOb (cTup (wC rStr (w1 (rOb (cTpl rInt)))))) place_here9, .imm (rOpt (rOb (cTpl rInt))) before11, .imm (rOpt (rOb (cTpl rInt))) after19, .no]
        obtain rfl := Option.some.inj h
        exact nx_fin
      · clear h2 hj18
        have h := iteO_f hc h
        obtain rfl := Option.some.inj h
        exact nx_fin
      · clear h
        have h := h2
        obtain ⟨c20, hc20, h⟩ := letO_some h
        obtain ⟨j21, hj21, h2⟩ := bindO_some h
        have h := hj21
        refine nx_cut [.cel p_0 (cHls (wC (rOb (cLst rInt)) (wC rInt (wC rInt (w1 rInt))))) p12.2, .cel a_found1 (cLst (rOb (cTup (wC rStr (wC (rOb (cTpl rInt)) (wC (rOpt (rOb (cTpl rInt))) (w1 (rOpt (rOb (cTpl rInt)))))))))) s4.2, .imm rInt k5, .imm rInt kind7, .imm (rOb (cTup (wC rStr (w1 (rOb (cTpl rInt)))))) place_here9, .imm (rOpt (rOb (cTpl rInt))) before11, .imm (rOpt (rOb (cTpl rInt))) j21, .no] (nx_if (et_to (et_T (ev_eqS scInt (ev_var rfl) ev_int rfl)) hc20.symm) (fun hc => ?_) (fun hc => ?_)) ?_
        · clear h2 hj21
          have h := iteO_t hc h
          obtain ⟨after22, hafter22, h⟩ := letO_some h
          refine (sq_asg (ev_to (ev_var rfl) hafter22.symm) ?_)
          show Nx _ _ [.cel p_0 (cHls (wC (rOb (cLst rInt)) (wC rInt (wC rInt (w1 rInt))))) p12.2, .cel a_found1 (cLst (rOb (cTup (wC rStr (wC (rOb (cTpl rInt)) (wC (rOpt (rOb (cTpl rInt))) (w1 (rOpt (rOb (cTpl rInt)))))))))) s4.2, .imm rInt k5, .imm rInt kind7, .imm (rOb (cTup (wC rStr (w1 (rOb (cTpl rInt)))))) place_here9, .imm (rOpt (rOb (cTpl rInt))) before11, .imm (rOpt (rOb (cTpl rInt))) after22, .no]
          obtain rfl := Option.some.inj h
          exact nx_fin
        · clear h2 hj21
          have h := iteO_f hc h
          obtain rfl := Option.some.inj h
          exact nx_fin
        · clear h
          have h := h2
          obtain ⟨c23, hc23, h⟩ := letO_some h
          obtain ⟨j24, hj24, h2⟩ := bindO_some h
          have h := hj24
          refine nx_cut [.cel p_0 (cHls (wC (rOb (cLst rInt)) (wC rInt (wC rInt (w1 rInt))))) j24.2, .cel a_found1 (cLst (rOb (cTup (wC rStr (wC (rOb (cTpl rInt)) (wC (rOpt (rOb (cTpl rInt))) (w1 (rOpt (rOb (cTpl rInt)))))))))) s4.2, .imm rInt k5, .imm rInt kind7, .imm (rOb (cTup (wC rStr (w1 (rOb (cTpl rInt)))))) j24.1, .imm (rOpt (rOb (cTpl rInt))) before11, .imm (rOpt (rOb (cTpl rInt))) j21, .no] (nx_if (et_to (et_and0 (et_T (ev_eqS scInt (ev_var rfl) ev_int rfl)) (et_T (ev_gt (ev_lenCel rfl) ev_int))) hc23.symm) (fun hc => ?_) (fun hc => ?_)) ?_
          · clear h2 hj24
            have h := iteO_t hc h
            obtain ⟨p25, hp25, h⟩ := bindO_some h
            obtain ⟨y26, hy26, h⟩ := bindO_some h
            obtain ⟨place_here27, hplace_here27, h⟩ := letO_some h
            refine (sq_asg (ev_to (ev_new (ec_slTk (k := 2) (ev_ixCel rfl rfl (ev_callS (ew_1 (ev_lenCel rfl)) rfl rfl hp25) hy26) (tk_S (tk_1 (by decide))))) hplace_here27.symm) ?_)
            show Nx _ _ [.cel p_0 (cHls (wC (rOb (cLst rInt)) (wC rInt (wC rInt (w1 rInt))))) p25.2, .cel a_found1 (cLst (rOb (cTup (wC rStr (wC (rOb (cTpl rInt)) (wC (rOpt (rOb (cTpl rInt))) (w1 (rOpt (rOb (cTpl rInt)))))))))) s4.2, .imm rInt k5, .imm rInt kind7, .imm (rOb (cTup (wC rStr (w1 (rOb (cTpl rInt)))))) place_here27, .imm (rOpt (rOb (cTpl rInt))) before11, .imm (rOpt (rOb (cTpl rInt))) j21, .no]
            obtain rfl := Option.some.inj h
            exact nx_fin
          · clear h2 hj24
            have h := iteO_f hc h
            obtain rfl := Option.some.inj h
            exact nx_fin
          · clear h
            have h := h2
            obtain ⟨c32, hc32, h⟩ := letO_some h
            obtain ⟨b31, hb31, h⟩ := bindO_some h
            obtain ⟨c33, hc33, h⟩ := letO_some h
            obtain ⟨j34, hj34, h2⟩ := bindO_some h
            have h := hj34
            refine nx_cut [.cel p_0 (cHls (wC (rOb (cLst rInt)) (wC rInt (wC rInt (w1 rInt))))) j24.2, .cel a_found1 (cLst (rOb (cTup (wC rStr (wC (rOb (cTpl rInt)) (wC (rOpt (rOb (cTpl rInt))) (w1 (rOpt (rOb (cTpl rInt)))))))))) s4.2, .imm rInt k5, .imm rInt kind7, .imm (rOb (cTup (wC rStr (w1 (rOb (cTpl rInt)))))) j34, .imm (rOpt (rOb (cTpl rInt))) before11, .imm (rOpt (rOb (cTpl rInt))) j21, .no] (nx_if (et_to (et_and (et_to (et_T (ev_gt (ev_var rfl) ev_int)) hc32.symm) (fun hc => by have hx := iteO_t hc hb31; obtain ⟨l29, hl29, hx⟩ := bindO_some hx; obtain ⟨n30, hn30, hx⟩ := bindO_some hx; exact et_to (et_T (ev_inD (da_tup (daw_C da_str (daw_1 (da_tpl da_int)))) (da_tup (daw_C da_str (daw_1 (da_tpl da_int)))) (ev_var rfl) (ev_new (ec_frz (i := 1) rfl (ec_lc (m_l_changes_c1) (it_list (ev_var rfl)) hl29 tg_name (fun k hk => hk) (by rfl) (fun _ => by rfl) (fun change28 o ho => by unfold m_l_changes_c1 at ho; cases ho; exact ⟨et_yes, fun y hy => by cases hy; exact ev_to (ev_new (ec_slTk (k := 2) (ev_var rfl) (tk_S (tk_1 (by decide))))) rfl⟩)))) hn30)) (Option.some.inj hx)) (fun hc => ⟨(Option.some.inj (iteO_f hc hb31)).symm, rfl⟩)) hc33.symm) (fun hc => ?_) (fun hc => ?_)) ?_
            · clear h2 hj34
              have h := iteO_t hc h
              obtain ⟨s35, hs35, h⟩ := bindO_some h
              obtain ⟨s36, hs36, h⟩ := bindO_some h
              obtain ⟨place_here37, hplace_here37, h⟩ := letO_some h
              refine (sq_asg (ev_to (ev_new (ec_tup (ew_C (ev_addS ev_str (ev_strI (ev_var rfl) hs35) hs36) (ew_1 (ev_new (ec_tpl (eh_C (ev_var rfl) (eh_C ev_int eh_0)) (Nat.le_of_ble_eq_true rfl))))))) hplace_here37.symm) ?_)
              show Nx _ _ [.cel p_0 (cHls (wC (rOb (cLst rInt)) (wC rInt (wC rInt (w1 rInt))))) j24.2, .cel a_found1 (cLst (rOb (cTup (wC rStr (wC (rOb (cTpl rInt)) (wC (rOpt (rOb (cTpl rInt))) (w1 (rOpt (rOb (cTpl rInt)))))))))) s4.2, .imm rInt k5, .imm rInt kind7, .imm (rOb (cTup (wC rStr (w1 (rOb (cTpl rInt)))))) place_here37, .imm (rOpt (rOb (cTpl rInt))) before11, .imm (rOpt (rOb (cTpl rInt))) j21, .no]
              obtain rfl := Option.some.inj h
              exact nx_fin
            · clear h2 hj34
              have h := iteO_f hc h
              obtain rfl := Option.some.inj h
              exact nx_fin
            · clear h
              have h := h2
              obtain ⟨found38, hfound38, h⟩ := bindO_some h
              refine (sq_app (ev_new (ec_tup (ew_C (ev_ixU (k := 0) (ev_var rfl) (acc0)) (ew_C (ev_ixU (k := 1) (ev_var rfl) (accS (acc1))) (ew_C (ev_var rfl) (ew_1 (ev_var rfl))))))) rfl rfl hfound38 ?_)
              show Nx _ _ [.cel p_0 (cHls (wC (rOb (cLst rInt)) (wC rInt (wC rInt (w1 rInt))))) j24.2, .cel a_found1 (cLst (rOb (cTup (wC rStr (wC (rOb (cTpl rInt)) (wC (rOpt (rOb (cTpl rInt))) (w1 (rOpt (rOb (cTpl rInt)))))))))) found38, .imm rInt k5, .imm rInt kind7, .imm (rOb (cTup (wC rStr (w1 (rOb (cTpl rInt)))))) j34, .imm (rOpt (rOb (cTpl rInt))) before11, .imm (rOpt (rOb (cTpl rInt))) j21, .no]
              refine nx_next ?_
              refine nx_forget 2 ?_
              refine nx_forget 3 ?_
              refine nx_forget 4 ?_
              refine nx_forget 5 ?_
              refine nx_forget 6 ?_
              exact k1.nx _ (Option.some.inj h).symm
    · intro b e
      subst e
      obtain rfl := stepO_ret h; exact kr
    · intro e40 e
      subst e
      have h := stepO_nx h
      show Nx _ _ [.cel p_0 (cHls (wC (rOb (cLst rInt)) (wC rInt (wC rInt (w1 rInt))))) e40.1, .cel a_found1 (cLst (rOb (cTup (wC rStr (wC (rOb (cTpl rInt)) (wC (rOpt (rOb (cTpl rInt))) (w1 (rOpt (rOb (cTpl rInt)))))))))) e40.2, .no, .no, .no, .no, .no, .no]
      exact (sq_retMV (i := 1) ⟨rfl, rfl⟩ rfl na_found1 (by decide) ((oa_K rfl oa_N) : OwnAt _ 1 0 _ _ _) h kr)
theorem ok_l_due (T : Txt K mg base a) : FnOk P w K mg base CX0 4 a.f_l_due a.d_l_due ["_law_moves"] (SpP (w1 (rOb (cLst (rOb (cTup (wC rStr (wC (rOb (cTpl rInt)) (wC (rOpt (rOb (cTpl rInt))) (w1 (rOpt (rOb (cTpl rInt)))))))))))) (rAlt (rOb (cTup (wC rStr (w1 (rOb (cTup (wC rStr (wC (rOb (cTpl rInt)) (wC (rOpt (rOb (cTpl rInt))) (w1 (rOpt (rOb (cTpl rInt))))))))))))) (rAlt (rOb (cTup (wC rStr (w1 (rOb (cTup (wC rStr (w1 (rOb (cTpl rInt)))))))))) (rOb (cTup (wC rStr (w1 (rOb (cLst (rOb (cTup (wC rStr (wC (rOb (cTpl rInt)) (wC (rOpt (rOb (cTpl rInt))) (w1 (rOpt (rOb (cTpl rInt))))))))))))))))) (fun x => m_l_due x)) := by
  refine okL T.F_l_due T.hc_l_due sc_l_due (fun vs H Q E h => ?_) (fun A outer s H vs Q E hr h => ?_)
  · obtain ⟨B, x, b, z, sm, hw, h, kr⟩ := h
    rw [WLen.len hw]; rfl
  · obtain ⟨B, moves0, b, z, sm, hw, h, kr⟩ := h
    have h : m_l_due moves0 = some b := h
    refine ⟨_, (pss_cons (ps_for PassesOwn.never rfl (pi_range1 rfl T.b_range (pa_cons (pe_callB (len_seqK (K := K) rfl) (by rfl) T.b_len (by decide +kernel) (pa_cons (pv 0) pa_nil)) pa_nil)) (pg_name (i := 1) sc_l_due.nd rfl (by first | exact Or.inl rfl | exact Or.inr rfl)) (pss_cons (ps_if (pt_cmpR (eqDK (K := K) rfl hr.units) (pe_ix (ix_tupK (K := K) rfl) (pe_ix (ix_listK (K := K) rfl) (pv 0) (pv 1) (fun _ _ => rfl)) pe_int (fun _ _ => rfl)) (pe_ix (ix_tupK (K := K) rfl) (pe_ix (ix_listK (K := K) rfl) (pv 0) (pv 1) (fun _ _ => rfl)) pe_int (fun _ _ => rfl)) (nomark _)) (pss_cons (ps_ret (pe_tup (pa_cons pe_str (pa_cons (pe_ix (ix_listK (K := K) rfl) (pv 0) (pv 1) (fun _ _ => rfl)) pa_nil)))) pss_nil) pss_nil) (pss_cons (ps_if (pt_cmpR (inDK (K := K) rfl hr.units65) (pe_slice (sl_tupK (K := K) rfl) (pe_ix (ix_listK (K := K) rfl) (pv 0) (pv 1) (fun _ _ => rfl)) po_none (po_some pe_int)) (pe_lc (own := [("_law_change", 2)]) rfl sc_l_due.nd (pi_list (pe_slice (sl_listK (K := K) rfl) (pv 0) po_none (po_some (pv 1)))) (blkOk_by (N := N_l_due) (sc := defScope s_l_due) (by decide +kernel)) (fun _ _ _ _ _ => (pg_name (i := 2) sc_l_due.nd rfl (by first | exact Or.inl rfl | exact Or.inr rfl))) (fun _ _ _ _ _ => pts_nil) (fun _ _ _ _ _ => (pe_slice (sl_tupK (K := K) rfl) (pv 2) po_none (po_some pe_int)))) rfl) (pss_cons (ps_ret (pe_tup (pa_cons pe_str (pa_cons (pe_slice (sl_tupK (K := K) rfl) (pe_ix (ix_listK (K := K) rfl) (pv 0) (pv 1) (fun _ _ => rfl)) po_none (po_some pe_int)) pa_nil)))) pss_nil) pss_nil) pss_nil))) (pss_cons (ps_ret (pe_tup (pa_cons pe_str (pa_cons (pe_sortLam (K := K) (c := a.c_l_due) (P := a.P_l_due) (q := q_l_due) rfl (hr.mono (by decide)) (by rfl) T.b_sorted T.tb_l_due rfl rfl (pv 0) (fun _ _ _ _ _ => rfl)) pa_nil)))) pss_nil)), ?_⟩
    refine nx_go (frm_start (N := N_l_due) (n := 2) z sm hw (by rw [WLen.len hw]; rfl)) ?_
    show Nx _ _ [.imm (rOb (cLst (rOb (cTup (wC rStr (wC (rOb (cTpl rInt)) (wC (rOpt (rOb (cTpl rInt))) (w1 (rOpt (rOb (cTpl rInt))))))))))) moves0, .no, .no]
    unfold m_l_due at h
    obtain ⟨l1, hl1, h⟩ := bindO_some h
    obtain ⟨R15, hR15, h⟩ := bindO_some h
    refine (sq_for (ψ := psi (rAlt (rOb (cTup (wC rStr (w1 (rOb (cTup (wC rStr (wC (rOb (cTpl rInt)) (wC (rOpt (rOb (cTpl rInt))) (w1 (rOpt (rOb (cTpl rInt))))))))))))) (rAlt (rOb (cTup (wC rStr (w1 (rOb (cTup (wC rStr (w1 (rOb (cTpl rInt)))))))))) (rOb (cTup (wC rStr (w1 (rOb (cLst (rOb (cTup (wC rStr (wC (rOb (cTpl rInt)) (wC (rOpt (rOb (cTpl rInt))) (w1 (rOpt (rOb (cTpl rInt)))))))))))))))))) (m_l_due_b1 moves0) (fun z => [.imm (rOb (cLst (rOb (cTup (wC rStr (wC (rOb (cTpl rInt)) (wC (rOpt (rOb (cTpl rInt))) (w1 (rOpt (rOb (cTpl rInt))))))))))) moves0, .no, .no]) (it_rng1 (ew_1 (ev_lenL (ev_var rfl))) hl1) hR15 (fun A1 _ => ?_) (fun _ => tg_name) (fun A1 D1 k3 s2 st hA1 h k1 => ?_) ?_ ?_)
    · exact nx_fin
    · show Nx _ _ [.imm (rOb (cLst (rOb (cTup (wC rStr (wC (rOb (cTpl rInt)) (wC (rOpt (rOb (cTpl rInt))) (w1 (rOpt (rOb (cTpl rInt))))))))))) moves0, .imm rInt k3, .no]
      unfold m_l_due_b1 at h
      obtain ⟨y4, hy4, h⟩ := bindO_some h
      obtain ⟨y5, hy5, h⟩ := bindO_some h
      obtain ⟨q6, hq6, h⟩ := bindO_some h
      obtain ⟨c7, hc7, h⟩ := letO_some h
      refine (sq_if (et_to (et_T (ev_eqD (da_opt (da_tpl da_int)) (da_opt (da_tpl da_int)) (ev_ixU (k := 2) (ev_ixL (ev_var rfl) (ev_var rfl) hy4) (accS (accS (acc0)))) (ev_ixU (k := 3) (ev_ixL (ev_var rfl) (ev_var rfl) hy5) (accS (accS (accS (acc1))))) hq6)) hc7.symm) (fun hc => ?_) (fun hc => ?_))
      · have h := iteO_t hc h
        obtain ⟨y8, hy8, h⟩ := bindO_some h
        exact (sq_ret (ev_inl (rb := (rAlt (rOb (cTup (wC rStr (w1 (rOb (cTup (wC rStr (w1 (rOb (cTpl rInt)))))))))) (rOb (cTup (wC rStr (w1 (rOb (cLst (rOb (cTup (wC rStr (wC (rOb (cTpl rInt)) (wC (rOpt (rOb (cTpl rInt))) (w1 (rOpt (rOb (cTpl rInt))))))))))))))))) (ev_new (ec_tup (ew_C ev_str (ew_1 (ev_ixL (ev_var rfl) (ev_var rfl) hy8)))))) rfl (k1.rt _ (Option.some.inj h).symm))
      · have h := iteO_f hc h
        refine nx_next ?_
        try dsimp only
        obtain ⟨y9, hy9, h⟩ := bindO_some h
        obtain ⟨l11, hl11, h⟩ := bindO_some h
        obtain ⟨n12, hn12, h⟩ := bindO_some h
        obtain ⟨c13, hc13, h⟩ := letO_some h
        refine (sq_if (et_to (et_T (ev_inD (da_tup (daw_C da_str (daw_1 (da_tpl da_int)))) (da_tup (daw_C da_str (daw_1 (da_tpl da_int)))) (ev_new (ec_slTk (k := 2) (ev_ixL (ev_var rfl) (ev_var rfl) hy9) (tk_S (tk_1 (by decide))))) (ev_new (ec_lc (m_l_due_c1) (it_list (ev_new (ec_slL (ev_var rfl) eo_none (eo_some (ev_var rfl))))) hl11 tg_name (fun k hk => hk) (by rfl) (fun _ => by rfl) (fun change10 o ho => by unfold m_l_due_c1 at ho; cases ho; exact ⟨et_yes, fun y hy => by cases hy; exact ev_to (ev_new (ec_slTk (k := 2) (ev_var rfl) (tk_S (tk_1 (by decide))))) rfl⟩))) hn12)) hc13.symm) (fun hc => ?_) (fun hc => ?_))
        · have h := iteO_t hc h
          obtain ⟨y14, hy14, h⟩ := bindO_some h
          exact (sq_ret (ev_inr (ra := (rOb (cTup (wC rStr (w1 (rOb (cTup (wC rStr (wC (rOb (cTpl rInt)) (wC (rOpt (rOb (cTpl rInt))) (w1 (rOpt (rOb (cTpl rInt)))))))))))))) (ev_inl (rb := (rOb (cTup (wC rStr (w1 (rOb (cLst (rOb (cTup (wC rStr (wC (rOb (cTpl rInt)) (wC (rOpt (rOb (cTpl rInt))) (w1 (rOpt (rOb (cTpl rInt)))))))))))))))) (ev_new (ec_tup (ew_C ev_str (ew_1 (ev_new (ec_slTk (k := 2) (ev_ixL (ev_var rfl) (ev_var rfl) hy14) (tk_S (tk_1 (by decide))))))))))) rfl (k1.rt _ (Option.some.inj h).symm))
        · have h := iteO_f hc h
          refine nx_next ?_
          try dsimp only
          refine nx_next ?_
          refine nx_forget 1 ?_
          exact k1.nx _ (Option.some.inj h).symm
    · intro b e
      subst e
      obtain rfl := stepO_ret h; exact kr
    · intro e16 e
      subst e
      have h := stepO_nx h
      show Nx _ _ [.imm (rOb (cLst (rOb (cTup (wC rStr (wC (rOb (cTpl rInt)) (wC (rOpt (rOb (cTpl rInt))) (w1 (rOpt (rOb (cTpl rInt))))))))))) moves0, .no, .no]
      exact (sq_ret (ev_inr (ra := (rOb (cTup (wC rStr (w1 (rOb (cTup (wC rStr (wC (rOb (cTpl rInt)) (wC (rOpt (rOb (cTpl rInt))) (w1 (rOpt (rOb (cTpl rInt)))))))))))))) (ev_inr (ra := (rOb (cTup (wC rStr (w1 (rOb (cTup (wC rStr (w1 (rOb (cTpl rInt))))))))))) (ev_new (ec_tup (ew_C ev_str (ew_1 (ev_new (ec_sortLam (fun x => (x.1, x.2.1)) T.hT_l_due T.hu_l_due item_tup (ev_var rfl))))))))) h kr)
theorem ok_l_made (T : Txt K mg base a) : FnOk P w K mg base CX0 6 a.f_l_made a.d_l_made ["_law_moves"] (SpP (w1 (rOb (cLst (rOb (cTup (wC rStr (wC (rOb (cTpl rInt)) (wC (rOpt (rOb (cTpl rInt))) (w1 (rOpt (rOb (cTpl rInt)))))))))))) (rAlt (rOb (cTup (wC rStr (w1 (rOb (cTup (wC rStr (wC (rOb (cTpl rInt)) (wC (rOpt (rOb (cTpl rInt))) (w1 (rOpt (rOb (cTpl rInt))))))))))))) (rAlt (rOb (cTup (wC rStr (w1 (rOb (cTup (wC rStr (w1 (rOb (cTpl rInt)))))))))) (rOb (cTup (wC rStr (w1 (rIns a.C_Edit [("_placed" : Str), ("changes" : Str)] (wC (rDicN P w kyPlc (rOb (cTup (wC rStr (wC (rOb (cTpl rInt)) (wC (rOpt (rOb (cTpl rInt))) (w1 (rOpt (rOb (cTpl rInt)))))))))) (w1 (rOb (cTpl (rOb (cTup (wC rStr (wC (rOb (cTpl rInt)) (wC (rOpt (rOb (cTpl rInt))) (w1 (rOpt (rOb (cTpl rInt)))))))))))))))))))) (fun x => m_l_made x)) := by
  refine T.F_l_made.ok sc_l_made (fun vs H Q E h => ?_) (fun cdv A outer s H vs Q E hr h => ?_)
  · obtain ⟨B, x, b, z, sm, hw, h, kr⟩ := h
    rw [WLen.len hw]; rfl
  · obtain ⟨B, moves0, b, z, sm, hw, h, kr⟩ := h
    have h : m_l_made moves0 = some b := h
    refine ⟨_, (pss_cons (ps_set (i := 1) sc_l_made.nd rfl (by first | exact Or.inl rfl | exact Or.inr rfl) pe_non) (pss_cons (ps_tryM rfl rfl sc_l_made.nd takes0 (.cons (i := 3) rfl rfl ⟨rfl, by decide, Or.inl T.g_InvalidChange⟩ (.cons (i := 3) rfl rfl ⟨rfl, by decide, Or.inl T.g_SamePlace⟩ .nil))) (pss_cons (ps_if (pt_cmp (pc_notN (pv 1))) (pss_cons (ps_ret (pv 1)) pss_nil) pss_nil) (pss_cons (ps_ret (pe_tup (pa_cons pe_str (pa_cons (pv 2) pa_nil)))) pss_nil)))), ?_⟩
    refine nx_go (frm_start (N := N_l_made) (n := 3) z sm hw (by rw [WLen.len hw]; rfl)) ?_
    show Nx _ _ [.imm (rOb (cLst (rOb (cTup (wC rStr (wC (rOb (cTpl rInt)) (wC (rOpt (rOb (cTpl rInt))) (w1 (rOpt (rOb (cTpl rInt))))))))))) moves0, .no, .no, .no]
    unfold m_l_made at h
    obtain ⟨caught1, hcaught1, h⟩ := letO_some h
    refine (sq_asg (ev_to (ev_none (r := (rAlt (rOb (cTup (wC rStr (w1 (rOb (cTup (wC rStr (wC (rOb (cTpl rInt)) (wC (rOpt (rOb (cTpl rInt))) (w1 (rOpt (rOb (cTpl rInt))))))))))))) (rOb (cTup (wC rStr (w1 (rOb (cTup (wC rStr (w1 (rOb (cTpl rInt))))))))))))) hcaught1.symm) ?_)
    show Nx _ _ [.imm (rOb (cLst (rOb (cTup (wC rStr (wC (rOb (cTpl rInt)) (wC (rOpt (rOb (cTpl rInt))) (w1 (rOpt (rOb (cTpl rInt))))))))))) moves0, .imm (rOpt (rAlt (rOb (cTup (wC rStr (w1 (rOb (cTup (wC rStr (wC (rOb (cTpl rInt)) (wC (rOpt (rOb (cTpl rInt))) (w1 (rOpt (rOb (cTpl rInt))))))))))))) (rOb (cTup (wC rStr (w1 (rOb (cTup (wC rStr (w1 (rOb (cTpl rInt)))))))))))) caught1, .no, .no]
    refine sq_try (fun pn xe tk po => (pss_cons (ps_set (i := 2) sc_l_made.nd rfl (by first | exact Or.inl rfl | exact Or.inr rfl) (pe_makeS T.M_Edit (ok_Edit___init (P := P) (w := w) (base := base) T) (hr.mono (Nat.le_of_ble_eq_true rfl)) rfl T.g_Edit (binds_nil T.n_Edit___init_1 T.v_Edit___init_1) (fun σ => passAt tk σ) (pa_cons (pv 0) pa_nil))) pss_nil)) ?_
    show Nx _ _ [.imm (rOb (cLst (rOb (cTup (wC rStr (wC (rOb (cTpl rInt)) (wC (rOpt (rOb (cTpl rInt))) (w1 (rOpt (rOb (cTpl rInt))))))))))) moves0, .imm (rOpt (rAlt (rOb (cTup (wC rStr (w1 (rOb (cTup (wC rStr (wC (rOb (cTpl rInt)) (wC (rOpt (rOb (cTpl rInt))) (w1 (rOpt (rOb (cTpl rInt))))))))))))) (rOb (cTup (wC rStr (w1 (rOb (cTup (wC rStr (w1 (rOb (cTpl rInt)))))))))))) caught1, .no, .no]
    obtain ⟨r2, hr2, h⟩ := bindO_some h
    refine (xaMake (fun s h => erS_mono (R1 := (erC a.C_InvalidChange [("change" : Str)] (w1 (rOb (cTup (wC rStr (wC (rOb (cTpl rInt)) (wC (rOpt (rOb (cTpl rInt))) (w1 (rOpt (rOb (cTpl rInt)))))))))))) (R2 := (erC a.C_SamePlace [("place" : Str)] (w1 (rOb (cTup (wC rStr (w1 (rOb (cTpl rInt))))))))) (fun s h => erC_mono s h) (fun s h => erC_mono s h) s h) (ew_1 (ev_var rfl)) hr2 h (fun law_edit3 h => ?_) (fun e4 h => ?_))
    · show Nx _ _ [.imm (rOb (cLst (rOb (cTup (wC rStr (wC (rOb (cTpl rInt)) (wC (rOpt (rOb (cTpl rInt))) (w1 (rOpt (rOb (cTpl rInt))))))))))) moves0, .imm (rOpt (rAlt (rOb (cTup (wC rStr (w1 (rOb (cTup (wC rStr (wC (rOb (cTpl rInt)) (wC (rOpt (rOb (cTpl rInt))) (w1 (rOpt (rOb (cTpl rInt))))))))))))) (rOb (cTup (wC rStr (w1 (rOb (cTup (wC rStr (w1 (rOb (cTpl rInt)))))))))))) caught1, .imm (rIns a.C_Edit [("_placed" : Str), ("changes" : Str)] (wC (rDicN P w kyPlc (rOb (cTup (wC rStr (wC (rOb (cTpl rInt)) (wC (rOpt (rOb (cTpl rInt))) (w1 (rOpt (rOb (cTpl rInt)))))))))) (w1 (rOb (cTpl (rOb (cTup (wC rStr (wC (rOb (cTpl rInt)) (wC (rOpt (rOb (cTpl rInt))) (w1 (rOpt (rOb (cTpl rInt)))))))))))))) law_edit3, .no]
      refine nx_next ?_
      show Nx _ _ [.imm (rOb (cLst (rOb (cTup (wC rStr (wC (rOb (cTpl rInt)) (wC (rOpt (rOb (cTpl rInt))) (w1 (rOpt (rOb (cTpl rInt))))))))))) moves0, .imm (rOpt (rAlt (rOb (cTup (wC rStr (w1 (rOb (cTup (wC rStr (wC (rOb (cTpl rInt)) (wC (rOpt (rOb (cTpl rInt))) (w1 (rOpt (rOb (cTpl rInt))))))))))))) (rOb (cTup (wC rStr (w1 (rOb (cTup (wC rStr (w1 (rOb (cTpl rInt)))))))))))) caught1, .imm (rIns a.C_Edit [("_placed" : Str), ("changes" : Str)] (wC (rDicN P w kyPlc (rOb (cTup (wC rStr (wC (rOb (cTpl rInt)) (wC (rOpt (rOb (cTpl rInt))) (w1 (rOpt (rOb (cTpl rInt)))))))))) (w1 (rOb (cTpl (rOb (cTup (wC rStr (wC (rOb (cTpl rInt)) (wC (rOpt (rOb (cTpl rInt))) (w1 (rOpt (rOb (cTpl rInt)))))))))))))) law_edit3, .no]
      obtain ⟨c5, hc5, h⟩ := letO_some h
      refine (sq_if (et_to (et_B (ev_notN (ev_var rfl))) hc5.symm) (fun hc => ?_) (fun hc => ?_))
      · have h := iteO_t hc h
        obtain ⟨g6, hg6, h⟩ := bindO_some h
        exact (sq_ret (ev_altW (f := (fun (z : (Str × (Str × (List Int) × (Option (List Int)) × (Option (List Int))))) => (.inl ((fun (z : (Str × (Str × (List Int) × (Option (List Int)) × (Option (List Int))))) => z) z) : ((Str × (Str × (List Int) × (Option (List Int)) × (Option (List Int)))) ⊕ ((Str × (Str × (List Int))) ⊕ (Str × ((List ((Str × (List Int)) × (Str × (List Int) × (Option (List Int)) × (Option (List Int))))) × (List (Str × (List Int) × (Option (List Int)) × (Option (List Int))))))))))) (g := (fun (z : (Str × (Str × (List Int)))) => (.inr ((fun (z : (Str × (Str × (List Int)))) => (.inl ((fun (z : (Str × (Str × (List Int)))) => z) z) : ((Str × (Str × (List Int))) ⊕ (Str × ((List ((Str × (List Int)) × (Str × (List Int) × (Option (List Int)) × (Option (List Int))))) × (List (Str × (List Int) × (Option (List Int)) × (Option (List Int))))))))) z) : ((Str × (Str × (List Int) × (Option (List Int)) × (Option (List Int)))) ⊕ ((Str × (Str × (List Int))) ⊕ (Str × ((List ((Str × (List Int)) × (Str × (List Int) × (Option (List Int)) × (Option (List Int))))) × (List (Str × (List Int) × (Option (List Int)) × (Option (List Int))))))))))) (fun _ hz => ev_inl (rb := (rAlt (rOb (cTup (wC rStr (w1 (rOb (cTup (wC rStr (w1 (rOb (cTpl rInt)))))))))) (rOb (cTup (wC rStr (w1 (rIns a.C_Edit [("_placed" : Str), ("changes" : Str)] (wC (rDicN P w kyPlc (rOb (cTup (wC rStr (wC (rOb (cTpl rInt)) (wC (rOpt (rOb (cTpl rInt))) (w1 (rOpt (rOb (cTpl rInt)))))))))) (w1 (rOb (cTpl (rOb (cTup (wC rStr (wC (rOb (cTpl rInt)) (wC (rOpt (rOb (cTpl rInt))) (w1 (rOpt (rOb (cTpl rInt)))))))))))))))))))) ((fun _ hz => hz) _ hz)) (fun _ hz => ev_inr (ra := (rOb (cTup (wC rStr (w1 (rOb (cTup (wC rStr (wC (rOb (cTpl rInt)) (wC (rOpt (rOb (cTpl rInt))) (w1 (rOpt (rOb (cTpl rInt)))))))))))))) ((fun _ hz => ev_inl (rb := (rOb (cTup (wC rStr (w1 (rIns a.C_Edit [("_placed" : Str), ("changes" : Str)] (wC (rDicN P w kyPlc (rOb (cTup (wC rStr (wC (rOb (cTpl rInt)) (wC (rOpt (rOb (cTpl rInt))) (w1 (rOpt (rOb (cTpl rInt)))))))))) (w1 (rOb (cTpl (rOb (cTup (wC rStr (wC (rOb (cTpl rInt)) (wC (rOpt (rOb (cTpl rInt))) (w1 (rOpt (rOb (cTpl rInt))))))))))))))))))) ((fun _ hz => hz) _ hz)) _ hz)) (ev_get (ev_var rfl) hg6)) h kr)
      · have h := iteO_f hc h
        refine nx_next ?_
        try dsimp only
        exact (sq_ret (ev_inr (ra := (rOb (cTup (wC rStr (w1 (rOb (cTup (wC rStr (wC (rOb (cTpl rInt)) (wC (rOpt (rOb (cTpl rInt))) (w1 (rOpt (rOb (cTpl rInt)))))))))))))) (ev_inr (ra := (rOb (cTup (wC rStr (w1 (rOb (cTup (wC rStr (w1 (rOb (cTpl rInt))))))))))) (ev_new (ec_tup (ew_C ev_str (ew_1 (ev_var rfl))))))) h kr)
    · refine nxe_sum h (fun e7 h => ?_) (fun e8 h => ?_)
      · refine nxe_as T.e_InvalidChange_InvalidChange (fun p9 d10 => ⟨_, fun oe pn hz hf => (pss_cons (ps_set (i := 1) sc_l_made.nd rfl (by first | exact Or.inl rfl | exact Or.inr rfl) (pe_tup (pa_cons pe_str (pa_cons (pe_xf T.xf_InvalidChange T.na_InvalidChange_change hz hf (pv 3)) pa_nil)))) pss_nil), ?_⟩)
        show Nx _ _ [.imm (rOb (cLst (rOb (cTup (wC rStr (wC (rOb (cTpl rInt)) (wC (rOpt (rOb (cTpl rInt))) (w1 (rOpt (rOb (cTpl rInt))))))))))) moves0, .imm (rOpt (rAlt (rOb (cTup (wC rStr (w1 (rOb (cTup (wC rStr (wC (rOb (cTpl rInt)) (wC (rOpt (rOb (cTpl rInt))) (w1 (rOpt (rOb (cTpl rInt))))))))))))) (rOb (cTup (wC rStr (w1 (rOb (cTup (wC rStr (w1 (rOb (cTpl rInt)))))))))))) caught1, .no, .imm (rExc p9 d10 a.C_InvalidChange [("change" : Str)] (w1 (rOb (cTup (wC rStr (wC (rOb (cTpl rInt)) (wC (rOpt (rOb (cTpl rInt))) (w1 (rOpt (rOb (cTpl rInt))))))))))) e7]
        obtain ⟨caught11, hcaught11, h⟩ := letO_some h
        refine (sq_asg (ev_to (ev_some (nn_alt nn_ob nn_ob) (ev_inl (rb := (rOb (cTup (wC rStr (w1 (rOb (cTup (wC rStr (w1 (rOb (cTpl rInt))))))))))) (ev_new (ec_tup (ew_C ev_str (ew_1 (ev_xf (ev_var rfl) (acc1) rfl))))))) hcaught11.symm) ?_)
        show Nx _ _ [.imm (rOb (cLst (rOb (cTup (wC rStr (wC (rOb (cTpl rInt)) (wC (rOpt (rOb (cTpl rInt))) (w1 (rOpt (rOb (cTpl rInt))))))))))) moves0, .imm (rOpt (rAlt (rOb (cTup (wC rStr (w1 (rOb (cTup (wC rStr (wC (rOb (cTpl rInt)) (wC (rOpt (rOb (cTpl rInt))) (w1 (rOpt (rOb (cTpl rInt))))))))))))) (rOb (cTup (wC rStr (w1 (rOb (cTup (wC rStr (w1 (rOb (cTpl rInt)))))))))))) caught11, .no, .imm (rExc p9 d10 a.C_InvalidChange [("change" : Str)] (w1 (rOb (cTup (wC rStr (wC (rOb (cTpl rInt)) (wC (rOpt (rOb (cTpl rInt))) (w1 (rOpt (rOb (cTpl rInt))))))))))) e7]
        refine nx_next ?_
        refine nx_unsetE ?_
        show Nx _ _ [.imm (rOb (cLst (rOb (cTup (wC rStr (wC (rOb (cTpl rInt)) (wC (rOpt (rOb (cTpl rInt))) (w1 (rOpt (rOb (cTpl rInt))))))))))) moves0, .imm (rOpt (rAlt (rOb (cTup (wC rStr (w1 (rOb (cTup (wC rStr (wC (rOb (cTpl rInt)) (wC (rOpt (rOb (cTpl rInt))) (w1 (rOpt (rOb (cTpl rInt))))))))))))) (rOb (cTup (wC rStr (w1 (rOb (cTup (wC rStr (w1 (rOb (cTpl rInt)))))))))))) caught11, .no, .no]
        obtain ⟨c12, hc12, h⟩ := letO_some h
        refine (sq_if (et_to (et_B (ev_notN (ev_var rfl))) hc12.symm) (fun hc => ?_) (fun hc => ?_))
        · have h := iteO_t hc h
          obtain ⟨g13, hg13, h⟩ := bindO_some h
          exact (sq_ret (ev_altW (f := (fun (z : (Str × (Str × (List Int) × (Option (List Int)) × (Option (List Int))))) => (.inl ((fun (z : (Str × (Str × (List Int) × (Option (List Int)) × (Option (List Int))))) => z) z) : ((Str × (Str × (List Int) × (Option (List Int)) × (Option (List Int)))) ⊕ ((Str × (Str × (List Int))) ⊕ (Str × ((List ((Str × (List Int)) × (Str × (List Int) × (Option (List Int)) × (Option (List Int))))) × (List (Str × (List Int) × (Option (List Int)) × (Option (List Int))))))))))) (g := (fun (z : (Str × (Str × (List Int)))) => (.inr ((fun (z : (Str × (Str × (List Int)))) => (.inl ((fun (z : (Str × (Str × (List Int)))) => z) z) : ((Str × (Str × (List Int))) ⊕ (Str × ((List ((Str × (List Int)) × (Str × (List Int) × (Option (List Int)) × (Option (List Int))))) × (List (Str × (List Int) × (Option (List Int)) × (Option (List Int))))))))) z) : ((Str × (Str × (List Int) × (Option (List Int)) × (Option (List Int)))) ⊕ ((Str × (Str × (List Int))) ⊕ (Str × ((List ((Str × (List Int)) × (Str × (List Int) × (Option (List Int)) × (Option (List Int))))) × (List (Str × (List Int) × (Option (List Int)) × (Option (List Int))))))))))) (fun _ hz => ev_inl (rb := (rAlt (rOb (cTup (wC rStr (w1 (rOb (cTup (wC rStr (w1 (rOb (cTpl rInt)))))))))) (rOb (cTup (wC rStr (w1 (rIns a.C_Edit [("_placed" : Str), ("changes" : Str)] (wC (rDicN P w kyPlc (rOb (cTup (wC rStr (wC (rOb (cTpl rInt)) (wC (rOpt (rOb (cTpl rInt))) (w1 (rOpt (rOb (cTpl rInt)))))))))) (w1 (rOb (cTpl (rOb (cTup (wC rStr (wC (rOb (cTpl rInt)) (wC (rOpt (rOb (cTpl rInt))) (w1 (rOpt (rOb (cTpl rInt)))))))))))))))))))) ((fun _ hz => hz) _ hz)) (fun _ hz => ev_inr (ra := (rOb (cTup (wC rStr (w1 (rOb (cTup (wC rStr (wC (rOb (cTpl rInt)) (wC (rOpt (rOb (cTpl rInt))) (w1 (rOpt (rOb (cTpl rInt)))))))))))))) ((fun _ hz => ev_inl (rb := (rOb (cTup (wC rStr (w1 (rIns a.C_Edit [("_placed" : Str), ("changes" : Str)] (wC (rDicN P w kyPlc (rOb (cTup (wC rStr (wC (rOb (cTpl rInt)) (wC (rOpt (rOb (cTpl rInt))) (w1 (rOpt (rOb (cTpl rInt)))))))))) (w1 (rOb (cTpl (rOb (cTup (wC rStr (wC (rOb (cTpl rInt)) (wC (rOpt (rOb (cTpl rInt))) (w1 (rOpt (rOb (cTpl rInt))))))))))))))))))) ((fun _ hz => hz) _ hz)) _ hz)) (ev_get (ev_var rfl) hg13)) h kr)
        · have h := iteO_f hc h
          refine nx_next ?_
          try dsimp only
          cases h
      · refine nxe_no T.e_SamePlace_InvalidChange ?_
        refine nxe_as T.e_SamePlace_SamePlace (fun p14 d15 => ⟨_, fun oe pn hz hf => (pss_cons (ps_set (i := 1) sc_l_made.nd rfl (by first | exact Or.inl rfl | exact Or.inr rfl) (pe_tup (pa_cons pe_str (pa_cons (pe_xf T.xf_SamePlace T.na_SamePlace_place hz hf (pv 3)) pa_nil)))) pss_nil), ?_⟩)
        show Nx _ _ [.imm (rOb (cLst (rOb (cTup (wC rStr (wC (rOb (cTpl rInt)) (wC (rOpt (rOb (cTpl rInt))) (w1 (rOpt (rOb (cTpl rInt))))))))))) moves0, .imm (rOpt (rAlt (rOb (cTup (wC rStr (w1 (rOb (cTup (wC rStr (wC (rOb (cTpl rInt)) (wC (rOpt (rOb (cTpl rInt))) (w1 (rOpt (rOb (cTpl rInt))))))))))))) (rOb (cTup (wC rStr (w1 (rOb (cTup (wC rStr (w1 (rOb (cTpl rInt)))))))))))) caught1, .no, .imm (rExc p14 d15 a.C_SamePlace [("place" : Str)] (w1 (rOb (cTup (wC rStr (w1 (rOb (cTpl rInt)))))))) e8]
        obtain ⟨caught16, hcaught16, h⟩ := letO_some h
        refine (sq_asg (ev_to (ev_some (nn_alt nn_ob nn_ob) (ev_inr (ra := (rOb (cTup (wC rStr (w1 (rOb (cTup (wC rStr (wC (rOb (cTpl rInt)) (wC (rOpt (rOb (cTpl rInt))) (w1 (rOpt (rOb (cTpl rInt)))))))))))))) (ev_new (ec_tup (ew_C ev_str (ew_1 (ev_xf (ev_var rfl) (acc1) rfl))))))) hcaught16.symm) ?_)
        show Nx _ _ [.imm (rOb (cLst (rOb (cTup (wC rStr (wC (rOb (cTpl rInt)) (wC (rOpt (rOb (cTpl rInt))) (w1 (rOpt (rOb (cTpl rInt))))))))))) moves0, .imm (rOpt (rAlt (rOb (cTup (wC rStr (w1 (rOb (cTup (wC rStr (wC (rOb (cTpl rInt)) (wC (rOpt (rOb (cTpl rInt))) (w1 (rOpt (rOb (cTpl rInt))))))))))))) (rOb (cTup (wC rStr (w1 (rOb (cTup (wC rStr (w1 (rOb (cTpl rInt)))))))))))) caught16, .no, .imm (rExc p14 d15 a.C_SamePlace [("place" : Str)] (w1 (rOb (cTup (wC rStr (w1 (rOb (cTpl rInt)))))))) e8]
        refine nx_next ?_
        refine nx_unsetE ?_
        show Nx _ _ [.imm (rOb (cLst (rOb (cTup (wC rStr (wC (rOb (cTpl rInt)) (wC (rOpt (rOb (cTpl rInt))) (w1 (rOpt (rOb (cTpl rInt))))))))))) moves0, .imm (rOpt (rAlt (rOb (cTup (wC rStr (w1 (rOb (cTup (wC rStr (wC (rOb (cTpl rInt)) (wC (rOpt (rOb (cTpl rInt))) (w1 (rOpt (rOb (cTpl rInt))))))))))))) (rOb (cTup (wC rStr (w1 (rOb (cTup (wC rStr (w1 (rOb (cTpl rInt)))))))))))) caught16, .no, .no]
        obtain ⟨c17, hc17, h⟩ := letO_some h
        refine (sq_if (et_to (et_B (ev_notN (ev_var rfl))) hc17.symm) (fun hc => ?_) (fun hc => ?_))
        · have h := iteO_t hc h
          obtain ⟨g18, hg18, h⟩ := bindO_some h
          exact (sq_ret (ev_altW (f := (fun (z : (Str × (Str × (List Int) × (Option (List Int)) × (Option (List Int))))) => (.inl ((fun (z : (Str × (Str × (List Int) × (Option (List Int)) × (Option (List Int))))) => z) z) : ((Str × (Str × (List Int) × (Option (List Int)) × (Option (List Int)))) ⊕ ((Str × (Str × (List Int))) ⊕ (Str × ((List ((Str × (List Int)) × (Str × (List Int) × (Option (List Int)) × (Option (List Int))))) × (List (Str × (List Int) × (Option (List Int)) × (Option (List Int))))))))))) (g := (fun (z : (Str × (Str × (List Int)))) => (.inr ((fun (z : (Str × (Str × (List Int)))) => (.inl ((fun (z : (Str × (Str × (List Int)))) => z) z) : ((Str × (Str × (List Int))) ⊕ (Str × ((List ((Str × (List Int)) × (Str × (List Int) × (Option (List Int)) × (Option (List Int))))) × (List (Str × (List Int) × (Option (List Int)) × (Option (List Int))))))))) z) : ((Str × (Str × (List Int) × (Option (List Int)) × (Option (List Int)))) ⊕ ((Str × (Str × (List Int))) ⊕ (Str × ((List ((Str × (List Int)) × (Str × (List Int) × (Option (List Int)) × (Option (List Int))))) × (List (Str × (List Int) × (Option (List Int)) × (Option (List Int))))))))))) (fun _ hz => ev_inl (rb := (rAlt (rOb (cTup (wC rStr (w1 (rOb (cTup (wC rStr (w1 (rOb (cTpl rInt)))))))))) (rOb (cTup (wC rStr (w1 (rIns a.C_Edit [("_placed" : Str), ("changes" : Str)] (wC (rDicN P w kyPlc (rOb (cTup (wC rStr (wC (rOb (cTpl rInt)) (wC (rOpt (rOb (cTpl rInt))) (w1 (rOpt (rOb (cTpl rInt)))))))))) (w1 (rOb (cTpl (rOb (cTup (wC rStr (wC (rOb (cTpl rInt)) (wC (rOpt (rOb (cTpl rInt))) (w1 (rOpt (rOb (cTpl rInt)))))))))))))))))))) ((fun _ hz => hz) _ hz)) (fun _ hz => ev_inr (ra := (rOb (cTup (wC rStr (w1 (rOb (cTup (wC rStr (wC (rOb (cTpl rInt)) (wC (rOpt (rOb (cTpl rInt))) (w1 (rOpt (rOb (cTpl rInt)))))))))))))) ((fun _ hz => ev_inl (rb := (rOb (cTup (wC rStr (w1 (rIns a.C_Edit [("_placed" : Str), ("changes" : Str)] (wC (rDicN P w kyPlc (rOb (cTup (wC rStr (wC (rOb (cTpl rInt)) (wC (rOpt (rOb (cTpl rInt))) (w1 (rOpt (rOb (cTpl rInt)))))))))) (w1 (rOb (cTpl (rOb (cTup (wC rStr (wC (rOb (cTpl rInt)) (wC (rOpt (rOb (cTpl rInt))) (w1 (rOpt (rOb (cTpl rInt))))))))))))))))))) ((fun _ hz => hz) _ hz)) _ hz)) (ev_get (ev_var rfl) hg18)) h kr)
        · have h := iteO_f hc h
          refine nx_next ?_
          try dsimp only
          cases h
theorem ok_l_base_caught (T : Txt K mg base a) : FnOk P w K mg base CX0 6 a.f_l_base_caught a.d_l_base_caught ["_law_moves"] (SpP (w1 (rOb (cTpl (rOb (cTup (wC rStr (wC (rOb (cTpl rInt)) (wC (rOpt (rOb (cTpl rInt))) (w1 (rOpt (rOb (cTpl rInt)))))))))))) rBool (fun x => m_l_base_caught x)) := by
  refine T.F_l_base_caught.ok sc_l_base_caught (fun vs H Q E h => ?_) (fun cdv A outer s H vs Q E hr h => ?_)
  · obtain ⟨B, x, b, z, sm, hw, h, kr⟩ := h
    rw [WLen.len hw]; rfl
  · obtain ⟨B, moves0, b, z, sm, hw, h, kr⟩ := h
    have h : m_l_base_caught moves0 = some b := h
    refine ⟨_, (pss_cons (ps_set (i := 1) sc_l_base_caught.nd rfl (by first | exact Or.inl rfl | exact Or.inr rfl) pe_non) (pss_cons (ps_tryG (i := 2) rfl rfl sc_l_base_caught.nd rfl rfl ⟨rfl, by decide, Or.inl T.g_ShownError⟩ takes0) (pss_cons (ps_if (pt_cmp (pc_notN (pv 1))) (pss_cons (ps_ret (pv 1)) pss_nil) pss_nil) (pss_cons (ps_ret pe_bl) pss_nil)))), ?_⟩
    refine nx_go (frm_start (N := N_l_base_caught) (n := 2) z sm hw (by rw [WLen.len hw]; rfl)) ?_
    show Nx _ _ [.imm (rOb (cTpl (rOb (cTup (wC rStr (wC (rOb (cTpl rInt)) (wC (rOpt (rOb (cTpl rInt))) (w1 (rOpt (rOb (cTpl rInt))))))))))) moves0, .no, .no]
    unfold m_l_base_caught at h
    obtain ⟨caught1, hcaught1, h⟩ := letO_some h
    refine (sq_asg (ev_to (ev_none (r := rBool)) hcaught1.symm) ?_)
    show Nx _ _ [.imm (rOb (cTpl (rOb (cTup (wC rStr (wC (rOb (cTpl rInt)) (wC (rOpt (rOb (cTpl rInt))) (w1 (rOpt (rOb (cTpl rInt))))))))))) moves0, .imm (rOpt rBool) caught1, .no]
    refine sq_try (fun pn xe tk po => (pss_cons (ps_expr (pe_makeS T.M_Edit (ok_Edit___init___Vt (P := P) (w := w) (base := base) T) (hr.mono (Nat.le_of_ble_eq_true rfl)) rfl T.g_Edit (binds_nil T.n_Edit___init_1 T.v_Edit___init_1) (fun σ => passAt tk σ) (pa_cons (pv 0) pa_nil))) pss_nil)) ?_
    show Nx _ _ [.imm (rOb (cTpl (rOb (cTup (wC rStr (wC (rOb (cTpl rInt)) (wC (rOpt (rOb (cTpl rInt))) (w1 (rOpt (rOb (cTpl rInt))))))))))) moves0, .imm (rOpt rBool) caught1, .no]
    obtain ⟨r2, hr2, h⟩ := bindO_some h
    refine (xdMake (fun s h => erS_mono (R1 := (erC a.C_InvalidChange [("change" : Str)] (w1 (rOb (cTup (wC rStr (wC (rOb (cTpl rInt)) (wC (rOpt (rOb (cTpl rInt))) (w1 (rOpt (rOb (cTpl rInt)))))))))))) (R2 := (erC a.C_SamePlace [("place" : Str)] (w1 (rOb (cTup (wC rStr (w1 (rOb (cTpl rInt))))))))) (fun s h => erC_mono s h) (fun s h => erC_mono s h) s h) (ew_1 (ev_var rfl)) hr2 h (fun y3 h => ?_) (fun e4 h => ?_))
    · show Nx _ _ [.imm (rOb (cTpl (rOb (cTup (wC rStr (wC (rOb (cTpl rInt)) (wC (rOpt (rOb (cTpl rInt))) (w1 (rOpt (rOb (cTpl rInt))))))))))) moves0, .imm (rOpt rBool) caught1, .no]
      refine nx_next ?_
      show Nx _ _ [.imm (rOb (cTpl (rOb (cTup (wC rStr (wC (rOb (cTpl rInt)) (wC (rOpt (rOb (cTpl rInt))) (w1 (rOpt (rOb (cTpl rInt))))))))))) moves0, .imm (rOpt rBool) caught1, .no]
      obtain ⟨c5, hc5, h⟩ := letO_some h
      refine (sq_if (et_to (et_B (ev_notN (ev_var rfl))) hc5.symm) (fun hc => ?_) (fun hc => ?_))
      · have h := iteO_t hc h
        obtain ⟨g6, hg6, h⟩ := bindO_some h
        exact (sq_ret (ev_get (ev_var rfl) hg6) h kr)
      · have h := iteO_f hc h
        refine nx_next ?_
        try dsimp only
        exact (sq_ret ev_bl h kr)
    · refine nxe_sum h (fun e7 h => ?_) (fun e8 h => ?_)
      · refine nxe_as T.e_InvalidChange_ShownError (fun p9 d10 => ⟨_, fun oe pn hz hf => (pss_cons (ps_set (i := 1) sc_l_base_caught.nd rfl (by first | exact Or.inl rfl | exact Or.inr rfl) (pe_and (pe_callB (call_isX (K := K) rfl T.xc_InvalidChange hz hf) (by rfl) T.b_isinstance (by decide +kernel) (pa_cons (pv 2) (pa_cons (pe_bltn (v := .ty "ValueError") (by rfl) T.b_ValueError (by decide +kernel) rfl) pa_nil))) (pe_and (pe_not (pe_callB (call_isX (K := K) rfl T.xc_InvalidChange hz hf) (by rfl) T.b_isinstance (by decide +kernel) (pa_cons (pv 2) (pa_cons (pe_glob (v := .ref a.C_Clash) (by rfl) T.g_Clash rfl) pa_nil)))) (pe_one (pe_not (pe_callB (call_isX (K := K) rfl T.xc_InvalidChange hz hf) (by rfl) T.b_isinstance (by decide +kernel) (pa_cons (pv 2) (pa_cons (pe_glob (v := .ref a.C_NoChange) (by rfl) T.g_NoChange rfl) pa_nil)))))))) pss_nil), ?_⟩)
        show Nx _ _ [.imm (rOb (cTpl (rOb (cTup (wC rStr (wC (rOb (cTpl rInt)) (wC (rOpt (rOb (cTpl rInt))) (w1 (rOpt (rOb (cTpl rInt))))))))))) moves0, .imm (rOpt rBool) caught1, .imm (rExc p9 d10 a.C_InvalidChange [("change" : Str)] (w1 (rOb (cTup (wC rStr (wC (rOb (cTpl rInt)) (wC (rOpt (rOb (cTpl rInt))) (w1 (rOpt (rOb (cTpl rInt))))))))))) e7]
        obtain ⟨caught11, hcaught11, h⟩ := letO_some h
        refine (sq_asg (ev_to (ev_some nn_bool (ev_and0 (ev_isX (ev_var rfl) (.ty _) T.q_InvalidChange_ValueError) (ev_and0 (ev_not (ev_isX (ev_var rfl) (.own _) T.q_InvalidChange_Clash)) (ev_not (ev_isX (ev_var rfl) (.own _) T.q_InvalidChange_NoChange))))) hcaught11.symm) ?_)
        show Nx _ _ [.imm (rOb (cTpl (rOb (cTup (wC rStr (wC (rOb (cTpl rInt)) (wC (rOpt (rOb (cTpl rInt))) (w1 (rOpt (rOb (cTpl rInt))))))))))) moves0, .imm (rOpt rBool) caught11, .imm (rExc p9 d10 a.C_InvalidChange [("change" : Str)] (w1 (rOb (cTup (wC rStr (wC (rOb (cTpl rInt)) (wC (rOpt (rOb (cTpl rInt))) (w1 (rOpt (rOb (cTpl rInt))))))))))) e7]
        refine nx_next ?_
        refine nx_unsetE ?_
        show Nx _ _ [.imm (rOb (cTpl (rOb (cTup (wC rStr (wC (rOb (cTpl rInt)) (wC (rOpt (rOb (cTpl rInt))) (w1 (rOpt (rOb (cTpl rInt))))))))))) moves0, .imm (rOpt rBool) caught11, .no]
        obtain ⟨c12, hc12, h⟩ := letO_some h
        refine (sq_if (et_to (et_B (ev_notN (ev_var rfl))) hc12.symm) (fun hc => ?_) (fun hc => ?_))
        · have h := iteO_t hc h
          obtain ⟨g13, hg13, h⟩ := bindO_some h
          exact (sq_ret (ev_get (ev_var rfl) hg13) h kr)
        · have h := iteO_f hc h
          refine nx_next ?_
          try dsimp only
          exact (sq_ret ev_bl h kr)
      · refine nxe_as T.e_SamePlace_ShownError (fun p14 d15 => ⟨_, fun oe pn hz hf => (pss_cons (ps_set (i := 1) sc_l_base_caught.nd rfl (by first | exact Or.inl rfl | exact Or.inr rfl) (pe_and (pe_callB (call_isX (K := K) rfl T.xc_SamePlace hz hf) (by rfl) T.b_isinstance (by decide +kernel) (pa_cons (pv 2) (pa_cons (pe_bltn (v := .ty "ValueError") (by rfl) T.b_ValueError (by decide +kernel) rfl) pa_nil))) (pe_and (pe_not (pe_callB (call_isX (K := K) rfl T.xc_SamePlace hz hf) (by rfl) T.b_isinstance (by decide +kernel) (pa_cons (pv 2) (pa_cons (pe_glob (v := .ref a.C_Clash) (by rfl) T.g_Clash rfl) pa_nil)))) (pe_one (pe_not (pe_callB (call_isX (K := K) rfl T.xc_SamePlace hz hf) (by rfl) T.b_isinstance (by decide +kernel) (pa_cons (pv 2) (pa_cons (pe_glob (v := .ref a.C_NoChange) (by rfl) T.g_NoChange rfl) pa_nil)))))))) pss_nil), ?_⟩)
        show Nx _ _ [.imm (rOb (cTpl (rOb (cTup (wC rStr (wC (rOb (cTpl rInt)) (wC (rOpt (rOb (cTpl rInt))) (w1 (rOpt (rOb (cTpl rInt))))))))))) moves0, .imm (rOpt rBool) caught1, .imm (rExc p14 d15 a.C_SamePlace [("place" : Str)] (w1 (rOb (cTup (wC rStr (w1 (rOb (cTpl rInt)))))))) e8]
        obtain ⟨caught16, hcaught16, h⟩ := letO_some h
        refine (sq_asg (ev_to (ev_some nn_bool (ev_and0 (ev_isX (ev_var rfl) (.ty _) T.q_SamePlace_ValueError) (ev_and0 (ev_not (ev_isX (ev_var rfl) (.own _) T.q_SamePlace_Clash)) (ev_not (ev_isX (ev_var rfl) (.own _) T.q_SamePlace_NoChange))))) hcaught16.symm) ?_)
        show Nx _ _ [.imm (rOb (cTpl (rOb (cTup (wC rStr (wC (rOb (cTpl rInt)) (wC (rOpt (rOb (cTpl rInt))) (w1 (rOpt (rOb (cTpl rInt))))))))))) moves0, .imm (rOpt rBool) caught16, .imm (rExc p14 d15 a.C_SamePlace [("place" : Str)] (w1 (rOb (cTup (wC rStr (w1 (rOb (cTpl rInt)))))))) e8]
        refine nx_next ?_
        refine nx_unsetE ?_
        show Nx _ _ [.imm (rOb (cTpl (rOb (cTup (wC rStr (wC (rOb (cTpl rInt)) (wC (rOpt (rOb (cTpl rInt))) (w1 (rOpt (rOb (cTpl rInt))))))))))) moves0, .imm (rOpt rBool) caught16, .no]
        obtain ⟨c17, hc17, h⟩ := letO_some h
        refine (sq_if (et_to (et_B (ev_notN (ev_var rfl))) hc17.symm) (fun hc => ?_) (fun hc => ?_))
        · have h := iteO_t hc h
          obtain ⟨g18, hg18, h⟩ := bindO_some h
          exact (sq_ret (ev_get (ev_var rfl) hg18) h kr)
        · have h := iteO_f hc h
          refine nx_next ?_
          try dsimp only
          exact (sq_ret ev_bl h kr)
theorem ok_l_asked (T : Txt K mg base a) : FnOk P w K mg base CX0 5 a.f_l_asked a.d_l_asked ["_law_edit", "_law_place_here"] (SpP (wC (rIns a.C_Edit [("_placed" : Str), ("changes" : Str)] (wC (rDicN P w kyPlc (rOb (cTup (wC rStr (wC (rOb (cTpl rInt)) (wC (rOpt (rOb (cTpl rInt))) (w1 (rOpt (rOb (cTpl rInt)))))))))) (w1 (rOb (cTpl (rOb (cTup (wC rStr (wC (rOb (cTpl rInt)) (wC (rOpt (rOb (cTpl rInt))) (w1 (rOpt (rOb (cTpl rInt)))))))))))))) (w1 (rOb (cTup (wC rStr (w1 (rOb (cTpl rInt)))))))) (rAlt (rOb (cTup (wC rStr (w1 (rOb (cTup (wC rStr (w1 (rOb (cTpl rInt)))))))))) (rOb (cTup (wC rStr (w1 (rOb (cTup (wC (rOpt (rOb (cTpl rInt))) (w1 (rOpt (rOb (cTpl rInt)))))))))))) (fun x => m_l_asked x.1 x.2)) := by
  refine T.F_l_asked.ok sc_l_asked (fun vs H Q E h => ?_) (fun cdv A outer s H vs Q E hr h => ?_)
  · obtain ⟨B, x, b, z, sm, hw, h, kr⟩ := h
    rw [WLen.len hw]; rfl
  · obtain ⟨B, ⟨edit0, place_here0⟩, b, z, sm, hw, h, kr⟩ := h
    have h : m_l_asked edit0 place_here0 = some b := h
    refine ⟨_, (pss_cons (ps_set (i := 2) sc_l_asked.nd rfl (by first | exact Or.inl rfl | exact Or.inr rfl) pe_non) (pss_cons (ps_tryG (i := 4) rfl rfl sc_l_asked.nd rfl rfl ⟨rfl, by decide, Or.inl T.g_NoChange⟩ takes0) (pss_cons (ps_if (pt_cmp (pc_notN (pv 2))) (pss_cons (ps_ret (pv 2)) pss_nil) pss_nil) (pss_cons (ps_ret (pe_tup (pa_cons pe_str (pa_cons (pv 3) pa_nil)))) pss_nil)))), ?_⟩
    refine nx_go (frm_start (N := N_l_asked) (n := 3) z sm hw (by rw [WLen.len hw]; rfl)) ?_
    show Nx _ _ [.imm (rIns a.C_Edit [("_placed" : Str), ("changes" : Str)] (wC (rDicN P w kyPlc (rOb (cTup (wC rStr (wC (rOb (cTpl rInt)) (wC (rOpt (rOb (cTpl rInt))) (w1 (rOpt (rOb (cTpl rInt)))))))))) (w1 (rOb (cTpl (rOb (cTup (wC rStr (wC (rOb (cTpl rInt)) (wC (rOpt (rOb (cTpl rInt))) (w1 (rOpt (rOb (cTpl rInt)))))))))))))) edit0, .imm (rOb (cTup (wC rStr (w1 (rOb (cTpl rInt)))))) place_here0, .no, .no, .no]
    unfold m_l_asked at h
    obtain ⟨caught1, hcaught1, h⟩ := letO_some h
    refine (sq_asg (ev_to (ev_none (r := (rOb (cTup (wC rStr (w1 (rOb (cTup (wC rStr (w1 (rOb (cTpl rInt)))))))))))) hcaught1.symm) ?_)
    show Nx _ _ [.imm (rIns a.C_Edit [("_placed" : Str), ("changes" : Str)] (wC (rDicN P w kyPlc (rOb (cTup (wC rStr (wC (rOb (cTpl rInt)) (wC (rOpt (rOb (cTpl rInt))) (w1 (rOpt (rOb (cTpl rInt)))))))))) (w1 (rOb (cTpl (rOb (cTup (wC rStr (wC (rOb (cTpl rInt)) (wC (rOpt (rOb (cTpl rInt))) (w1 (rOpt (rOb (cTpl rInt)))))))))))))) edit0, .imm (rOb (cTup (wC rStr (w1 (rOb (cTpl rInt)))))) place_here0, .imm (rOpt (rOb (cTup (wC rStr (w1 (rOb (cTup (wC rStr (w1 (rOb (cTpl rInt))))))))))) caught1, .no, .no]
    refine sq_try (fun pn xe tk po => (pss_cons (ps_set (i := 3) sc_l_asked.nd rfl (by first | exact Or.inl rfl | exact Or.inr rfl) (pe_itX (K := K) (C := a.C_Edit) rfl T.me_Edit___getitem T.fi_Edit___getitem (ok_Edit___getitem (P := P) (w := w) (base := base) T) (hr.mono (Nat.le_of_ble_eq_true rfl)) T.n_Edit___getitem (fun σ => passAt tk σ) (pv 0) (pv 1) (fun _ _ => rfl))) pss_nil)) ?_
    show Nx _ _ [.imm (rIns a.C_Edit [("_placed" : Str), ("changes" : Str)] (wC (rDicN P w kyPlc (rOb (cTup (wC rStr (wC (rOb (cTpl rInt)) (wC (rOpt (rOb (cTpl rInt))) (w1 (rOpt (rOb (cTpl rInt)))))))))) (w1 (rOb (cTpl (rOb (cTup (wC rStr (wC (rOb (cTpl rInt)) (wC (rOpt (rOb (cTpl rInt))) (w1 (rOpt (rOb (cTpl rInt)))))))))))))) edit0, .imm (rOb (cTup (wC rStr (w1 (rOb (cTpl rInt)))))) place_here0, .imm (rOpt (rOb (cTup (wC rStr (w1 (rOb (cTup (wC rStr (w1 (rOb (cTpl rInt))))))))))) caught1, .no, .no]
    obtain ⟨r2, hr2, h⟩ := bindO_some h
    refine (xaIt (ev_var rfl) (ev_var rfl) hr2 h (fun law_found3 h => ?_) (fun e4 h => ?_))
    · show Nx _ _ [.imm (rIns a.C_Edit [("_placed" : Str), ("changes" : Str)] (wC (rDicN P w kyPlc (rOb (cTup (wC rStr (wC (rOb (cTpl rInt)) (wC (rOpt (rOb (cTpl rInt))) (w1 (rOpt (rOb (cTpl rInt)))))))))) (w1 (rOb (cTpl (rOb (cTup (wC rStr (wC (rOb (cTpl rInt)) (wC (rOpt (rOb (cTpl rInt))) (w1 (rOpt (rOb (cTpl rInt)))))))))))))) edit0, .imm (rOb (cTup (wC rStr (w1 (rOb (cTpl rInt)))))) place_here0, .imm (rOpt (rOb (cTup (wC rStr (w1 (rOb (cTup (wC rStr (w1 (rOb (cTpl rInt))))))))))) caught1, .imm (rOb (cTup (wC (rOpt (rOb (cTpl rInt))) (w1 (rOpt (rOb (cTpl rInt))))))) law_found3, .no]
      refine nx_next ?_
      show Nx _ _ [.imm (rIns a.C_Edit [("_placed" : Str), ("changes" : Str)] (wC (rDicN P w kyPlc (rOb (cTup (wC rStr (wC (rOb (cTpl rInt)) (wC (rOpt (rOb (cTpl rInt))) (w1 (rOpt (rOb (cTpl rInt)))))))))) (w1 (rOb (cTpl (rOb (cTup (wC rStr (wC (rOb (cTpl rInt)) (wC (rOpt (rOb (cTpl rInt))) (w1 (rOpt (rOb (cTpl rInt)))))))))))))) edit0, .imm (rOb (cTup (wC rStr (w1 (rOb (cTpl rInt)))))) place_here0, .imm (rOpt (rOb (cTup (wC rStr (w1 (rOb (cTup (wC rStr (w1 (rOb (cTpl rInt))))))))))) caught1, .imm (rOb (cTup (wC (rOpt (rOb (cTpl rInt))) (w1 (rOpt (rOb (cTpl rInt))))))) law_found3, .no]
      obtain ⟨c5, hc5, h⟩ := letO_some h
      refine (sq_if (et_to (et_B (ev_notN (ev_var rfl))) hc5.symm) (fun hc => ?_) (fun hc => ?_))
      · have h := iteO_t hc h
        obtain ⟨g6, hg6, h⟩ := bindO_some h
        exact (sq_ret (ev_inl (rb := (rOb (cTup (wC rStr (w1 (rOb (cTup (wC (rOpt (rOb (cTpl rInt))) (w1 (rOpt (rOb (cTpl rInt)))))))))))) (ev_get (ev_var rfl) hg6)) h kr)
      · have h := iteO_f hc h
        refine nx_next ?_
        try dsimp only
        exact (sq_ret (ev_inr (ra := (rOb (cTup (wC rStr (w1 (rOb (cTup (wC rStr (w1 (rOb (cTpl rInt))))))))))) (ev_new (ec_tup (ew_C ev_str (ew_1 (ev_var rfl)))))) h kr)
    · refine nxe_as T.e_NoChange_NoChange (fun p7 d8 => ⟨_, fun oe pn hz hf => (pss_cons (ps_set (i := 2) sc_l_asked.nd rfl (by first | exact Or.inl rfl | exact Or.inr rfl) (pe_tup (pa_cons pe_str (pa_cons (pe_xf T.xf_NoChange T.na_NoChange_place hz hf (pv 4)) pa_nil)))) pss_nil), ?_⟩)
      show Nx _ _ [.imm (rIns a.C_Edit [("_placed" : Str), ("changes" : Str)] (wC (rDicN P w kyPlc (rOb (cTup (wC rStr (wC (rOb (cTpl rInt)) (wC (rOpt (rOb (cTpl rInt))) (w1 (rOpt (rOb (cTpl rInt)))))))))) (w1 (rOb (cTpl (rOb (cTup (wC rStr (wC (rOb (cTpl rInt)) (wC (rOpt (rOb (cTpl rInt))) (w1 (rOpt (rOb (cTpl rInt)))))))))))))) edit0, .imm (rOb (cTup (wC rStr (w1 (rOb (cTpl rInt)))))) place_here0, .imm (rOpt (rOb (cTup (wC rStr (w1 (rOb (cTup (wC rStr (w1 (rOb (cTpl rInt))))))))))) caught1, .no, .imm (rExc p7 d8 a.C_NoChange [("place" : Str)] (w1 (rOb (cTup (wC rStr (w1 (rOb (cTpl rInt)))))))) e4]
      obtain ⟨caught9, hcaught9, h⟩ := letO_some h
      refine (sq_asg (ev_to (ev_some nn_ob (ev_new (ec_tup (ew_C ev_str (ew_1 (ev_xf (ev_var rfl) (acc1) rfl)))))) hcaught9.symm) ?_)
      show Nx _ _ [.imm (rIns a.C_Edit [("_placed" : Str), ("changes" : Str)] (wC (rDicN P w kyPlc (rOb (cTup (wC rStr (wC (rOb (cTpl rInt)) (wC (rOpt (rOb (cTpl rInt))) (w1 (rOpt (rOb (cTpl rInt)))))))))) (w1 (rOb (cTpl (rOb (cTup (wC rStr (wC (rOb (cTpl rInt)) (wC (rOpt (rOb (cTpl rInt))) (w1 (rOpt (rOb (cTpl rInt)))))))))))))) edit0, .imm (rOb (cTup (wC rStr (w1 (rOb (cTpl rInt)))))) place_here0, .imm (rOpt (rOb (cTup (wC rStr (w1 (rOb (cTup (wC rStr (w1 (rOb (cTpl rInt))))))))))) caught9, .no, .imm (rExc p7 d8 a.C_NoChange [("place" : Str)] (w1 (rOb (cTup (wC rStr (w1 (rOb (cTpl rInt)))))))) e4]
      refine nx_next ?_
      refine nx_unsetE ?_
      show Nx _ _ [.imm (rIns a.C_Edit [("_placed" : Str), ("changes" : Str)] (wC (rDicN P w kyPlc (rOb (cTup (wC rStr (wC (rOb (cTpl rInt)) (wC (rOpt (rOb (cTpl rInt))) (w1 (rOpt (rOb (cTpl rInt)))))))))) (w1 (rOb (cTpl (rOb (cTup (wC rStr (wC (rOb (cTpl rInt)) (wC (rOpt (rOb (cTpl rInt))) (w1 (rOpt (rOb (cTpl rInt)))))))))))))) edit0, .imm (rOb (cTup (wC rStr (w1 (rOb (cTpl rInt)))))) place_here0, .imm (rOpt (rOb (cTup (wC rStr (w1 (rOb (cTup (wC rStr (w1 (rOb (cTpl rInt))))))))))) caught9, .no, .no]
      obtain ⟨c10, hc10, h⟩ := letO_some h
      refine (sq_if (et_to (et_B (ev_notN (ev_var rfl))) hc10.symm) (fun hc => ?_) (fun hc => ?_))
      · have h := iteO_t hc h
        obtain ⟨g11, hg11, h⟩ := bindO_some h
        exact (sq_ret (ev_inl (rb := (rOb (cTup (wC rStr (w1 (rOb (cTup (wC (rOpt (rOb (cTpl rInt))) (w1 (rOpt (rOb (cTpl rInt)))))))))))) (ev_get (ev_var rfl) hg11)) h kr)
      · have h := iteO_f hc h
        refine nx_next ?_
        try dsimp only
        cases h
theorem ok_l_right (T : Txt K mg base a) : FnOk P w K mg base CX0 6 a.f_l_right a.d_l_right ["_law_edit", "_law_due_here"] (SpP (wC (rIns a.C_Edit [("_placed" : Str), ("changes" : Str)] (wC (rDicN P w kyPlc (rOb (cTup (wC rStr (wC (rOb (cTpl rInt)) (wC (rOpt (rOb (cTpl rInt))) (w1 (rOpt (rOb (cTpl rInt)))))))))) (w1 (rOb (cTpl (rOb (cTup (wC rStr (wC (rOb (cTpl rInt)) (wC (rOpt (rOb (cTpl rInt))) (w1 (rOpt (rOb (cTpl rInt)))))))))))))) (w1 (rOb (cLst (rOb (cTup (wC rStr (wC (rOb (cTpl rInt)) (wC (rOpt (rOb (cTpl rInt))) (w1 (rOpt (rOb (cTpl rInt))))))))))))) rBool (fun x => m_l_right x.1 x.2)) := by
  refine T.F_l_right.ok sc_l_right (fun vs H Q E h => ?_) (fun cdv A outer s H vs Q E hr h => ?_)
  · obtain ⟨B, x, b, z, sm, hw, h, kr⟩ := h
    rw [WLen.len hw]; rfl
  · obtain ⟨B, ⟨edit0, due_here0⟩, b, z, sm, hw, h, kr⟩ := h
    have h : m_l_right edit0 due_here0 = some b := h
    refine ⟨_, (pss_cons (ps_if (PW.pt (pw_or (pt_not (pt_val (pe_callB (isiK (K := K) rfl) (by rfl) T.b_isinstance (by decide +kernel) (pa_cons (fldK (K := K) rfl (pv 0) rfl) (pa_cons (pe_bltn (v := .ty "tuple") (by rfl) T.b_tuple boot_tuple rfl) pa_nil))))) (pw_or1 (pt_cmpR (neDK (K := K) rfl hr.units) (pe_callTy (list_ofK (K := K) rfl) (by rfl) T.b_list (by decide +kernel) (pa_cons (fldK (K := K) rfl (pv 0) rfl) pa_nil)) (pv 1) (nomark _))))) (pss_cons (ps_ret pe_bl) pss_nil) pss_nil) (pss_cons (ps_set (i := 2) sc_l_right.nd rfl (by first | exact Or.inl rfl | exact Or.inr rfl) (pe_lst (pa_cons (pe_prop (pv 0) T.cl_Edit T.pr_Edit_deletes (ok_Edit_deletes T) (hr.mono (by decide)) T.n_Edit_deletes .nil pass0 rfl) (pa_cons (pe_prop (pv 0) T.cl_Edit T.pr_Edit_inserts (ok_Edit_inserts T) (hr.mono (by decide)) T.n_Edit_inserts .nil pass0 rfl) (pa_cons (pe_prop (pv 0) T.cl_Edit T.pr_Edit_sets (ok_Edit_sets T) (hr.mono (by decide)) T.n_Edit_sets .nil pass0 rfl) pa_nil))))) (pss_cons (ps_set (i := 3) sc_l_right.nd rfl (by first | exact Or.inl rfl | exact Or.inr rfl) (pe_callB (len_seqK (K := K) rfl) (by rfl) T.b_len (by decide +kernel) (pa_cons (pe_lc (own := [("_law_change", 5)]) rfl sc_l_right.nd (pi_list (pv 1)) (blkOk_by (N := N_l_right) (sc := defScope s_l_right) (by decide +kernel)) (fun _ _ _ _ _ => (pg_name (i := 5) sc_l_right.nd rfl (by first | exact Or.inl rfl | exact Or.inr rfl))) (fun _ _ _ _ _ => (pts_one (pt_cmp (pc_isN (pe_ix (ix_tupK (K := K) rfl) (pv 5) pe_int (fun _ _ => rfl)))))) (fun _ _ _ _ _ => (pv 5))) pa_nil))) (pss_cons (ps_set (i := 4) sc_l_right.nd rfl (by first | exact Or.inl rfl | exact Or.inr rfl) (pe_callB (len_seqK (K := K) rfl) (by rfl) T.b_len (by decide +kernel) (pa_cons (pe_lc (own := [("_law_change", 5)]) rfl sc_l_right.nd (pi_list (pv 1)) (blkOk_by (N := N_l_right) (sc := defScope s_l_right) (by decide +kernel)) (fun _ _ _ _ _ => (pg_name (i := 5) sc_l_right.nd rfl (by first | exact Or.inl rfl | exact Or.inr rfl))) (fun _ _ _ _ _ => (pts_one (pt_cmp (pc_isN (pe_ix (ix_tupK (K := K) rfl) (pv 5) pe_int (fun _ _ => rfl)))))) (fun _ _ _ _ _ => (pv 5))) pa_nil))) (pss_cons (ps_if (PW.pt (pw_or (pt_cmpR (neDK (K := K) rfl hr.units) (pv 2) (pe_lst (pa_cons (pv 3) (pa_cons (pv 4) (pa_cons (pe_op op_sub (pe_op op_sub (pe_callB (len_seqK (K := K) rfl) (by rfl) T.b_len (by decide +kernel) (pa_cons (pv 1) pa_nil)) (pv 3)) (pv 4)) pa_nil)))) (nomark _)) (pw_or1 (pt_cmpR op_ne (pe_callB (call_lenO T.me_Edit___len (ok_Edit___len T) (hr.mono (by decide)) T.n_Edit___len pass0) (by rfl) T.b_len (by decide +kernel) (pa_cons (pv 0) pa_nil)) (pe_callB (len_seqK (K := K) rfl) (by rfl) T.b_len (by decide +kernel) (pa_cons (pv 1) pa_nil)) (nomark _))))) (pss_cons (ps_ret pe_bl) pss_nil) pss_nil) (pss_cons (ps_if (pt_cmpR op_ne (pe_callTy (call_boolL T.me_Edit___len T.nb_Edit (ok_Edit___len T) (hr.mono (by decide)) T.n_Edit___len pass0) (by rfl) T.b_bool (by decide +kernel) (pa_cons (pv 0) pa_nil)) (pe_cmpR op_gt (pe_callB (len_seqK (K := K) rfl) (by rfl) T.b_len (by decide +kernel) (pa_cons (pv 1) pa_nil)) pe_int (nomark _)) (nomark _)) (pss_cons (ps_ret pe_bl) pss_nil) pss_nil) (pss_cons (ps_for PassesOwn.never rfl (pi_list (pv 1)) (pg_name (i := 5) sc_l_right.nd rfl (by first | exact Or.inl rfl | exact Or.inr rfl)) (pss_cons (ps_if (PW.pt (pw_or (pt_not (pt_cmpR (inOK (P := P) (w := w) (K := K) (mg := mg) (base := base) rfl rfl rfl rfl rfl T.me_Edit___contains (ok_Edit___contains T) (hr.mono (Nat.le_of_ble_eq_true rfl)) T.n_Edit___contains pass0) (pe_slice (sl_tupK (K := K) rfl) (pv 5) po_none (po_some pe_int)) (pv 0) rfl)) (pw_or1 (pt_cmpR (neDK (K := K) rfl hr.units) (pe_call (ok_l_asked T) (hr.mono (by decide)) rfl T.g_l_asked T.F_l_asked.kp T.n_l_asked .nil pass0 (pa_cons (pv 0) (pa_cons (pe_slice (sl_tupK (K := K) rfl) (pv 5) po_none (po_some pe_int)) pa_nil))) (pe_tup (pa_cons pe_str (pa_cons (pe_slice (sl_tupK (K := K) rfl) (pv 5) (po_some pe_int) po_none) pa_nil))) (nomark _))))) (pss_cons (ps_ret pe_bl) pss_nil) pss_nil) pss_nil)) (pss_cons (ps_for PassesOwn.never rfl (pi_list (pe_lst (pa_cons (pe_tup (pa_cons pe_str (pa_cons (pe_tup (pa_cons pe_int (pa_cons pe_int (pa_cons pe_int pa_nil)))) pa_nil))) (pa_cons (pe_tup (pa_cons pe_str (pa_cons (pe_tup pa_nil) pa_nil))) (pa_cons (pe_tup (pa_cons pe_str (pa_cons (pe_tup (pa_cons pe_int pa_nil)) pa_nil))) (pa_cons (pe_tup (pa_cons pe_str (pa_cons (pe_tup (pa_cons pe_int pa_nil)) pa_nil))) pa_nil)))))) (pg_name (i := 6) sc_l_right.nd rfl (by first | exact Or.inl rfl | exact Or.inr rfl)) (pss_cons (ps_if (PW.pt (pw_or (pt_cmpR (inOK (P := P) (w := w) (K := K) (mg := mg) (base := base) rfl rfl rfl rfl rfl T.me_Edit___contains (ok_Edit___contains T) (hr.mono (Nat.le_of_ble_eq_true rfl)) T.n_Edit___contains pass0) (pv 6) (pv 0) rfl) (pw_or1 (pt_cmpR (neDK (K := K) rfl hr.units) (pe_call (ok_l_asked T) (hr.mono (by decide)) rfl T.g_l_asked T.F_l_asked.kp T.n_l_asked .nil pass0 (pa_cons (pv 0) (pa_cons (pv 6) pa_nil))) (pe_tup (pa_cons pe_str (pa_cons (pv 6) pa_nil))) (nomark _))))) (pss_cons (ps_ret pe_bl) pss_nil) pss_nil) pss_nil)) (pss_cons (ps_ret pe_bl) pss_nil))))))))), ?_⟩
    refine nx_go (frm_start (N := N_l_right) (n := 5) z sm hw (by rw [WLen.len hw]; rfl)) ?_
    show Nx _ _ [.imm (rIns a.C_Edit [("_placed" : Str), ("changes" : Str)] (wC (rDicN P w kyPlc (rOb (cTup (wC rStr (wC (rOb (cTpl rInt)) (wC (rOpt (rOb (cTpl rInt))) (w1 (rOpt (rOb (cTpl rInt)))))))))) (w1 (rOb (cTpl (rOb (cTup (wC rStr (wC (rOb (cTpl rInt)) (wC (rOpt (rOb (cTpl rInt))) (w1 (rOpt (rOb (cTpl rInt)))))))))))))) edit0, .imm (rOb (cLst (rOb (cTup (wC rStr (wC (rOb (cTpl rInt)) (wC (rOpt (rOb (cTpl rInt))) (w1 (rOpt (rOb (cTpl rInt))))))))))) due_here0, .no, .no, .no, .no, .no]
    unfold m_l_right at h
    obtain ⟨c3, hc3, h⟩ := letO_some h
    obtain ⟨b2, hb2, h⟩ := bindO_some h
    obtain ⟨c4, hc4, h⟩ := letO_some h
    refine (sq_if (et_to (et_or (et_to (et_not (et_B (ev_isi (ev_fld (ev_var rfl) (accS (acc1)) rfl (by decide +kernel) T.cl_Edit T.na_Edit_changes) ty_tpl (.ty _) (kit_ty (by decide +kernel))))) hc3.symm) (fun hc => by have hx := iteO_f hc hb2; obtain ⟨q1, hq1, hx⟩ := bindO_some hx; exact et_to (et_T (ev_neD (da_lst (da_tup (daw_C da_str (daw_C (da_tpl da_int) (daw_C (da_opt (da_tpl da_int)) (daw_1 (da_opt (da_tpl da_int)))))))) (da_lst (da_tup (daw_C da_str (daw_C (da_tpl da_int) (daw_C (da_opt (da_tpl da_int)) (daw_1 (da_opt (da_tpl da_int)))))))) (ev_new (ec_listT (ev_fld (ev_var rfl) (accS (acc1)) rfl (by decide +kernel) T.cl_Edit T.na_Edit_changes))) (ev_var rfl) hq1)) (Option.some.inj hx)) (fun hc => ⟨(Option.some.inj (iteO_t hc hb2)).symm, rfl⟩)) hc4.symm) (fun hc => ?_) (fun hc => ?_))
    · have h := iteO_t hc h
      exact (sq_ret ev_bl h kr)
    · have h := iteO_f hc h
      refine nx_next ?_
      try dsimp only
      obtain ⟨v5, hv5, h⟩ := bindO_some h
      obtain ⟨v6, hv6, h⟩ := bindO_some h
      obtain ⟨v7, hv7, h⟩ := bindO_some h
      obtain ⟨counts8, hcounts8, h⟩ := letO_some h
      refine (sq_asg (ev_to (ev_new (ec_lst (eh_C (ev_prop (ev_var rfl) hv5) (eh_C (ev_prop (ev_var rfl) hv6) (eh_C (ev_prop (ev_var rfl) hv7) eh_0))) (Nat.le_of_ble_eq_true rfl))) hcounts8.symm) ?_)
      show Nx _ _ [.imm (rIns a.C_Edit [("_placed" : Str), ("changes" : Str)] (wC (rDicN P w kyPlc (rOb (cTup (wC rStr (wC (rOb (cTpl rInt)) (wC (rOpt (rOb (cTpl rInt))) (w1 (rOpt (rOb (cTpl rInt)))))))))) (w1 (rOb (cTpl (rOb (cTup (wC rStr (wC (rOb (cTpl rInt)) (wC (rOpt (rOb (cTpl rInt))) (w1 (rOpt (rOb (cTpl rInt)))))))))))))) edit0, .imm (rOb (cLst (rOb (cTup (wC rStr (wC (rOb (cTpl rInt)) (wC (rOpt (rOb (cTpl rInt))) (w1 (rOpt (rOb (cTpl rInt))))))))))) due_here0, .imm (rOb (cLst rInt)) counts8, .no, .no, .no, .no]
      obtain ⟨l11, hl11, h⟩ := bindO_some h
      obtain ⟨deletes12, hdeletes12, h⟩ := letO_some h
      refine (sq_asg (ev_to (ev_lenL (ev_new (ec_lc (m_l_right_c1) (it_list (ev_var rfl)) hl11 tg_name (fun k hk => hk) (by rfl) (fun _ => by rfl) (fun change9 o ho => by unfold m_l_right_c1 at ho; obtain ⟨c10, hc10, ho⟩ := letO_some ho; cases c10 with | true => (have ho : (some (some change9)) = some o := ho; cases ho; exact ⟨et_to (et_B (ev_isN (ev_ixU (k := 3) (ev_var rfl) (accS (accS (accS (acc1))))))) hc10.symm, fun y hy => by cases hy; exact ev_to (ev_var rfl) rfl⟩) | false => (have ho : some none = some o := ho; cases ho; exact ⟨et_to (et_B (ev_isN (ev_ixU (k := 3) (ev_var rfl) (accS (accS (accS (acc1))))))) hc10.symm, fun y hy => by cases hy⟩))))) hdeletes12.symm) ?_)
      show Nx _ _ [.imm (rIns a.C_Edit [("_placed" : Str), ("changes" : Str)] (wC (rDicN P w kyPlc (rOb (cTup (wC rStr (wC (rOb (cTpl rInt)) (wC (rOpt (rOb (cTpl rInt))) (w1 (rOpt (rOb (cTpl rInt)))))))))) (w1 (rOb (cTpl (rOb (cTup (wC rStr (wC (rOb (cTpl rInt)) (wC (rOpt (rOb (cTpl rInt))) (w1 (rOpt (rOb (cTpl rInt)))))))))))))) edit0, .imm (rOb (cLst (rOb (cTup (wC rStr (wC (rOb (cTpl rInt)) (wC (rOpt (rOb (cTpl rInt))) (w1 (rOpt (rOb (cTpl rInt))))))))))) due_here0, .imm (rOb (cLst rInt)) counts8, .imm rInt deletes12, .no, .no, .no]
      obtain ⟨l15, hl15, h⟩ := bindO_some h
      obtain ⟨inserts16, hinserts16, h⟩ := letO_some h
      refine (sq_asg (ev_to (ev_lenL (ev_new (ec_lc (m_l_right_c2) (it_list (ev_var rfl)) hl15 tg_name (fun k hk => hk) (by rfl) (fun _ => by rfl) (fun change13 o ho => by unfold m_l_right_c2 at ho; obtain ⟨c14, hc14, ho⟩ := letO_some ho; cases c14 with | true => (have ho : (some (some change13)) = some o := ho; cases ho; exact ⟨et_to (et_B (ev_isN (ev_ixU (k := 2) (ev_var rfl) (accS (accS (acc0)))))) hc14.symm, fun y hy => by cases hy; exact ev_to (ev_var rfl) rfl⟩) | false => (have ho : some none = some o := ho; cases ho; exact ⟨et_to (et_B (ev_isN (ev_ixU (k := 2) (ev_var rfl) (accS (accS (acc0)))))) hc14.symm, fun y hy => by cases hy⟩))))) hinserts16.symm) ?_)
      show Nx _ _ [.imm (rIns a.C_Edit [("_placed" : Str), ("changes" : Str)] (wC (rDicN P w kyPlc (rOb (cTup (wC rStr (wC (rOb (cTpl rInt)) (wC (rOpt (rOb (cTpl rInt))) (w1 (rOpt (rOb (cTpl rInt)))))))))) (w1 (rOb (cTpl (rOb (cTup (wC rStr (wC (rOb (cTpl rInt)) (wC (rOpt (rOb (cTpl rInt))) (w1 (rOpt (rOb (cTpl rInt)))))))))))))) edit0, .imm (rOb (cLst (rOb (cTup (wC rStr (wC (rOb (cTpl rInt)) (wC (rOpt (rOb (cTpl rInt))) (w1 (rOpt (rOb (cTpl rInt))))))))))) due_here0, .imm (rOb (cLst rInt)) counts8, .imm rInt deletes12, .imm rInt inserts16, .no, .no]
      obtain ⟨q17, hq17, h⟩ := bindO_some h
      obtain ⟨c21, hc21, h⟩ := letO_some h
      obtain ⟨b20, hb20, h⟩ := bindO_some h
      obtain ⟨c22, hc22, h⟩ := letO_some h
      refine (sq_if (et_to (et_or (et_to (et_T (ev_neD (da_lst da_int) (da_lst da_int) (ev_var rfl) (ev_new (ec_lst (eh_C (ev_var rfl) (eh_C (ev_var rfl) (eh_C (ev_sub (ev_sub (ev_lenL (ev_var rfl)) (ev_var rfl)) (ev_var rfl)) eh_0))) (Nat.le_of_ble_eq_true rfl))) hq17)) hc21.symm) (fun hc => by have hx := iteO_f hc hb20; obtain ⟨n18, hn18, hx⟩ := bindO_some hx; obtain ⟨k19, hk19, hx⟩ := bindO_some hx; exact et_to (et_T (ev_neS scInt (ev_lenO (ev_var rfl) hn18 hk19) (ev_lenL (ev_var rfl)) rfl)) (Option.some.inj hx)) (fun hc => ⟨(Option.some.inj (iteO_t hc hb20)).symm, rfl⟩)) hc22.symm) (fun hc => ?_) (fun hc => ?_))
      · have h := iteO_t hc h
        exact (sq_ret ev_bl h kr)
      · have h := iteO_f hc h
        refine nx_next ?_
        try dsimp only
        obtain ⟨n23, hn23, h⟩ := bindO_some h
        obtain ⟨k24, hk24, h⟩ := bindO_some h
        obtain ⟨c25, hc25, h⟩ := letO_some h
        refine (sq_if (et_to (et_T (ev_neS scBool (ev_boolL (ev_var rfl) hn23 hk24) (ev_gt (ev_lenL (ev_var rfl)) ev_int) rfl)) hc25.symm) (fun hc => ?_) (fun hc => ?_))
        · have h := iteO_t hc h
          exact (sq_ret ev_bl h kr)
        · have h := iteO_f hc h
          refine nx_next ?_
          try dsimp only
          obtain ⟨R34, hR34, h⟩ := bindO_some h
          refine (sq_for (ψ := psi rBool) (m_l_right_b1 edit0) (fun z => [.imm (rIns a.C_Edit [("_placed" : Str), ("changes" : Str)] (wC (rDicN P w kyPlc (rOb (cTup (wC rStr (wC (rOb (cTpl rInt)) (wC (rOpt (rOb (cTpl rInt))) (w1 (rOpt (rOb (cTpl rInt)))))))))) (w1 (rOb (cTpl (rOb (cTup (wC rStr (wC (rOb (cTpl rInt)) (wC (rOpt (rOb (cTpl rInt))) (w1 (rOpt (rOb (cTpl rInt)))))))))))))) edit0, .imm (rOb (cLst (rOb (cTup (wC rStr (wC (rOb (cTpl rInt)) (wC (rOpt (rOb (cTpl rInt))) (w1 (rOpt (rOb (cTpl rInt))))))))))) due_here0, .imm (rOb (cLst rInt)) counts8, .imm rInt deletes12, .imm rInt inserts16, .no, .no]) (it_list (ev_var rfl)) hR34 (fun A1 _ => ?_) (fun _ => tg_name) (fun A1 D1 change27 s26 st hA1 h k1 => ?_) ?_ ?_)
          · exact nx_fin
          · show Nx _ _ [.imm (rIns a.C_Edit [("_placed" : Str), ("changes" : Str)] (wC (rDicN P w kyPlc (rOb (cTup (wC rStr (wC (rOb (cTpl rInt)) (wC (rOpt (rOb (cTpl rInt))) (w1 (rOpt (rOb (cTpl rInt)))))))))) (w1 (rOb (cTpl (rOb (cTup (wC rStr (wC (rOb (cTpl rInt)) (wC (rOpt (rOb (cTpl rInt))) (w1 (rOpt (rOb (cTpl rInt)))))))))))))) edit0, .imm (rOb (cLst (rOb (cTup (wC rStr (wC (rOb (cTpl rInt)) (wC (rOpt (rOb (cTpl rInt))) (w1 (rOpt (rOb (cTpl rInt))))))))))) due_here0, .imm (rOb (cLst rInt)) counts8, .imm rInt deletes12, .imm rInt inserts16, .imm (rOb (cTup (wC rStr (wC (rOb (cTpl rInt)) (wC (rOpt (rOb (cTpl rInt))) (w1 (rOpt (rOb (cTpl rInt))))))))) change27, .no]
            unfold m_l_right_b1 at h
            obtain ⟨n28, hn28, h⟩ := bindO_some h
            obtain ⟨c32, hc32, h⟩ := letO_some h
            obtain ⟨b31, hb31, h⟩ := bindO_some h
            obtain ⟨c33, hc33, h⟩ := letO_some h
            refine (sq_if (et_to (et_or (et_to (et_not (et_T (ev_inO (ev_new (ec_slTk (k := 2) (ev_var rfl) (tk_S (tk_1 (by decide))))) (ev_var rfl) hn28))) hc32.symm) (fun hc => by have hx := iteO_f hc hb31; obtain ⟨v29, hv29, hx⟩ := bindO_some hx; obtain ⟨q30, hq30, hx⟩ := bindO_some hx; exact et_to (et_T (ev_neD (da_alt (da_tup (daw_C da_str (daw_1 (da_tup (daw_C da_str (daw_1 (da_tpl da_int))))))) (da_tup (daw_C da_str (daw_1 (da_tup (daw_C (da_opt (da_tpl da_int)) (daw_1 (da_opt (da_tpl da_int))))))))) (da_tup (daw_C da_str (daw_1 (da_tup (daw_C (da_opt (da_tpl da_int)) (daw_1 (da_opt (da_tpl da_int)))))))) (ev_call (ew_C (ev_var rfl) (ew_1 (ev_new (ec_slTk (k := 2) (ev_var rfl) (tk_S (tk_1 (by decide))))))) hv29) (ev_new (ec_tup (ew_C ev_str (ew_1 (ev_new (ec_slDk (k := 2) (ev_var rfl) (dk_S (dk_1 (by decide))))))))) hq30)) (Option.some.inj hx)) (fun hc => ⟨(Option.some.inj (iteO_t hc hb31)).symm, rfl⟩)) hc33.symm) (fun hc => ?_) (fun hc => ?_))
            · have h := iteO_t hc h
              exact (sq_ret ev_bl rfl (k1.rt _ (Option.some.inj h).symm))
            · have h := iteO_f hc h
              refine nx_next ?_
              try dsimp only
              refine nx_next ?_
              refine nx_forget 5 ?_
              exact k1.nx _ (Option.some.inj h).symm
          · intro b e
            subst e
            obtain rfl := stepO_ret h; exact kr
          · intro e35 e
            subst e
            have h := stepO_nx h
            show Nx _ _ [.imm (rIns a.C_Edit [("_placed" : Str), ("changes" : Str)] (wC (rDicN P w kyPlc (rOb (cTup (wC rStr (wC (rOb (cTpl rInt)) (wC (rOpt (rOb (cTpl rInt))) (w1 (rOpt (rOb (cTpl rInt)))))))))) (w1 (rOb (cTpl (rOb (cTup (wC rStr (wC (rOb (cTpl rInt)) (wC (rOpt (rOb (cTpl rInt))) (w1 (rOpt (rOb (cTpl rInt)))))))))))))) edit0, .imm (rOb (cLst (rOb (cTup (wC rStr (wC (rOb (cTpl rInt)) (wC (rOpt (rOb (cTpl rInt))) (w1 (rOpt (rOb (cTpl rInt))))))))))) due_here0, .imm (rOb (cLst rInt)) counts8, .imm rInt deletes12, .imm rInt inserts16, .no, .no]
            obtain ⟨R44, hR44, h⟩ := bindO_some h
            refine (sq_for (ψ := psi rBool) (m_l_right_b2 edit0) (fun z => [.imm (rIns a.C_Edit [("_placed" : Str), ("changes" : Str)] (wC (rDicN P w kyPlc (rOb (cTup (wC rStr (wC (rOb (cTpl rInt)) (wC (rOpt (rOb (cTpl rInt))) (w1 (rOpt (rOb (cTpl rInt)))))))))) (w1 (rOb (cTpl (rOb (cTup (wC rStr (wC (rOb (cTpl rInt)) (wC (rOpt (rOb (cTpl rInt))) (w1 (rOpt (rOb (cTpl rInt)))))))))))))) edit0, .imm (rOb (cLst (rOb (cTup (wC rStr (wC (rOb (cTpl rInt)) (wC (rOpt (rOb (cTpl rInt))) (w1 (rOpt (rOb (cTpl rInt))))))))))) due_here0, .imm (rOb (cLst rInt)) counts8, .imm rInt deletes12, .imm rInt inserts16, .no, .no]) (it_list (ev_new (ec_lst (eh_C (ev_new (ec_tup (ew_C ev_str (ew_1 (ev_new (ec_tpl (eh_C ev_int (eh_C ev_int (eh_C ev_int eh_0))) (Nat.le_of_ble_eq_true rfl))))))) (eh_C (ev_new (ec_tup (ew_C ev_str (ew_1 (ev_new (ec_tpl eh_0 (Nat.le_of_ble_eq_true rfl))))))) (eh_C (ev_new (ec_tup (ew_C ev_str (ew_1 (ev_new (ec_tpl (eh_C ev_int eh_0) (Nat.le_of_ble_eq_true rfl))))))) (eh_C (ev_new (ec_tup (ew_C ev_str (ew_1 (ev_new (ec_tpl (eh_C ev_int eh_0) (Nat.le_of_ble_eq_true rfl))))))) eh_0)))) (Nat.le_of_ble_eq_true rfl)))) hR44 (fun A1 _ => ?_) (fun _ => tg_name) (fun A1 D1 place_here37 s36 st hA1 h k1 => ?_) ?_ ?_)
            · exact nx_fin
            · show Nx _ _ [.imm (rIns a.C_Edit [("_placed" : Str), ("changes" : Str)] (wC (rDicN P w kyPlc (rOb (cTup (wC rStr (wC (rOb (cTpl rInt)) (wC (rOpt (rOb (cTpl rInt))) (w1 (rOpt (rOb (cTpl rInt)))))))))) (w1 (rOb (cTpl (rOb (cTup (wC rStr (wC (rOb (cTpl rInt)) (wC (rOpt (rOb (cTpl rInt))) (w1 (rOpt (rOb (cTpl rInt)))))))))))))) edit0, .imm (rOb (cLst (rOb (cTup (wC rStr (wC (rOb (cTpl rInt)) (wC (rOpt (rOb (cTpl rInt))) (w1 (rOpt (rOb (cTpl rInt))))))))))) due_here0, .imm (rOb (cLst rInt)) counts8, .imm rInt deletes12, .imm rInt inserts16, .no, .imm (rOb (cTup (wC rStr (w1 (rOb (cTpl rInt)))))) place_here37]
              unfold m_l_right_b2 at h
              obtain ⟨n38, hn38, h⟩ := bindO_some h
              obtain ⟨c42, hc42, h⟩ := letO_some h
              obtain ⟨b41, hb41, h⟩ := bindO_some h
              obtain ⟨c43, hc43, h⟩ := letO_some h
              refine (sq_if (et_to (et_or (et_to (et_T (ev_inO (ev_var rfl) (ev_var rfl) hn38)) hc42.symm) (fun hc => by have hx := iteO_f hc hb41; obtain ⟨v39, hv39, hx⟩ := bindO_some hx; obtain ⟨q40, hq40, hx⟩ := bindO_some hx; exact et_to (et_T (ev_neD (da_alt (da_tup (daw_C da_str (daw_1 (da_tup (daw_C da_str (daw_1 (da_tpl da_int))))))) (da_tup (daw_C da_str (daw_1 (da_tup (daw_C (da_opt (da_tpl da_int)) (daw_1 (da_opt (da_tpl da_int))))))))) (da_tup (daw_C da_str (daw_1 (da_tup (daw_C da_str (daw_1 (da_tpl da_int))))))) (ev_call (ew_C (ev_var rfl) (ew_1 (ev_var rfl))) hv39) (ev_new (ec_tup (ew_C ev_str (ew_1 (ev_var rfl))))) hq40)) (Option.some.inj hx)) (fun hc => ⟨(Option.some.inj (iteO_t hc hb41)).symm, rfl⟩)) hc43.symm) (fun hc => ?_) (fun hc => ?_))
              · have h := iteO_t hc h
                exact (sq_ret ev_bl rfl (k1.rt _ (Option.some.inj h).symm))
              · have h := iteO_f hc h
                refine nx_next ?_
                try dsimp only
                refine nx_next ?_
                refine nx_forget 6 ?_
                exact k1.nx _ (Option.some.inj h).symm
            · intro b e
              subst e
              obtain rfl := stepO_ret h; exact kr
            · intro e45 e
              subst e
              have h := stepO_nx h
              show Nx _ _ [.imm (rIns a.C_Edit [("_placed" : Str), ("changes" : Str)] (wC (rDicN P w kyPlc (rOb (cTup (wC rStr (wC (rOb (cTpl rInt)) (wC (rOpt (rOb (cTpl rInt))) (w1 (rOpt (rOb (cTpl rInt)))))))))) (w1 (rOb (cTpl (rOb (cTup (wC rStr (wC (rOb (cTpl rInt)) (wC (rOpt (rOb (cTpl rInt))) (w1 (rOpt (rOb (cTpl rInt)))))))))))))) edit0, .imm (rOb (cLst (rOb (cTup (wC rStr (wC (rOb (cTpl rInt)) (wC (rOpt (rOb (cTpl rInt))) (w1 (rOpt (rOb (cTpl rInt))))))))))) due_here0, .imm (rOb (cLst rInt)) counts8, .imm rInt deletes12, .imm rInt inserts16, .no, .no]
              exact (sq_ret ev_bl h kr)
theorem ok_law (T : Txt K mg base a) : FnOk P w K mg base CX0 7 a.f_law a.d_law ["_law_script"] (SpL (w1 (rScr K)) rBool (fun x => m_law x)) := by
  refine T.F_law.ok sc_law (fun vs H Q E h => ?_) (fun cdv A outer s H vs Q E hr h => ?_)
  · obtain ⟨B, x, b, sm, hw, h, kr⟩ := h
    rw [WLen.len hw]; rfl
  · obtain ⟨B, script0, b, sm, hw, h, kr⟩ := h
    have h : m_law script0 = some b := h
    refine ⟨_, pss_sz (pss_cons (ps_set (i := 1) sc_law.nd rfl (by first | exact Or.inl rfl | exact Or.inr rfl) (pe_call (ok_l_start T) (hr.mono (by decide)) rfl T.g_l_start T.F_l_start.kp T.n_l_start .nil pass0 (pa_cons (pv 0) pa_nil))) (pss_cons (ps_set (i := 2) sc_law.nd rfl (by first | exact Or.inl rfl | exact Or.inr rfl) (pe_call (ok_l_changes T) (hr.mono (by decide)) rfl T.g_l_changes T.F_l_changes.kp T.n_l_changes .nil pass0 (pa_cons (pv 1) pa_nil))) (pss_cons (ps_set (i := 3) sc_law.nd rfl (by first | exact Or.inl rfl | exact Or.inr rfl) (pe_call (ok_l_due T) (hr.mono (by decide)) rfl T.g_l_due T.F_l_due.kp T.n_l_due .nil pass0 (pa_cons (pv 2) pa_nil))) (pss_cons (ps_set (i := 4) sc_law.nd rfl (by first | exact Or.inl rfl | exact Or.inr rfl) (pe_callTy (list_ofK (K := K) rfl) (by rfl) T.b_list (by decide +kernel) (pa_cons (pv 2) pa_nil))) (pss_cons (ps_set (i := 5) sc_law.nd rfl (by first | exact Or.inl rfl | exact Or.inr rfl) (pe_call (ok_l_made T) (hr.mono (by decide)) rfl T.g_l_made T.F_l_made.kp T.n_l_made .nil pass0 (pa_cons (pv 4) pa_nil))) (pss_cons (ps_if (PW.pt (pw_or (pt_cmpR (neDK (K := K) rfl hr.units) (pv 4) (pv 2) (nomark _)) (pw_or1 (pt_cmpR op_ne (pe_ix (ix_tupK (K := K) rfl) (pv 5) pe_int (fun _ _ => rfl)) (pe_ix (ix_tupK (K := K) rfl) (pv 3) pe_int (fun _ _ => rfl)) (nomark _))))) (pss_cons (ps_ret pe_bl) pss_nil) pss_nil) (pss_cons (ps_if (pt_cmpR op_ne (pe_ix (ix_tupK (K := K) rfl) (pv 3) pe_int (fun _ _ => rfl)) pe_str (nomark _)) (pss_cons (ps_ret (pe_and (pe_cmpR (eqDK (K := K) rfl hr.units) (pv 5) (pv 3) (nomark _)) (pe_one (pe_call (ok_l_base_caught T) (hr.mono (by decide)) rfl T.g_l_base_caught T.F_l_base_caught.kp T.n_l_base_caught .nil pass0 (pa_cons (pe_callTy (tuple_ofK (K := K) rfl) (by rfl) T.b_tuple (by decide +kernel) (pa_cons (pv 2) pa_nil)) pa_nil))))) pss_nil) pss_nil) (pss_cons (ps_expr (pe_bm0 PySem.F.plainAttrs_list PySem.F.slot_list_clear PySem.F.type_list_clear mt_clear (pv 4))) (pss_cons (ps_if (pt_not (pt_val (pe_call (ok_l_right T) (hr.mono (by decide)) rfl T.g_l_right T.F_l_right.kp T.n_l_right .nil pass0 (pa_cons (pe_ix (ix_tupK (K := K) rfl) (pv 5) pe_int (fun _ _ => rfl)) (pa_cons (pe_ix (ix_tupK (K := K) rfl) (pv 3) pe_int (fun _ _ => rfl)) pa_nil))))) (pss_cons (ps_ret pe_bl) pss_nil) pss_nil) (pss_cons (ps_set (i := 6) sc_law.nd rfl (by first | exact Or.inl rfl | exact Or.inr rfl) (pe_makeS T.M_Edit (ok_Edit___init___Vt (P := P) (w := w) (base := base) T) (hr.mono (Nat.le_of_ble_eq_true rfl)) rfl T.g_Edit (binds_nil T.n_Edit___init_1 T.v_Edit___init_1) (fun σ => passAt takes0 σ) (pa_cons (pe_callTy (tuple_ofK (K := K) rfl) (by rfl) T.b_tuple (by decide +kernel) (pa_cons (pe_revLK (K := K) rfl (pv 2)) pa_nil)) pa_nil))) (pss_cons (ps_if (PW.pt (pw_or (pt_not (pt_cmpR (op_eqO (K := K) (t := (.ref a.C_Edit)) rfl T.me_Edit___eq (ok_Edit___eq T) (hr.mono (by decide)) T.n_Edit___eq pass0) (pv 6) (pe_ix (ix_tupK (K := K) rfl) (pv 5) pe_int (fun _ _ => rfl)) (nomark _))) (pw_or (pt_cmpR (op_neO (K := K) (t := (.ref a.C_Edit)) rfl T.nn_Edit T.me_Edit___eq (ok_Edit___eq T) (hr.mono (by decide)) T.n_Edit___eq pass0) (pv 6) (pe_ix (ix_tupK (K := K) rfl) (pv 5) pe_int (fun _ _ => rfl)) (nomark _)) (pw_or1 (pt_cmpR (op_eqO (K := K) (t := (.type "tuple")) rfl T.me_Edit___eq (ok_Edit___eq___Vt T) (hr.mono (by decide)) T.n_Edit___eq pass0) (pv 6) (fldK (K := K) rfl (pv 6) rfl) (nomark _)))))) (pss_cons (ps_ret pe_bl) pss_nil) pss_nil) (pss_cons (ps_if (pt_cmpR op_gt (pe_callB (len_seqK (K := K) rfl) (by rfl) T.b_len (by decide +kernel) (pa_cons (pv 2) pa_nil)) pe_int (nomark _)) (pss_cons (ps_set (i := 7) sc_law.nd rfl (by first | exact Or.inl rfl | exact Or.inr rfl) (pe_makeS T.M_Edit (ok_Edit___init (P := P) (w := w) (base := base) T) (hr.mono (Nat.le_of_ble_eq_true rfl)) rfl T.g_Edit (binds_nil T.n_Edit___init_1 T.v_Edit___init_1) (fun σ => passAt takes0 σ) (pa_cons (pe_slice (sl_listK (K := K) rfl) (pv 2) po_none (po_some (pe_un un_neg pe_int))) pa_nil))) (pss_cons (ps_if (PW.pt (pw_or (pt_cmpR (op_eqO (K := K) (t := (.ref a.C_Edit)) rfl T.me_Edit___eq (ok_Edit___eq T) (hr.mono (by decide)) T.n_Edit___eq pass0) (pv 7) (pe_ix (ix_tupK (K := K) rfl) (pv 5) pe_int (fun _ _ => rfl)) (nomark _)) (pw_or1 (pt_not (pt_cmpR (op_neO (K := K) (t := (.ref a.C_Edit)) rfl T.nn_Edit T.me_Edit___eq (ok_Edit___eq T) (hr.mono (by decide)) T.n_Edit___eq pass0) (pv 7) (pe_ix (ix_tupK (K := K) rfl) (pv 5) pe_int (fun _ _ => rfl)) (nomark _)))))) (pss_cons (ps_ret pe_bl) pss_nil) pss_nil) pss_nil)) pss_nil) (pss_cons (ps_ret (pe_and (pe_cmpR op_eq (pe_callB (call_lenO T.me_Edit___len (ok_Edit___len T) (hr.mono (by decide)) T.n_Edit___len pass0) (by rfl) T.b_len (by decide +kernel) (pa_cons (pe_make0 T.M_Edit (ok_Edit___init___Vk T) (hr.mono (by decide)) rfl T.g_Edit T.n_Edit___init_0 T.v_Edit___init_0 pass0) pa_nil)) pe_int (nomark _)) (pe_and (pe_cmpR (eqDK (K := K) rfl hr.units) (fldK (K := K) rfl (pe_make0 T.M_Edit (ok_Edit___init___Vk T) (hr.mono (by decide)) rfl T.g_Edit T.n_Edit___init_0 T.v_Edit___init_0 pass0) rfl) (pe_tup pa_nil) (nomark _)) (pe_one (pe_notR (pe_make0 T.M_Edit (ok_Edit___init___Vk T) (hr.mono (by decide)) rfl T.g_Edit T.n_Edit___init_0 T.v_Edit___init_0 pass0) (tru_lenO T.me_Edit___len T.nb_Edit (ok_Edit___len T) (hr.mono (by decide)) T.n_Edit___len pass0)))))) pss_nil))))))))))))), fun z => ?_⟩
    refine nx_go (frm_start (N := N_law) (n := 7) ⟨z, sm.2⟩ sm.1 hw (by rw [WLen.len hw]; rfl)) ?_
    show Nx _ _ [.imm (rScr K) script0, .no, .no, .no, .no, .no, .no, .no]
    unfold m_law at h
    obtain ⟨v1, hv1, h⟩ := bindO_some h
    obtain ⟨state2, hstate2, h⟩ := letO_some h
    refine (sq_asgC (c := (cHls (wC (rOb (cLst rInt)) (wC rInt (wC rInt (w1 rInt)))))) (ec_to (ec_call (ew_1 (ev_var rfl)) hv1) hstate2.symm) (fun a_state2 na_state2 => ?_))
    show Nx _ _ [.imm (rScr K) script0, .cel a_state2 (cHls (wC (rOb (cLst rInt)) (wC rInt (wC rInt (w1 rInt))))) state2, .no, .no, .no, .no, .no, .no]
    obtain ⟨p3, hp3, h⟩ := bindO_some h
    obtain ⟨moves4, hmoves4, h⟩ := letO_some h
    refine (sq_asg (ev_to (ev_new (ec_callM (us := [(1, .cel a_state2 (cHls (wC (rOb (cLst rInt)) (wC rInt (wC rInt (w1 rInt))))) p3.2.1)]) (ea_K (i := 1) rfl ea_0) (co_K rfl (by decide) co_0) (bo_K rfl rfl (by decide) bo_0) hp3)) hmoves4.symm) ?_)
    show Nx _ _ [.imm (rScr K) script0, .cel a_state2 (cHls (wC (rOb (cLst rInt)) (wC rInt (wC rInt (w1 rInt))))) p3.2.1, .imm (rOb (cLst (rOb (cTup (wC rStr (wC (rOb (cTpl rInt)) (wC (rOpt (rOb (cTpl rInt))) (w1 (rOpt (rOb (cTpl rInt))))))))))) moves4, .no, .no, .no, .no, .no]
    obtain ⟨v5, hv5, h⟩ := bindO_some h
    obtain ⟨due_here6, hdue_here6, h⟩ := letO_some h
    refine (sq_asg (ev_to (ev_call (ew_1 (ev_var rfl)) hv5) hdue_here6.symm) ?_)
    show Nx _ _ [.imm (rScr K) script0, .cel a_state2 (cHls (wC (rOb (cLst rInt)) (wC rInt (wC rInt (w1 rInt))))) p3.2.1, .imm (rOb (cLst (rOb (cTup (wC rStr (wC (rOb (cTpl rInt)) (wC (rOpt (rOb (cTpl rInt))) (w1 (rOpt (rOb (cTpl rInt))))))))))) moves4, .imm (rAlt (rOb (cTup (wC rStr (w1 (rOb (cTup (wC rStr (wC (rOb (cTpl rInt)) (wC (rOpt (rOb (cTpl rInt))) (w1 (rOpt (rOb (cTpl rInt))))))))))))) (rAlt (rOb (cTup (wC rStr (w1 (rOb (cTup (wC rStr (w1 (rOb (cTpl rInt)))))))))) (rOb (cTup (wC rStr (w1 (rOb (cLst (rOb (cTup (wC rStr (wC (rOb (cTpl rInt)) (wC (rOpt (rOb (cTpl rInt))) (w1 (rOpt (rOb (cTpl rInt))))))))))))))))) due_here6, .no, .no, .no, .no]
    obtain ⟨given7, hgiven7, h⟩ := letO_some h
    refine (sq_asgC (c := (cLst (rOb (cTup (wC rStr (wC (rOb (cTpl rInt)) (wC (rOpt (rOb (cTpl rInt))) (w1 (rOpt (rOb (cTpl rInt))))))))))) (ec_to (ec_listL (ev_var rfl)) hgiven7.symm) (fun a_given7 na_given7 => ?_))
    show Nx _ _ [.imm (rScr K) script0, .cel a_state2 (cHls (wC (rOb (cLst rInt)) (wC rInt (wC rInt (w1 rInt))))) p3.2.1, .imm (rOb (cLst (rOb (cTup (wC rStr (wC (rOb (cTpl rInt)) (wC (rOpt (rOb (cTpl rInt))) (w1 (rOpt (rOb (cTpl rInt))))))))))) moves4, .imm (rAlt (rOb (cTup (wC rStr (w1 (rOb (cTup (wC rStr (wC (rOb (cTpl rInt)) (wC (rOpt (rOb (cTpl rInt))) (w1 (rOpt (rOb (cTpl rInt))))))))))))) (rAlt (rOb (cTup (wC rStr (w1 (rOb (cTup (wC rStr (w1 (rOb (cTpl rInt)))))))))) (rOb (cTup (wC rStr (w1 (rOb (cLst (rOb (cTup (wC rStr (wC (rOb (cTpl rInt)) (wC (rOpt (rOb (cTpl rInt))) (w1 (rOpt (rOb (cTpl rInt))))))))))))))))) due_here6, .cel a_given7 (cLst (rOb (cTup (wC rStr (wC (rOb (cTpl rInt)) (wC (rOpt (rOb (cTpl rInt))) (w1 (rOpt (rOb (cTpl rInt)))))))))) given7, .no, .no, .no]
    obtain ⟨v8, hv8, h⟩ := bindO_some h
    obtain ⟨answer9, hanswer9, h⟩ := letO_some h
    refine (sq_asg (ev_to (ev_frz (i := 4) rfl (ev_call (ew_1 (ev_var rfl)) hv8)) hanswer9.symm) ?_)
    show Nx _ _ [.imm (rScr K) script0, .cel a_state2 (cHls (wC (rOb (cLst rInt)) (wC rInt (wC rInt (w1 rInt))))) p3.2.1, .imm (rOb (cLst (rOb (cTup (wC rStr (wC (rOb (cTpl rInt)) (wC (rOpt (rOb (cTpl rInt))) (w1 (rOpt (rOb (cTpl rInt))))))))))) moves4, .imm (rAlt (rOb (cTup (wC rStr (w1 (rOb (cTup (wC rStr (wC (rOb (cTpl rInt)) (wC (rOpt (rOb (cTpl rInt))) (w1 (rOpt (rOb (cTpl rInt))))))))))))) (rAlt (rOb (cTup (wC rStr (w1 (rOb (cTup (wC rStr (w1 (rOb (cTpl rInt)))))))))) (rOb (cTup (wC rStr (w1 (rOb (cLst (rOb (cTup (wC rStr (wC (rOb (cTpl rInt)) (wC (rOpt (rOb (cTpl rInt))) (w1 (rOpt (rOb (cTpl rInt))))))))))))))))) due_here6, .cel a_given7 (cLst (rOb (cTup (wC rStr (wC (rOb (cTpl rInt)) (wC (rOpt (rOb (cTpl rInt))) (w1 (rOpt (rOb (cTpl rInt)))))))))) given7, .imm (rAlt (rOb (cTup (wC rStr (w1 (rOb (cTup (wC rStr (wC (rOb (cTpl rInt)) (wC (rOpt (rOb (cTpl rInt))) (w1 (rOpt (rOb (cTpl rInt))))))))))))) (rAlt (rOb (cTup (wC rStr (w1 (rOb (cTup (wC rStr (w1 (rOb (cTpl rInt)))))))))) (rOb (cTup (wC rStr (w1 (rIns a.C_Edit [("_placed" : Str), ("changes" : Str)] (wC (rDicN P w kyPlc (rOb (cTup (wC rStr (wC (rOb (cTpl rInt)) (wC (rOpt (rOb (cTpl rInt))) (w1 (rOpt (rOb (cTpl rInt)))))))))) (w1 (rOb (cTpl (rOb (cTup (wC rStr (wC (rOb (cTpl rInt)) (wC (rOpt (rOb (cTpl rInt))) (w1 (rOpt (rOb (cTpl rInt)))))))))))))))))))) answer9, .no, .no]
    obtain ⟨q10, hq10, h⟩ := bindO_some h
    obtain ⟨c11, hc11, h⟩ := letO_some h
    refine (sq_if (et_to (et_or0 (et_frz (i := 4) rfl (et_T (ev_neD (da_lst (da_tup (daw_C da_str (daw_C (da_tpl da_int) (daw_C (da_opt (da_tpl da_int)) (daw_1 (da_opt (da_tpl da_int)))))))) (da_lst (da_tup (daw_C da_str (daw_C (da_tpl da_int) (daw_C (da_opt (da_tpl da_int)) (daw_1 (da_opt (da_tpl da_int)))))))) (ev_var rfl) (ev_var rfl) hq10))) (et_T (ev_neS scStr (ev_altO (T := fun te => tOp (rIxT K) te (tC (.int (0 : Int)))) (fun _ hz => ev_ixU hz (acc0)) (fun _ hz => ev_altO (T := fun te => tOp (rIxT K) te (tC (.int (0 : Int)))) (fun _ hz => ev_ixU hz (acc0)) (fun _ hz => ev_ixU hz (acc0)) hz) (ev_var rfl)) (ev_altO (T := fun te => tOp (rIxT K) te (tC (.int (0 : Int)))) (fun _ hz => ev_ixU hz (acc0)) (fun _ hz => ev_altO (T := fun te => tOp (rIxT K) te (tC (.int (0 : Int)))) (fun _ hz => ev_ixU hz (acc0)) (fun _ hz => ev_ixU hz (acc0)) hz) (ev_var rfl)) rfl))) hc11.symm) (fun hc => ?_) (fun hc => ?_))
    · have h := iteO_t hc h
      exact (sq_ret ev_bl h kr)
    · have h := iteO_f hc h
      refine nx_next ?_
      try dsimp only
      obtain ⟨c12, hc12, h⟩ := letO_some h
      refine (sq_if (et_to (et_T (ev_neS scStr (ev_altO (T := fun te => tOp (rIxT K) te (tC (.int (0 : Int)))) (fun _ hz => ev_ixU hz (acc0)) (fun _ hz => ev_altO (T := fun te => tOp (rIxT K) te (tC (.int (0 : Int)))) (fun _ hz => ev_ixU hz (acc0)) (fun _ hz => ev_ixU hz (acc0)) hz) (ev_var rfl)) ev_str rfl)) hc12.symm) (fun hc => ?_) (fun hc => ?_))
      · have h := iteO_t hc h
        obtain ⟨g13, hg13, h⟩ := bindO_some h
        obtain ⟨q14, hq14, h⟩ := bindO_some h
        obtain ⟨c17, hc17, h⟩ := letO_some h
        obtain ⟨b16, hb16, h⟩ := bindO_some h
        exact (sq_ret (ev_and (ev_to (ev_eqD (da_alt (da_tup (daw_C da_str (daw_1 (da_tup (daw_C da_str (daw_C (da_tpl da_int) (daw_C (da_opt (da_tpl da_int)) (daw_1 (da_opt (da_tpl da_int)))))))))) (da_tup (daw_C da_str (daw_1 (da_tup (daw_C da_str (daw_1 (da_tpl da_int)))))))) (da_alt (da_tup (daw_C da_str (daw_1 (da_tup (daw_C da_str (daw_C (da_tpl da_int) (daw_C (da_opt (da_tpl da_int)) (daw_1 (da_opt (da_tpl da_int)))))))))) (da_alt (da_tup (daw_C da_str (daw_1 (da_tup (daw_C da_str (daw_1 (da_tpl da_int))))))) (da_tup (daw_C da_str (daw_1 (da_lst (da_tup (daw_C da_str (daw_C (da_tpl da_int) (daw_C (da_opt (da_tpl da_int)) (daw_1 (da_opt (da_tpl da_int))))))))))))) (ev_dropR (ev_var rfl) hg13) (ev_var rfl) hq14) hc17.symm) (fun hc => by have hx := iteO_t hc hb16; obtain ⟨v15, hv15, hx⟩ := bindO_some hx; exact ev_to (ev_call (ew_1 (ev_new (ec_tupL (ev_var rfl)))) hv15) (Option.some.inj hx)) (fun hc => ⟨(Option.some.inj (iteO_f hc hb16)).symm, rfl⟩)) h kr)
      · have h := iteO_f hc h
        refine nx_next ?_
        try dsimp only
        obtain ⟨given18, hgiven18, h⟩ := letO_some h
        refine (sq_clr rfl (nx_cel (i := 4) rfl hgiven18.symm ?_))
        show Nx _ _ [.imm (rScr K) script0, .cel a_state2 (cHls (wC (rOb (cLst rInt)) (wC rInt (wC rInt (w1 rInt))))) p3.2.1, .imm (rOb (cLst (rOb (cTup (wC rStr (wC (rOb (cTpl rInt)) (wC (rOpt (rOb (cTpl rInt))) (w1 (rOpt (rOb (cTpl rInt))))))))))) moves4, .imm (rAlt (rOb (cTup (wC rStr (w1 (rOb (cTup (wC rStr (wC (rOb (cTpl rInt)) (wC (rOpt (rOb (cTpl rInt))) (w1 (rOpt (rOb (cTpl rInt))))))))))))) (rAlt (rOb (cTup (wC rStr (w1 (rOb (cTup (wC rStr (w1 (rOb (cTpl rInt)))))))))) (rOb (cTup (wC rStr (w1 (rOb (cLst (rOb (cTup (wC rStr (wC (rOb (cTpl rInt)) (wC (rOpt (rOb (cTpl rInt))) (w1 (rOpt (rOb (cTpl rInt))))))))))))))))) due_here6, .cel a_given7 (cLst (rOb (cTup (wC rStr (wC (rOb (cTpl rInt)) (wC (rOpt (rOb (cTpl rInt))) (w1 (rOpt (rOb (cTpl rInt)))))))))) given18, .imm (rAlt (rOb (cTup (wC rStr (w1 (rOb (cTup (wC rStr (wC (rOb (cTpl rInt)) (wC (rOpt (rOb (cTpl rInt))) (w1 (rOpt (rOb (cTpl rInt))))))))))))) (rAlt (rOb (cTup (wC rStr (w1 (rOb (cTup (wC rStr (w1 (rOb (cTpl rInt)))))))))) (rOb (cTup (wC rStr (w1 (rIns a.C_Edit [("_placed" : Str), ("changes" : Str)] (wC (rDicN P w kyPlc (rOb (cTup (wC rStr (wC (rOb (cTpl rInt)) (wC (rOpt (rOb (cTpl rInt))) (w1 (rOpt (rOb (cTpl rInt)))))))))) (w1 (rOb (cTpl (rOb (cTup (wC rStr (wC (rOb (cTpl rInt)) (wC (rOpt (rOb (cTpl rInt))) (w1 (rOpt (rOb (cTpl rInt)))))))))))))))))))) answer9, .no, .no]
        obtain ⟨g19, hg19, h⟩ := bindO_some h
        obtain ⟨g20, hg20, h⟩ := bindO_some h
        obtain ⟨g21, hg21, h⟩ := bindO_some h
        obtain ⟨g22, hg22, h⟩ := bindO_some h
        obtain ⟨v23, hv23, h⟩ := bindO_some h
        obtain ⟨c24, hc24, h⟩ := letO_some h
        refine (sq_if (et_to (et_not (et_B (ev_call (ew_C (ev_ixU (k := 1) (ev_altR (ev_altR (ev_var rfl) hg19) hg20) (accS (acc1))) (ew_1 (ev_ixU (k := 1) (ev_altR (ev_altR (ev_var rfl) hg21) hg22) (accS (acc1))))) hv23))) hc24.symm) (fun hc => ?_) (fun hc => ?_))
        · have h := iteO_t hc h
          exact (sq_ret ev_bl h kr)
        · have h := iteO_f hc h
          refine nx_next ?_
          try dsimp only
          obtain ⟨r25, hr25, h⟩ := bindO_some h
          obtain ⟨o26, ho26, h⟩ := bindO_some h
          obtain ⟨other27, hother27, h⟩ := letO_some h
          refine (sq_asg (ev_to (ev_mkOk (fun s h => erS_mono (R1 := (erC a.C_InvalidChange [("change" : Str)] (w1 (rOb (cTup (wC rStr (wC (rOb (cTpl rInt)) (wC (rOpt (rOb (cTpl rInt))) (w1 (rOpt (rOb (cTpl rInt)))))))))))) (R2 := (erC a.C_SamePlace [("place" : Str)] (w1 (rOb (cTup (wC rStr (w1 (rOb (cTpl rInt))))))))) (fun s h => erC_mono s h) (fun s h => erC_mono s h) s h) (ew_1 (ev_new (ec_tupL (ev_new (ec_revL (ev_var rfl)))))) hr25 ho26) hother27.symm) ?_)
          show Nx _ _ [.imm (rScr K) script0, .cel a_state2 (cHls (wC (rOb (cLst rInt)) (wC rInt (wC rInt (w1 rInt))))) p3.2.1, .imm (rOb (cLst (rOb (cTup (wC rStr (wC (rOb (cTpl rInt)) (wC (rOpt (rOb (cTpl rInt))) (w1 (rOpt (rOb (cTpl rInt))))))))))) moves4, .imm (rAlt (rOb (cTup (wC rStr (w1 (rOb (cTup (wC rStr (wC (rOb (cTpl rInt)) (wC (rOpt (rOb (cTpl rInt))) (w1 (rOpt (rOb (cTpl rInt))))))))))))) (rAlt (rOb (cTup (wC rStr (w1 (rOb (cTup (wC rStr (w1 (rOb (cTpl rInt)))))))))) (rOb (cTup (wC rStr (w1 (rOb (cLst (rOb (cTup (wC rStr (wC (rOb (cTpl rInt)) (wC (rOpt (rOb (cTpl rInt))) (w1 (rOpt (rOb (cTpl rInt))))))))))))))))) due_here6, .cel a_given7 (cLst (rOb (cTup (wC rStr (wC (rOb (cTpl rInt)) (wC (rOpt (rOb (cTpl rInt))) (w1 (rOpt (rOb (cTpl rInt)))))))))) given18, .imm (rAlt (rOb (cTup (wC rStr (w1 (rOb (cTup (wC rStr (wC (rOb (cTpl rInt)) (wC (rOpt (rOb (cTpl rInt))) (w1 (rOpt (rOb (cTpl rInt))))))))))))) (rAlt (rOb (cTup (wC rStr (w1 (rOb (cTup (wC rStr (w1 (rOb (cTpl rInt)))))))))) (rOb (cTup (wC rStr (w1 (rIns a.C_Edit [("_placed" : Str), ("changes" : Str)] (wC (rDicN P w kyPlc (rOb (cTup (wC rStr (wC (rOb (cTpl rInt)) (wC (rOpt (rOb (cTpl rInt))) (w1 (rOpt (rOb (cTpl rInt)))))))))) (w1 (rOb (cTpl (rOb (cTup (wC rStr (wC (rOb (cTpl rInt)) (wC (rOpt (rOb (cTpl rInt))) (w1 (rOpt (rOb (cTpl rInt)))))))))))))))))))) answer9, .imm (rIns a.C_Edit [("_placed" : Str), ("changes" : Str)] (wC (rDicN P w kyPlc (rOb (cTup (wC rStr (wC (rOb (cTpl rInt)) (wC (rOpt (rOb (cTpl rInt))) (w1 (rOpt (rOb (cTpl rInt)))))))))) (w1 (rOb (cTpl (rOb (cTup (wC rStr (wC (rOb (cTpl rInt)) (wC (rOpt (rOb (cTpl rInt))) (w1 (rOpt (rOb (cTpl rInt)))))))))))))) other27, .no]
          obtain ⟨g28, hg28, h⟩ := bindO_some h
          obtain ⟨g29, hg29, h⟩ := bindO_some h
          obtain ⟨n30, hn30, h⟩ := bindO_some h
          obtain ⟨c38, hc38, h⟩ := letO_some h
          obtain ⟨b37, hb37, h⟩ := bindO_some h
          obtain ⟨c39, hc39, h⟩ := letO_some h
          refine (sq_if (et_to (et_or (et_to (et_not (et_T (ev_eqO (ev_var rfl) (ev_ixU (k := 1) (ev_altR (ev_altR (ev_var rfl) hg28) hg29) (accS (acc1))) (ty_ins T.ct_Edit) T.nf_Edit_Edit hn30))) hc38.symm) (fun hc => by have hx := iteO_f hc hb37; obtain ⟨g31, hg31, hx⟩ := bindO_some hx; obtain ⟨g32, hg32, hx⟩ := bindO_some hx; obtain ⟨n33, hn33, hx⟩ := bindO_some hx; obtain ⟨c36, hc36, hx⟩ := letO_some hx; obtain ⟨b35, hb35, hx⟩ := bindO_some hx; exact et_to (et_or (et_to (et_T (ev_neO (ev_var rfl) (ev_ixU (k := 1) (ev_altR (ev_altR (ev_var rfl) hg31) hg32) (accS (acc1))) (ty_ins T.ct_Edit) T.nf_Edit_Edit hn33)) hc36.symm) (fun hc => by have hx := iteO_f hc hb35; obtain ⟨n34, hn34, hx⟩ := bindO_some hx; exact et_to (et_T (ev_eqO (ev_var rfl) (ev_fld (ev_var rfl) (accS (acc1)) rfl (by decide +kernel) T.cl_Edit T.na_Edit_changes) ty_tpl T.nf_Edit_tuple hn34)) (Option.some.inj hx)) (fun hc => ⟨(Option.some.inj (iteO_t hc hb35)).symm, rfl⟩)) (Option.some.inj hx)) (fun hc => ⟨(Option.some.inj (iteO_t hc hb37)).symm, rfl⟩)) hc39.symm) (fun hc => ?_) (fun hc => ?_))
          · have h := iteO_t hc h
            exact (sq_ret ev_bl h kr)
          · have h := iteO_f hc h
            refine nx_next ?_
            try dsimp only
            obtain ⟨c40, hc40, h⟩ := letO_some h
            refine (sq_if (et_to (et_T (ev_gt (ev_lenL (ev_var rfl)) ev_int)) hc40.symm) (fun hc => ?_) (fun hc => ?_))
            · have h := iteO_t hc h
              obtain ⟨r41, hr41, h⟩ := bindO_some h
              obtain ⟨o42, ho42, h⟩ := bindO_some h
              obtain ⟨less43, hless43, h⟩ := letO_some h
              refine (sq_asg (ev_to (ev_mkOk (fun s h => erS_mono (R1 := (erC a.C_InvalidChange [("change" : Str)] (w1 (rOb (cTup (wC rStr (wC (rOb (cTpl rInt)) (wC (rOpt (rOb (cTpl rInt))) (w1 (rOpt (rOb (cTpl rInt)))))))))))) (R2 := (erC a.C_SamePlace [("place" : Str)] (w1 (rOb (cTup (wC rStr (w1 (rOb (cTpl rInt))))))))) (fun s h => erC_mono s h) (fun s h => erC_mono s h) s h) (ew_1 (ev_new (ec_slL (ev_var rfl) eo_none (eo_some (ev_neg ev_int))))) hr41 ho42) hless43.symm) ?_)
              show Nx _ _ [.imm (rScr K) script0, .cel a_state2 (cHls (wC (rOb (cLst rInt)) (wC rInt (wC rInt (w1 rInt))))) p3.2.1, .imm (rOb (cLst (rOb (cTup (wC rStr (wC (rOb (cTpl rInt)) (wC (rOpt (rOb (cTpl rInt))) (w1 (rOpt (rOb (cTpl rInt))))))))))) moves4, .imm (rAlt (rOb (cTup (wC rStr (w1 (rOb (cTup (wC rStr (wC (rOb (cTpl rInt)) (wC (rOpt (rOb (cTpl rInt))) (w1 (rOpt (rOb (cTpl rInt))))))))))))) (rAlt (rOb (cTup (wC rStr (w1 (rOb (cTup (wC rStr (w1 (rOb (cTpl rInt)))))))))) (rOb (cTup (wC rStr (w1 (rOb (cLst (rOb (cTup (wC rStr (wC (rOb (cTpl rInt)) (wC (rOpt (rOb (cTpl rInt))) (w1 (rOpt (rOb (cTpl rInt))))))))))))))))) due_here6, .cel a_given7 (cLst (rOb (cTup (wC rStr (wC (rOb (cTpl rInt)) (wC (rOpt (rOb (cTpl rInt))) (w1 (rOpt (rOb (cTpl rInt)))))))))) given18, .imm (rAlt (rOb (cTup (wC rStr (w1 (rOb (cTup (wC rStr (wC (rOb (cTpl rInt)) (wC (rOpt (rOb (cTpl rInt))) (w1 (rOpt (rOb (cTpl rInt))))))))))))) (rAlt (rOb (cTup (wC rStr (w1 (rOb (cTup (wC rStr (w1 (rOb (cTpl rInt)))))))))) (rOb (cTup (wC rStr (w1 (rIns a.C_Edit [("_placed" : Str), ("changes" : Str)] (wC (rDicN P w kyPlc (rOb (cTup (wC rStr (wC (rOb (cTpl rInt)) (wC (rOpt (rOb (cTpl rInt))) (w1 (rOpt (rOb (cTpl rInt)))))))))) (w1 (rOb (cTpl (rOb (cTup (wC rStr (wC (rOb (cTpl rInt)) (wC (rOpt (rOb (cTpl rInt))) (w1 (rOpt (rOb (cTpl rInt)))))))))))))))))))) answer9, .imm (rIns a.C_Edit [("_placed" : Str), ("changes" : Str)] (wC (rDicN P w kyPlc (rOb (cTup (wC rStr (wC (rOb (cTpl rInt)) (wC (rOpt (rOb (cTpl rInt))) (w1 (rOpt (rOb (cTpl rInt)))))))))) (w1 (rOb (cTpl (rOb (cTup (wC rStr (wC (rOb (cTpl rInt)) (wC (rOpt (rOb (cTpl rInt))) (w1 (rOpt (rOb (cTpl rInt)))))))))))))) other27, .imm (rIns a.C_Edit [("_placed" : Str), ("changes" : Str)] (wC (rDicN P w kyPlc (rOb (cTup (wC rStr (wC (rOb (cTpl rInt)) (wC (rOpt (rOb (cTpl rInt))) (w1 (rOpt (rOb (cTpl rInt)))))))))) (w1 (rOb (cTpl (rOb (cTup (wC rStr (wC (rOb (cTpl rInt)) (wC (rOpt (rOb (cTpl rInt))) (w1 (rOpt (rOb (cTpl rInt)))))))))))))) less43]
              obtain ⟨g44, hg44, h⟩ := bindO_some h
              obtain ⟨g45, hg45, h⟩ := bindO_some h
              obtain ⟨n46, hn46, h⟩ := bindO_some h
              obtain ⟨c51, hc51, h⟩ := letO_some h
              obtain ⟨b50, hb50, h⟩ := bindO_some h
              obtain ⟨c52, hc52, h⟩ := letO_some h
              refine (sq_if (et_to (et_or (et_to (et_T (ev_eqO (ev_var rfl) (ev_ixU (k := 1) (ev_altR (ev_altR (ev_var rfl) hg44) hg45) (accS (acc1))) (ty_ins T.ct_Edit) T.nf_Edit_Edit hn46)) hc51.symm) (fun hc => by have hx := iteO_f hc hb50; obtain ⟨g47, hg47, hx⟩ := bindO_some hx; obtain ⟨g48, hg48, hx⟩ := bindO_some hx; obtain ⟨n49, hn49, hx⟩ := bindO_some hx; exact et_to (et_not (et_T (ev_neO (ev_var rfl) (ev_ixU (k := 1) (ev_altR (ev_altR (ev_var rfl) hg47) hg48) (accS (acc1))) (ty_ins T.ct_Edit) T.nf_Edit_Edit hn49))) (Option.some.inj hx)) (fun hc => ⟨(Option.some.inj (iteO_t hc hb50)).symm, rfl⟩)) hc52.symm) (fun hc => ?_) (fun hc => ?_))
              · have h := iteO_t hc h
                exact (sq_ret ev_bl h kr)
              · have h := iteO_f hc h
                refine nx_next ?_
                try dsimp only
                refine nx_next ?_
                try dsimp only
                obtain ⟨o53, ho53, h⟩ := bindO_some h
                obtain ⟨n54, hn54, h⟩ := bindO_some h
                obtain ⟨k55, hk55, h⟩ := bindO_some h
                obtain ⟨c64, hc64, h⟩ := letO_some h
                obtain ⟨b63, hb63, h⟩ := bindO_some h
                exact (sq_ret (ev_and (ev_to (ev_eqS scInt (ev_lenO (ev_makeD ew_0 (dapp_0 (tkE T.t_Edit___init_0)) ho53) hn54 hk55) ev_int rfl) hc64.symm) (fun hc => by have hx := iteO_t hc hb63; obtain ⟨o56, ho56, hx⟩ := bindO_some hx; obtain ⟨q57, hq57, hx⟩ := bindO_some hx; obtain ⟨c62, hc62, hx⟩ := letO_some hx; obtain ⟨b61, hb61, hx⟩ := bindO_some hx; exact ev_to (ev_and (ev_to (ev_eqD (da_tpl (da_tup (daw_C da_str (daw_C (da_tpl da_int) (daw_C (da_opt (da_tpl da_int)) (daw_1 (da_opt (da_tpl da_int)))))))) (da_tup daw_0) (ev_fld (ev_makeD ew_0 (dapp_0 (tkE T.t_Edit___init_0)) ho56) (accS (acc1)) rfl (by decide +kernel) T.cl_Edit T.na_Edit_changes) (ev_new (ec_tup ew_0)) hq57) hc62.symm) (fun hc => by have hx := iteO_t hc hb61; obtain ⟨o58, ho58, hx⟩ := bindO_some hx; obtain ⟨n59, hn59, hx⟩ := bindO_some hx; obtain ⟨k60, hk60, hx⟩ := bindO_some hx; exact ev_to (ev_notL (et_lenO (ev_makeD ew_0 (dapp_0 (tkE T.t_Edit___init_0)) ho58) hn59 hk60)) (Option.some.inj hx)) (fun hc => ⟨(Option.some.inj (iteO_f hc hb61)).symm, rfl⟩)) (Option.some.inj hx)) (fun hc => ⟨(Option.some.inj (iteO_f hc hb63)).symm, rfl⟩)) h kr)
            · have h := iteO_f hc h
              refine nx_next ?_
              try dsimp only
              obtain ⟨o65, ho65, h⟩ := bindO_some h
              obtain ⟨n66, hn66, h⟩ := bindO_some h
              obtain ⟨k67, hk67, h⟩ := bindO_some h
              obtain ⟨c76, hc76, h⟩ := letO_some h
              obtain ⟨b75, hb75, h⟩ := bindO_some h
              exact (sq_ret (ev_and (ev_to (ev_eqS scInt (ev_lenO (ev_makeD ew_0 (dapp_0 (tkE T.t_Edit___init_0)) ho65) hn66 hk67) ev_int rfl) hc76.symm) (fun hc => by have hx := iteO_t hc hb75; obtain ⟨o68, ho68, hx⟩ := bindO_some hx; obtain ⟨q69, hq69, hx⟩ := bindO_some hx; obtain ⟨c74, hc74, hx⟩ := letO_some hx; obtain ⟨b73, hb73, hx⟩ := bindO_some hx; exact ev_to (ev_and (ev_to (ev_eqD (da_tpl (da_tup (daw_C da_str (daw_C (da_tpl da_int) (daw_C (da_opt (da_tpl da_int)) (daw_1 (da_opt (da_tpl da_int)))))))) (da_tup daw_0) (ev_fld (ev_makeD ew_0 (dapp_0 (tkE T.t_Edit___init_0)) ho68) (accS (acc1)) rfl (by decide +kernel) T.cl_Edit T.na_Edit_changes) (ev_new (ec_tup ew_0)) hq69) hc74.symm) (fun hc => by have hx := iteO_t hc hb73; obtain ⟨o70, ho70, hx⟩ := bindO_some hx; obtain ⟨n71, hn71, hx⟩ := bindO_some hx; obtain ⟨k72, hk72, hx⟩ := bindO_some hx; exact ev_to (ev_notL (et_lenO (ev_makeD ew_0 (dapp_0 (tkE T.t_Edit___init_0)) ho70) hn71 hk72)) (Option.some.inj hx)) (fun hc => ⟨(Option.some.inj (iteO_f hc hb73)).symm, rfl⟩)) (Option.some.inj hx)) (fun hc => ⟨(Option.some.inj (iteO_f hc hb75)).symm, rfl⟩)) h kr)
end
end Law

set_option maxHeartbeats 4000000
namespace Law
open PySem PySem.Spec PyProof.Rows L2 G
theorem all_end {l : PySem.W.OpenLaw} {w : World} {K : PySem.W.Frag} {h : Heap} {mg : Str → Option Value} {fa : Addr} {ts : List Addr} (X : K.In h) (G : h.Ns mainGlobals mg) (hfa : mg "law" = some (.ref fa)) (hts : ∀ P ∈ ts, h.get? P = some (PySem.W.tabObj #[]))
    {C_InvalidChange : Addr} {C_SamePlace : Addr} {C_Edit : Addr} {C_NoChange : Addr} {C_ShownError : Addr} {C_Clash : Addr}
    {oc_placed_changes : Value} {kV_placed_changes : Value} {dc_placed_changes : Value} {pm_placed_changes : Value} {cd_placed_changes : Value} {ct_placed_changes : Value}
    {od_placed_changes an_placed_changes : Option Addr} {sl_placed_changes : Array (Option Value)} {f_placed_changes : Addr} {oc_Edit___init : Value} {kV_Edit___init : Value} {dc_Edit___init : Value} {pm_Edit___init : Value} {cd_Edit___init : Value}
    {ct_Edit___init : Value} {tc_Edit___init : Value} {od_Edit___init an_Edit___init td_Edit___init : Option Addr} {sl_Edit___init ts_Edit___init : Array (Option Value)} {f_Edit___init T_Edit___init : Addr} {tn_Edit___init : Nat} {e_Edit___init_0 : Addr} {ed_Edit___init_0 : Option Addr} {en_Edit___init_0 : Nat} {es_Edit___init_0 : Array (Option Value)} {oc_Edit___contains : Value} {kV_Edit___contains : Value}
    {dc_Edit___contains : Value} {pm_Edit___contains : Value} {cd_Edit___contains : Value} {ct_Edit___contains : Value} {od_Edit___contains an_Edit___contains : Option Addr} {sl_Edit___contains : Array (Option Value)} {f_Edit___contains : Addr} {oc_Edit___getitem : Value}
    {kV_Edit___getitem : Value} {dc_Edit___getitem : Value} {pm_Edit___getitem : Value} {cd_Edit___getitem : Value} {ct_Edit___getitem : Value} {od_Edit___getitem an_Edit___getitem : Option Addr} {sl_Edit___getitem : Array (Option Value)} {f_Edit___getitem : Addr}
    {oc_Edit___eq : Value} {kV_Edit___eq : Value} {dc_Edit___eq : Value} {pm_Edit___eq : Value} {cd_Edit___eq : Value} {ct_Edit___eq : Value}
    {od_Edit___eq an_Edit___eq : Option Addr} {sl_Edit___eq : Array (Option Value)} {f_Edit___eq : Addr} {oc_Edit___len : Value} {kV_Edit___len : Value} {dc_Edit___len : Value} {pm_Edit___len : Value} {cd_Edit___len : Value}
    {ct_Edit___len : Value} {od_Edit___len an_Edit___len : Option Addr} {sl_Edit___len : Array (Option Value)} {f_Edit___len : Addr} {p_Edit_deletes : Addr} {rest_Edit_deletes : List Value} {oc_Edit_deletes : Value} {kV_Edit_deletes : Value} {dc_Edit_deletes : Value}
    {pm_Edit_deletes : Value} {cd_Edit_deletes : Value} {ct_Edit_deletes : Value} {od_Edit_deletes an_Edit_deletes : Option Addr} {sl_Edit_deletes : Array (Option Value)} {f_Edit_deletes : Addr} {p_Edit_inserts : Addr} {rest_Edit_inserts : List Value} {oc_Edit_inserts : Value}
    {kV_Edit_inserts : Value} {dc_Edit_inserts : Value} {pm_Edit_inserts : Value} {cd_Edit_inserts : Value} {ct_Edit_inserts : Value} {od_Edit_inserts an_Edit_inserts : Option Addr} {sl_Edit_inserts : Array (Option Value)} {f_Edit_inserts : Addr}
    {p_Edit_sets : Addr} {rest_Edit_sets : List Value} {oc_Edit_sets : Value} {kV_Edit_sets : Value} {dc_Edit_sets : Value} {pm_Edit_sets : Value} {cd_Edit_sets : Value}
    {ct_Edit_sets : Value} {od_Edit_sets an_Edit_sets : Option Addr} {sl_Edit_sets : Array (Option Value)} {f_Edit_sets : Addr} {oc_l_start : Value} {kV_l_start : Value} {dc_l_start : Value} {pm_l_start : Value}
    {cd_l_start : Value} {ct_l_start : Value} {od_l_start an_l_start : Option Addr} {sl_l_start : Array (Option Value)} {f_l_start : Addr} {oc_l_draw : Value} {kV_l_draw : Value} {dc_l_draw : Value}
    {pm_l_draw : Value} {cd_l_draw : Value} {ct_l_draw : Value} {od_l_draw an_l_draw : Option Addr} {sl_l_draw : Array (Option Value)} {f_l_draw : Addr} {oc_l_row : Value} {kV_l_row : Value}
    {dc_l_row : Value} {pm_l_row : Value} {cd_l_row : Value} {ct_l_row : Value} {od_l_row an_l_row : Option Addr} {sl_l_row : Array (Option Value)} {f_l_row : Addr} {oc_l_place : Value}
    {kV_l_place : Value} {dc_l_place : Value} {pm_l_place : Value} {cd_l_place : Value} {ct_l_place : Value} {od_l_place an_l_place : Option Addr} {sl_l_place : Array (Option Value)} {f_l_place : Addr}
    {oc_l_changes : Value} {kV_l_changes : Value} {dc_l_changes : Value} {pm_l_changes : Value} {cd_l_changes : Value} {ct_l_changes : Value}
    {od_l_changes an_l_changes : Option Addr} {sl_l_changes : Array (Option Value)} {f_l_changes : Addr} {oc_l_due : Value} {kV_l_due : Value} {dc_l_due : Value} {pm_l_due : Value} {cd_l_due : Value}
    {ct_l_due : Value} {od_l_due an_l_due : Option Addr} {sl_l_due : Array (Option Value)} {f_l_due : Addr} {oc_l_made : Value} {kV_l_made : Value} {dc_l_made : Value} {pm_l_made : Value}
    {cd_l_made : Value} {ct_l_made : Value} {od_l_made an_l_made : Option Addr} {sl_l_made : Array (Option Value)} {f_l_made : Addr} {oc_l_base_caught : Value} {kV_l_base_caught : Value} {dc_l_base_caught : Value}
    {pm_l_base_caught : Value} {cd_l_base_caught : Value} {ct_l_base_caught : Value} {od_l_base_caught an_l_base_caught : Option Addr} {sl_l_base_caught : Array (Option Value)} {f_l_base_caught : Addr} {oc_l_asked : Value} {kV_l_asked : Value}
    {dc_l_asked : Value} {pm_l_asked : Value} {cd_l_asked : Value} {ct_l_asked : Value} {od_l_asked an_l_asked : Option Addr} {sl_l_asked : Array (Option Value)} {f_l_asked : Addr} {oc_l_right : Value}
    {kV_l_right : Value} {dc_l_right : Value} {pm_l_right : Value} {cd_l_right : Value} {ct_l_right : Value} {od_l_right an_l_right : Option Addr} {sl_l_right : Array (Option Value)} {f_l_right : Addr}
    {oc_law : Value} {kV_law : Value} {dc_law : Value} {pm_law : Value} {cd_law : Value} {ct_law : Value}
    {od_law an_law : Option Addr} {sl_law : Array (Option Value)} {f_law : Addr} {nm_InvalidChange q_InvalidChange : Str} {N_InvalidChange : Addr} {bs_InvalidChange bm_InvalidChange sub_InvalidChange : List Value} {sn_InvalidChange : List Str} {ab_InvalidChange : Bool} {col_InvalidChange : Option Bool} {dd_InvalidChange : Option Addr} {m0_InvalidChange m1_InvalidChange m2_InvalidChange m3_InvalidChange m5_InvalidChange : Option Value} {oc_e_InvalidChange : Value} {kV_e_InvalidChange : Value} {dc_e_InvalidChange : Value} {pm_e_InvalidChange : Value}
    {cd_e_InvalidChange : Value} {ct_e_InvalidChange : Value} {od_e_InvalidChange an_e_InvalidChange : Option Addr} {sl_e_InvalidChange : Array (Option Value)} {f_e_InvalidChange : Addr} {nm_NoChange q_NoChange : Str} {N_NoChange : Addr} {bs_NoChange bm_NoChange sub_NoChange : List Value} {sn_NoChange : List Str} {ab_NoChange : Bool} {col_NoChange : Option Bool} {dd_NoChange : Option Addr} {m0_NoChange m1_NoChange m2_NoChange m3_NoChange m5_NoChange : Option Value} {oc_e_NoChange : Value} {kV_e_NoChange : Value}
    {dc_e_NoChange : Value} {pm_e_NoChange : Value} {cd_e_NoChange : Value} {ct_e_NoChange : Value} {od_e_NoChange an_e_NoChange : Option Addr} {sl_e_NoChange : Array (Option Value)} {f_e_NoChange : Addr} {nm_SamePlace q_SamePlace : Str} {N_SamePlace : Addr} {bs_SamePlace bm_SamePlace sub_SamePlace : List Value} {sn_SamePlace : List Str} {ab_SamePlace : Bool} {col_SamePlace : Option Bool} {dd_SamePlace : Option Addr} {m0_SamePlace m1_SamePlace m2_SamePlace m3_SamePlace m5_SamePlace : Option Value}
    {oc_e_SamePlace : Value} {kV_e_SamePlace : Value} {dc_e_SamePlace : Value} {pm_e_SamePlace : Value} {cd_e_SamePlace : Value} {ct_e_SamePlace : Value}
    {od_e_SamePlace an_e_SamePlace : Option Addr} {sl_e_SamePlace : Array (Option Value)} {f_e_SamePlace : Addr} {co_l_due P_l_due : Addr}
    (aC_InvalidChange : PySem.W.nsIn K mainGlobals "InvalidChange" = some (some (.ref C_InvalidChange)))
    (aC_SamePlace : PySem.W.nsIn K mainGlobals "SamePlace" = some (some (.ref C_SamePlace)))
    (aC_Edit : PySem.W.nsIn K mainGlobals "Edit" = some (some (.ref C_Edit)))
    (aC_NoChange : PySem.W.nsIn K mainGlobals "NoChange" = some (some (.ref C_NoChange)))
    (aC_ShownError : PySem.W.nsIn K mainGlobals "ShownError" = some (some (.ref C_ShownError)))
    (aC_Clash : PySem.W.nsIn K mainGlobals "Clash" = some (some (.ref C_Clash)))
    (a_placed_changes : PySem.W.nsIn K mainGlobals "placed_changes" = some (some (.ref f_placed_changes)))
    (l_placed_changes : K.lookup f_placed_changes = some ⟨oc_placed_changes, od_placed_changes, .func (PySem.W.fnOf "placed_changes" "placed_changes" (defArgs s_placed_changes) (defBody s_placed_changes) (defScope s_placed_changes) .none kV_placed_changes dc_placed_changes pm_placed_changes an_placed_changes cd_placed_changes ct_placed_changes), sl_placed_changes⟩)
    (c_placed_changes : PySem.W.codeIn K cd_placed_changes "placed_changes" = true)
    (k_placed_changes : PySem.W.keepIn K (.ref f_placed_changes) = true)
    (a_Edit___init : PySem.W.findIn K (.ref C_Edit) "__init__" = some (some (.ref f_Edit___init)))
    (l_Edit___init : K.lookup f_Edit___init = some ⟨oc_Edit___init, od_Edit___init, .func (PySem.W.fnOf "__init__" "Edit.__init__" (defArgs s_Edit___init) (defBody s_Edit___init) (defScope s_Edit___init) (.ref T_Edit___init) kV_Edit___init dc_Edit___init pm_Edit___init an_Edit___init cd_Edit___init ct_Edit___init), sl_Edit___init⟩)
    (c_Edit___init : PySem.W.codeIn K cd_Edit___init "Edit.__init__" = true)
    (k_Edit___init : PySem.W.keepIn K (.ref f_Edit___init) = true)
    (lT_Edit___init : K.lookup T_Edit___init = some ⟨tc_Edit___init, td_Edit___init, .seq #[Value.ref e_Edit___init_0] tn_Edit___init, ts_Edit___init⟩)
    (le_Edit___init_0 : K.lookup e_Edit___init_0 = some ⟨.type "tuple", ed_Edit___init_0, .seq #[] en_Edit___init_0, es_Edit___init_0⟩)
    (i_Edit___init : PySem.W.isFn K (.ref f_Edit___init) = true)
    (a_Edit___contains : PySem.W.findIn K (.ref C_Edit) "__contains__" = some (some (.ref f_Edit___contains)))
    (l_Edit___contains : K.lookup f_Edit___contains = some ⟨oc_Edit___contains, od_Edit___contains, .func (PySem.W.fnOf "__contains__" "Edit.__contains__" (defArgs s_Edit___contains) (defBody s_Edit___contains) (defScope s_Edit___contains) .none kV_Edit___contains dc_Edit___contains pm_Edit___contains an_Edit___contains cd_Edit___contains ct_Edit___contains), sl_Edit___contains⟩)
    (c_Edit___contains : PySem.W.codeIn K cd_Edit___contains "Edit.__contains__" = true)
    (k_Edit___contains : PySem.W.keepIn K (.ref f_Edit___contains) = true)
    (i_Edit___contains : PySem.W.isFn K (.ref f_Edit___contains) = true)
    (a_Edit___getitem : PySem.W.findIn K (.ref C_Edit) "__getitem__" = some (some (.ref f_Edit___getitem)))
    (l_Edit___getitem : K.lookup f_Edit___getitem = some ⟨oc_Edit___getitem, od_Edit___getitem, .func (PySem.W.fnOf "__getitem__" "Edit.__getitem__" (defArgs s_Edit___getitem) (defBody s_Edit___getitem) (defScope s_Edit___getitem) .none kV_Edit___getitem dc_Edit___getitem pm_Edit___getitem an_Edit___getitem cd_Edit___getitem ct_Edit___getitem), sl_Edit___getitem⟩)
    (c_Edit___getitem : PySem.W.codeIn K cd_Edit___getitem "Edit.__getitem__" = true)
    (k_Edit___getitem : PySem.W.keepIn K (.ref f_Edit___getitem) = true)
    (i_Edit___getitem : PySem.W.isFn K (.ref f_Edit___getitem) = true)
    (a_Edit___eq : PySem.W.findIn K (.ref C_Edit) "__eq__" = some (some (.ref f_Edit___eq)))
    (l_Edit___eq : K.lookup f_Edit___eq = some ⟨oc_Edit___eq, od_Edit___eq, .func (PySem.W.fnOf "__eq__" "Edit.__eq__" (defArgs s_Edit___eq) (defBody s_Edit___eq) (defScope s_Edit___eq) .none kV_Edit___eq dc_Edit___eq pm_Edit___eq an_Edit___eq cd_Edit___eq ct_Edit___eq), sl_Edit___eq⟩)
    (c_Edit___eq : PySem.W.codeIn K cd_Edit___eq "Edit.__eq__" = true)
    (k_Edit___eq : PySem.W.keepIn K (.ref f_Edit___eq) = true)
    (i_Edit___eq : PySem.W.isFn K (.ref f_Edit___eq) = true)
    (a_Edit___len : PySem.W.findIn K (.ref C_Edit) "__len__" = some (some (.ref f_Edit___len)))
    (l_Edit___len : K.lookup f_Edit___len = some ⟨oc_Edit___len, od_Edit___len, .func (PySem.W.fnOf "__len__" "Edit.__len__" (defArgs s_Edit___len) (defBody s_Edit___len) (defScope s_Edit___len) .none kV_Edit___len dc_Edit___len pm_Edit___len an_Edit___len cd_Edit___len ct_Edit___len), sl_Edit___len⟩)
    (c_Edit___len : PySem.W.codeIn K cd_Edit___len "Edit.__len__" = true)
    (k_Edit___len : PySem.W.keepIn K (.ref f_Edit___len) = true)
    (i_Edit___len : PySem.W.isFn K (.ref f_Edit___len) = true)
    (pa_Edit_deletes : PySem.W.findIn K (.ref C_Edit) "deletes" = some (some (.ref p_Edit_deletes)))
    (a_Edit_deletes : PySem.W.recIn K p_Edit_deletes "property" = some (.ref f_Edit_deletes :: rest_Edit_deletes))
    (l_Edit_deletes : K.lookup f_Edit_deletes = some ⟨oc_Edit_deletes, od_Edit_deletes, .func (PySem.W.fnOf "deletes" "Edit.deletes" (defArgs s_Edit_deletes) (defBody s_Edit_deletes) (defScope s_Edit_deletes) .none kV_Edit_deletes dc_Edit_deletes pm_Edit_deletes an_Edit_deletes cd_Edit_deletes ct_Edit_deletes), sl_Edit_deletes⟩)
    (c_Edit_deletes : PySem.W.codeIn K cd_Edit_deletes "Edit.deletes" = true)
    (k_Edit_deletes : PySem.W.keepIn K (.ref f_Edit_deletes) = true)
    (pg_Edit_deletes : PySem.W.specialIn K (.ref p_Edit_deletes) "__get__" = some (some (.builtin "property.__get__")))
    (pt_Edit_deletes : PySem.W.takesIn K (.ref p_Edit_deletes) = some true)
    (pa_Edit_inserts : PySem.W.findIn K (.ref C_Edit) "inserts" = some (some (.ref p_Edit_inserts)))
    (a_Edit_inserts : PySem.W.recIn K p_Edit_inserts "property" = some (.ref f_Edit_inserts :: rest_Edit_inserts))
    (l_Edit_inserts : K.lookup f_Edit_inserts = some ⟨oc_Edit_inserts, od_Edit_inserts, .func (PySem.W.fnOf "inserts" "Edit.inserts" (defArgs s_Edit_inserts) (defBody s_Edit_inserts) (defScope s_Edit_inserts) .none kV_Edit_inserts dc_Edit_inserts pm_Edit_inserts an_Edit_inserts cd_Edit_inserts ct_Edit_inserts), sl_Edit_inserts⟩)
    (c_Edit_inserts : PySem.W.codeIn K cd_Edit_inserts "Edit.inserts" = true)
    (k_Edit_inserts : PySem.W.keepIn K (.ref f_Edit_inserts) = true)
    (pg_Edit_inserts : PySem.W.specialIn K (.ref p_Edit_inserts) "__get__" = some (some (.builtin "property.__get__")))
    (pt_Edit_inserts : PySem.W.takesIn K (.ref p_Edit_inserts) = some true)
    (pa_Edit_sets : PySem.W.findIn K (.ref C_Edit) "sets" = some (some (.ref p_Edit_sets)))
    (a_Edit_sets : PySem.W.recIn K p_Edit_sets "property" = some (.ref f_Edit_sets :: rest_Edit_sets))
    (l_Edit_sets : K.lookup f_Edit_sets = some ⟨oc_Edit_sets, od_Edit_sets, .func (PySem.W.fnOf "sets" "Edit.sets" (defArgs s_Edit_sets) (defBody s_Edit_sets) (defScope s_Edit_sets) .none kV_Edit_sets dc_Edit_sets pm_Edit_sets an_Edit_sets cd_Edit_sets ct_Edit_sets), sl_Edit_sets⟩)
    (c_Edit_sets : PySem.W.codeIn K cd_Edit_sets "Edit.sets" = true)
    (k_Edit_sets : PySem.W.keepIn K (.ref f_Edit_sets) = true)
    (pg_Edit_sets : PySem.W.specialIn K (.ref p_Edit_sets) "__get__" = some (some (.builtin "property.__get__")))
    (pt_Edit_sets : PySem.W.takesIn K (.ref p_Edit_sets) = some true)
    (a_l_start : PySem.W.nsIn K mainGlobals "_law_start" = some (some (.ref f_l_start)))
    (l_l_start : K.lookup f_l_start = some ⟨oc_l_start, od_l_start, .func (PySem.W.fnOf "_law_start" "_law_start" (defArgs s_l_start) (defBody s_l_start) (defScope s_l_start) .none kV_l_start dc_l_start pm_l_start an_l_start cd_l_start ct_l_start), sl_l_start⟩)
    (c_l_start : PySem.W.codeIn K cd_l_start "_law_start" = true)
    (k_l_start : PySem.W.keepIn K (.ref f_l_start) = true)
    (a_l_draw : PySem.W.nsIn K mainGlobals "_law_draw" = some (some (.ref f_l_draw)))
    (l_l_draw : K.lookup f_l_draw = some ⟨oc_l_draw, od_l_draw, .func (PySem.W.fnOf "_law_draw" "_law_draw" (defArgs s_l_draw) (defBody s_l_draw) (defScope s_l_draw) .none kV_l_draw dc_l_draw pm_l_draw an_l_draw cd_l_draw ct_l_draw), sl_l_draw⟩)
    (c_l_draw : PySem.W.codeIn K cd_l_draw "_law_draw" = true)
    (k_l_draw : PySem.W.keepIn K (.ref f_l_draw) = true)
    (a_l_row : PySem.W.nsIn K mainGlobals "_law_row" = some (some (.ref f_l_row)))
    (l_l_row : K.lookup f_l_row = some ⟨oc_l_row, od_l_row, .func (PySem.W.fnOf "_law_row" "_law_row" (defArgs s_l_row) (defBody s_l_row) (defScope s_l_row) .none kV_l_row dc_l_row pm_l_row an_l_row cd_l_row ct_l_row), sl_l_row⟩)
    (c_l_row : PySem.W.codeIn K cd_l_row "_law_row" = true)
    (k_l_row : PySem.W.keepIn K (.ref f_l_row) = true)
    (a_l_place : PySem.W.nsIn K mainGlobals "_law_place" = some (some (.ref f_l_place)))
    (l_l_place : K.lookup f_l_place = some ⟨oc_l_place, od_l_place, .func (PySem.W.fnOf "_law_place" "_law_place" (defArgs s_l_place) (defBody s_l_place) (defScope s_l_place) .none kV_l_place dc_l_place pm_l_place an_l_place cd_l_place ct_l_place), sl_l_place⟩)
    (c_l_place : PySem.W.codeIn K cd_l_place "_law_place" = true)
    (k_l_place : PySem.W.keepIn K (.ref f_l_place) = true)
    (a_l_changes : PySem.W.nsIn K mainGlobals "_law_changes" = some (some (.ref f_l_changes)))
    (l_l_changes : K.lookup f_l_changes = some ⟨oc_l_changes, od_l_changes, .func (PySem.W.fnOf "_law_changes" "_law_changes" (defArgs s_l_changes) (defBody s_l_changes) (defScope s_l_changes) .none kV_l_changes dc_l_changes pm_l_changes an_l_changes cd_l_changes ct_l_changes), sl_l_changes⟩)
    (c_l_changes : PySem.W.codeIn K cd_l_changes "_law_changes" = true)
    (k_l_changes : PySem.W.keepIn K (.ref f_l_changes) = true)
    (a_l_due : PySem.W.nsIn K mainGlobals "_law_due" = some (some (.ref f_l_due)))
    (l_l_due : K.lookup f_l_due = some ⟨oc_l_due, od_l_due, .func (PySem.W.fnOf "_law_due" "_law_due" (defArgs s_l_due) (defBody s_l_due) (defScope s_l_due) .none kV_l_due dc_l_due pm_l_due an_l_due cd_l_due ct_l_due), sl_l_due⟩)
    (c_l_due : PySem.W.codeIn K cd_l_due "_law_due" = true)
    (k_l_due : PySem.W.keepIn K (.ref f_l_due) = true)
    (a_l_made : PySem.W.nsIn K mainGlobals "_law_made" = some (some (.ref f_l_made)))
    (l_l_made : K.lookup f_l_made = some ⟨oc_l_made, od_l_made, .func (PySem.W.fnOf "_law_made" "_law_made" (defArgs s_l_made) (defBody s_l_made) (defScope s_l_made) .none kV_l_made dc_l_made pm_l_made an_l_made cd_l_made ct_l_made), sl_l_made⟩)
    (c_l_made : PySem.W.codeIn K cd_l_made "_law_made" = true)
    (k_l_made : PySem.W.keepIn K (.ref f_l_made) = true)
    (a_l_base_caught : PySem.W.nsIn K mainGlobals "_law_base_caught" = some (some (.ref f_l_base_caught)))
    (l_l_base_caught : K.lookup f_l_base_caught = some ⟨oc_l_base_caught, od_l_base_caught, .func (PySem.W.fnOf "_law_base_caught" "_law_base_caught" (defArgs s_l_base_caught) (defBody s_l_base_caught) (defScope s_l_base_caught) .none kV_l_base_caught dc_l_base_caught pm_l_base_caught an_l_base_caught cd_l_base_caught ct_l_base_caught), sl_l_base_caught⟩)
    (c_l_base_caught : PySem.W.codeIn K cd_l_base_caught "_law_base_caught" = true)
    (k_l_base_caught : PySem.W.keepIn K (.ref f_l_base_caught) = true)
    (a_l_asked : PySem.W.nsIn K mainGlobals "_law_asked" = some (some (.ref f_l_asked)))
    (l_l_asked : K.lookup f_l_asked = some ⟨oc_l_asked, od_l_asked, .func (PySem.W.fnOf "_law_asked" "_law_asked" (defArgs s_l_asked) (defBody s_l_asked) (defScope s_l_asked) .none kV_l_asked dc_l_asked pm_l_asked an_l_asked cd_l_asked ct_l_asked), sl_l_asked⟩)
    (c_l_asked : PySem.W.codeIn K cd_l_asked "_law_asked" = true)
    (k_l_asked : PySem.W.keepIn K (.ref f_l_asked) = true)
    (a_l_right : PySem.W.nsIn K mainGlobals "_law_right" = some (some (.ref f_l_right)))
    (l_l_right : K.lookup f_l_right = some ⟨oc_l_right, od_l_right, .func (PySem.W.fnOf "_law_right" "_law_right" (defArgs s_l_right) (defBody s_l_right) (defScope s_l_right) .none kV_l_right dc_l_right pm_l_right an_l_right cd_l_right ct_l_right), sl_l_right⟩)
    (c_l_right : PySem.W.codeIn K cd_l_right "_law_right" = true)
    (k_l_right : PySem.W.keepIn K (.ref f_l_right) = true)
    (a_law : PySem.W.nsIn K mainGlobals "law" = some (some (.ref f_law)))
    (l_law : K.lookup f_law = some ⟨oc_law, od_law, .func (PySem.W.fnOf "law" "law" (defArgs s_law) (defBody s_law) (defScope s_law) .none kV_law dc_law pm_law an_law cd_law ct_law), sl_law⟩)
    (c_law : PySem.W.codeIn K cd_law "law" = true)
    (k_law : PySem.W.keepIn K (.ref f_law) = true)
    (z_ValueError : PySem.W.nsIn K mainGlobals "ValueError" = some none)
    (z_bool : PySem.W.nsIn K mainGlobals "bool" = some none)
    (z_int : PySem.W.nsIn K mainGlobals "int" = some none)
    (z_isinstance : PySem.W.nsIn K mainGlobals "isinstance" = some none)
    (z_len : PySem.W.nsIn K mainGlobals "len" = some none)
    (z_list : PySem.W.nsIn K mainGlobals "list" = some none)
    (z_range : PySem.W.nsIn K mainGlobals "range" = some none)
    (z_sorted : PySem.W.nsIn K mainGlobals "sorted" = some none)
    (z_str : PySem.W.nsIn K mainGlobals "str" = some none)
    (z_tuple : PySem.W.nsIn K mainGlobals "tuple" = some none)
    (pg_Edit : PySem.W.plainGet K C_Edit Str.empty = true)
    (hd_Edit : PySem.W.hasDictIn K C_Edit = true)
    (po_Edit : PySem.W.plainOver K C_Edit = true)
    (sa_Edit : PySem.W.findIn K (.ref C_Edit) "__setattr__" = some (some (.builtin "object.__setattr__")))
    (na_Edit__placed : PySem.W.findIn K (.ref C_Edit) "_placed" = some none)
    (na_Edit_changes : PySem.W.findIn K (.ref C_Edit) "changes" = some none)
    (ca_Edit : PySem.W.findIn K (.ref C_Edit) "__class__" = some (some (.builtin "object.__class__")))
    (cn_ : PySem.W.specialIn K (.builtin "object.__class__") "__get__" = some (some (.builtin "getset_descriptor.__get__")))
    (ct_ : PySem.W.takesIn K (.builtin "object.__class__") = some true)
    (cm_Edit : PySem.W.mroIn K C_Edit (.type "object") = some true)
    (qq_Edit_Edit : PySem.W.kitOne K (.ref C_Edit) (.ref C_Edit) = some true)
    (qq_tuple_Edit : PySem.W.kitOne K (.type "tuple") (.ref C_Edit) = some false)
    (mk_Edit : PySem.W.makesIn K C_Edit = true)
    (kc_Edit : PySem.W.keepIn K (.ref C_Edit) = true)
    (ex_InvalidChange : PySem.W.subIn K (.ref C_InvalidChange) (.type "BaseException") = some true)
    (ic_InvalidChange : PySem.W.isClsIn K C_InvalidChange = true)
    (ty_InvalidChange : PySem.W.typeIn K (.ref C_InvalidChange) = some (.type "type"))
    (su_InvalidChange_InvalidChange : PySem.W.subIn K (.ref C_InvalidChange) (.ref C_InvalidChange) = some true)
    (ga_InvalidChange : PySem.W.findIn K (.ref C_InvalidChange) "__getattribute__" = some (some (.builtin "BaseException.__getattribute__")))
    (gg_InvalidChange : PySem.W.findIn K (.ref C_InvalidChange) "__getattr__" = some none)
    (hd_InvalidChange : PySem.W.hasDictIn K C_InvalidChange = true)
    (na_InvalidChange_change : PySem.W.findIn K (.ref C_InvalidChange) "change" = some none)
    (su_SamePlace_InvalidChange : PySem.W.subIn K (.ref C_SamePlace) (.ref C_InvalidChange) = some false)
    (ex_SamePlace : PySem.W.subIn K (.ref C_SamePlace) (.type "BaseException") = some true)
    (ic_SamePlace : PySem.W.isClsIn K C_SamePlace = true)
    (ty_SamePlace : PySem.W.typeIn K (.ref C_SamePlace) = some (.type "type"))
    (su_SamePlace_SamePlace : PySem.W.subIn K (.ref C_SamePlace) (.ref C_SamePlace) = some true)
    (ga_SamePlace : PySem.W.findIn K (.ref C_SamePlace) "__getattribute__" = some (some (.builtin "BaseException.__getattribute__")))
    (gg_SamePlace : PySem.W.findIn K (.ref C_SamePlace) "__getattr__" = some none)
    (hd_SamePlace : PySem.W.hasDictIn K C_SamePlace = true)
    (na_SamePlace_place : PySem.W.findIn K (.ref C_SamePlace) "place" = some none)
    (ex_ShownError : PySem.W.subIn K (.ref C_ShownError) (.type "BaseException") = some true)
    (ic_ShownError : PySem.W.isClsIn K C_ShownError = true)
    (ty_ShownError : PySem.W.typeIn K (.ref C_ShownError) = some (.type "type"))
    (su_InvalidChange_ShownError : PySem.W.subIn K (.ref C_InvalidChange) (.ref C_ShownError) = some true)
    (ca_InvalidChange : PySem.W.findIn K (.ref C_InvalidChange) "__class__" = some (some (.builtin "object.__class__")))
    (cm_InvalidChange : PySem.W.mroIn K C_InvalidChange (.type "object") = some true)
    (qq_InvalidChange_ValueError : PySem.W.kitOne K (.ref C_InvalidChange) (.type "ValueError") = some true)
    (qq_InvalidChange_Clash : PySem.W.kitOne K (.ref C_InvalidChange) (.ref C_Clash) = some false)
    (qq_InvalidChange_NoChange : PySem.W.kitOne K (.ref C_InvalidChange) (.ref C_NoChange) = some false)
    (su_SamePlace_ShownError : PySem.W.subIn K (.ref C_SamePlace) (.ref C_ShownError) = some true)
    (ca_SamePlace : PySem.W.findIn K (.ref C_SamePlace) "__class__" = some (some (.builtin "object.__class__")))
    (cm_SamePlace : PySem.W.mroIn K C_SamePlace (.type "object") = some true)
    (qq_SamePlace_ValueError : PySem.W.kitOne K (.ref C_SamePlace) (.type "ValueError") = some true)
    (qq_SamePlace_Clash : PySem.W.kitOne K (.ref C_SamePlace) (.ref C_Clash) = some false)
    (qq_SamePlace_NoChange : PySem.W.kitOne K (.ref C_SamePlace) (.ref C_NoChange) = some false)
    (qfi_Edit___getitem : PySem.W.fnIn K f_Edit___getitem = true)
    (ex_NoChange : PySem.W.subIn K (.ref C_NoChange) (.type "BaseException") = some true)
    (ic_NoChange : PySem.W.isClsIn K C_NoChange = true)
    (ty_NoChange : PySem.W.typeIn K (.ref C_NoChange) = some (.type "type"))
    (su_NoChange_NoChange : PySem.W.subIn K (.ref C_NoChange) (.ref C_NoChange) = some true)
    (ga_NoChange : PySem.W.findIn K (.ref C_NoChange) "__getattribute__" = some (some (.builtin "BaseException.__getattribute__")))
    (gg_NoChange : PySem.W.findIn K (.ref C_NoChange) "__getattr__" = some none)
    (hd_NoChange : PySem.W.hasDictIn K C_NoChange = true)
    (na_NoChange_place : PySem.W.findIn K (.ref C_NoChange) "place" = some none)
    (qnb_Edit : PySem.W.findIn K (.ref C_Edit) "__bool__" = some none)
    (qnf_Edit_Edit : PySem.W.notFirst K C_Edit (.ref C_Edit) = true)
    (ne_Edit : PySem.W.findIn K (.ref C_Edit) "__ne__" = some (some (.builtin "object.__ne__")))
    (qnf_Edit_tuple : PySem.W.notFirst K C_Edit (.type "tuple") = true)
    (xl_InvalidChange : K.lookup C_InvalidChange = some (excClassObj nm_InvalidChange q_InvalidChange C_InvalidChange N_InvalidChange bs_InvalidChange bm_InvalidChange true sn_InvalidChange sub_InvalidChange ab_InvalidChange col_InvalidChange dd_InvalidChange m0_InvalidChange m1_InvalidChange m2_InvalidChange m3_InvalidChange m5_InvalidChange "ValueError.__new__"))
    (rv_InvalidChange : PySem.HandSPX.refsVE bm_InvalidChange = true)
    (sa_InvalidChange : PySem.W.findIn K (.ref C_InvalidChange) "__setattr__" = some (some (.builtin "object.__setattr__")))
    (kc_InvalidChange : PySem.W.keepIn K (.ref C_InvalidChange) = true)
    (a_e_InvalidChange : PySem.W.findIn K (.ref C_InvalidChange) "__init__" = some (some (.ref f_e_InvalidChange)))
    (l_e_InvalidChange : K.lookup f_e_InvalidChange = some ⟨oc_e_InvalidChange, od_e_InvalidChange, .func (PySem.W.fnOf "__init__" "InvalidChange.__init__" (defArgs s_e_InvalidChange) (defBody s_e_InvalidChange) (defScope s_e_InvalidChange) .none kV_e_InvalidChange dc_e_InvalidChange pm_e_InvalidChange an_e_InvalidChange cd_e_InvalidChange ct_e_InvalidChange), sl_e_InvalidChange⟩)
    (c_e_InvalidChange : PySem.W.codeIn K cd_e_InvalidChange "InvalidChange.__init__" = true)
    (k_e_InvalidChange : PySem.W.keepIn K (.ref f_e_InvalidChange) = true)
    (tI_InvalidChange : PySem.W.typeIn K (.ref f_e_InvalidChange) = some (.type "function"))
    (xl_NoChange : K.lookup C_NoChange = some (excClassObj nm_NoChange q_NoChange C_NoChange N_NoChange bs_NoChange bm_NoChange true sn_NoChange sub_NoChange ab_NoChange col_NoChange dd_NoChange m0_NoChange m1_NoChange m2_NoChange m3_NoChange m5_NoChange "ValueError.__new__"))
    (rv_NoChange : PySem.HandSPX.refsVE bm_NoChange = true)
    (sa_NoChange : PySem.W.findIn K (.ref C_NoChange) "__setattr__" = some (some (.builtin "object.__setattr__")))
    (kc_NoChange : PySem.W.keepIn K (.ref C_NoChange) = true)
    (a_e_NoChange : PySem.W.findIn K (.ref C_NoChange) "__init__" = some (some (.ref f_e_NoChange)))
    (l_e_NoChange : K.lookup f_e_NoChange = some ⟨oc_e_NoChange, od_e_NoChange, .func (PySem.W.fnOf "__init__" "NoChange.__init__" (defArgs s_e_NoChange) (defBody s_e_NoChange) (defScope s_e_NoChange) .none kV_e_NoChange dc_e_NoChange pm_e_NoChange an_e_NoChange cd_e_NoChange ct_e_NoChange), sl_e_NoChange⟩)
    (c_e_NoChange : PySem.W.codeIn K cd_e_NoChange "NoChange.__init__" = true)
    (k_e_NoChange : PySem.W.keepIn K (.ref f_e_NoChange) = true)
    (tI_NoChange : PySem.W.typeIn K (.ref f_e_NoChange) = some (.type "function"))
    (xl_SamePlace : K.lookup C_SamePlace = some (excClassObj nm_SamePlace q_SamePlace C_SamePlace N_SamePlace bs_SamePlace bm_SamePlace true sn_SamePlace sub_SamePlace ab_SamePlace col_SamePlace dd_SamePlace m0_SamePlace m1_SamePlace m2_SamePlace m3_SamePlace m5_SamePlace "ValueError.__new__"))
    (rv_SamePlace : PySem.HandSPX.refsVE bm_SamePlace = true)
    (sa_SamePlace : PySem.W.findIn K (.ref C_SamePlace) "__setattr__" = some (some (.builtin "object.__setattr__")))
    (kc_SamePlace : PySem.W.keepIn K (.ref C_SamePlace) = true)
    (a_e_SamePlace : PySem.W.findIn K (.ref C_SamePlace) "__init__" = some (some (.ref f_e_SamePlace)))
    (l_e_SamePlace : K.lookup f_e_SamePlace = some ⟨oc_e_SamePlace, od_e_SamePlace, .func (PySem.W.fnOf "__init__" "SamePlace.__init__" (defArgs s_e_SamePlace) (defBody s_e_SamePlace) (defScope s_e_SamePlace) .none kV_e_SamePlace dc_e_SamePlace pm_e_SamePlace an_e_SamePlace cd_e_SamePlace ct_e_SamePlace), sl_e_SamePlace⟩)
    (c_e_SamePlace : PySem.W.codeIn K cd_e_SamePlace "SamePlace.__init__" = true)
    (k_e_SamePlace : PySem.W.keepIn K (.ref f_e_SamePlace) = true)
    (tI_SamePlace : PySem.W.typeIn K (.ref f_e_SamePlace) = some (.type "function"))
    (hc_l_due : cd_l_due = .ref co_l_due)
    (hm_l_due : P_l_due ∈ ts)
    (hh_l_due : PySem.W.codeHdIn K co_l_due P_l_due = true)
    (hn_l_due : K.lookup P_l_due = none)
    : LamX.LawAtS l w K CX0 7 63 "_law_script" mg fa h := by
  refine _root_.G.law_at [(co_l_due, P_l_due, q_l_due)] X (fun p hp => by obtain rfl := List.mem_singleton.mp hp; exact hts _ hm_l_due) (fun p hp => by obtain rfl := List.mem_singleton.mp hp; exact hn_l_due) (fun p hp => by obtain rfl := List.mem_singleton.mp hp; exact hh_l_due) (fun x => m_law x) (fun ns hl => law_true ns hl) ?_
  letI : _root_.G.TabL := ⟨[(co_l_due, P_l_due, q_l_due)].map fun p => (p.2.1, p.2.2)⟩
  have e := hfa.symm.trans (PySem.W.mg_of X G a_law)
  cases e
  have FD_Edit___init : FunD K "__init__" "Edit.__init__" (defArgs s_Edit___init) (defBody s_Edit___init) (defScope s_Edit___init) [V.ref e_Edit___init_0] [] f_Edit___init (PySem.W.fnOf "__init__" "Edit.__init__" (defArgs s_Edit___init) (defBody s_Edit___init) (defScope s_Edit___init) (.ref T_Edit___init) kV_Edit___init dc_Edit___init pm_Edit___init an_Edit___init cd_Edit___init ct_Edit___init) := ⟨⟨_, _, _, _, _, _, _, _, _, _, rfl, l_Edit___init, c_Edit___init, .inr ⟨List.cons_ne_nil _ _, T_Edit___init, _, [Value.ref e_Edit___init_0], _, rfl, lT_Edit___init, rfl, (.cons rfl .nil)⟩, .inl rfl⟩, k_Edit___init⟩
  obtain ⟨z_Edit___init_0, v_Edit___init_0, n_Edit___init_0⟩ := FD_Edit___init.binds1 (ps := ["self", "changes"]) 1 0 (List.cons_ne_nil _ _) rfl (fun T kV doc pm an cdv ct us its l1 l2 => match us, its, l1, l2 with | [_], [_], _, _ => ⟨_, rfl, rfl⟩)
  obtain ⟨z_Edit___init_1, v_Edit___init_1, n_Edit___init_1⟩ := FD_Edit___init.binds1 (ps := ["self", "changes"]) 2 1 (List.cons_ne_nil _ _) rfl (fun T kV doc pm an cdv ct us its l1 l2 => match us, its, l1, l2 with | [_, _], [_], _, _ => ⟨_, rfl, rfl⟩)
  refine ⟨PySem.W.fnOf "law" "law" (defArgs s_law) (defBody s_law) (defScope s_law) .none kV_law dc_law pm_law an_law cd_law ct_law, fun s v => .of_eq rfl, fun base _ _ tbs => ?_⟩
  have T : Txt K mg base { f_placed_changes := f_placed_changes, d_placed_changes := PySem.W.fnOf "placed_changes" "placed_changes" (defArgs s_placed_changes) (defBody s_placed_changes) (defScope s_placed_changes) .none kV_placed_changes dc_placed_changes pm_placed_changes an_placed_changes cd_placed_changes ct_placed_changes, f_Edit___init := f_Edit___init, d_Edit___init := PySem.W.fnOf "__init__" "Edit.__init__" (defArgs s_Edit___init) (defBody s_Edit___init) (defScope s_Edit___init) (.ref T_Edit___init) kV_Edit___init dc_Edit___init pm_Edit___init an_Edit___init cd_Edit___init ct_Edit___init, e_Edit___init_0 := e_Edit___init_0, z_Edit___init_0 := z_Edit___init_0, z_Edit___init_1 := z_Edit___init_1, f_Edit___contains := f_Edit___contains, d_Edit___contains := PySem.W.fnOf "__contains__" "Edit.__contains__" (defArgs s_Edit___contains) (defBody s_Edit___contains) (defScope s_Edit___contains) .none kV_Edit___contains dc_Edit___contains pm_Edit___contains an_Edit___contains cd_Edit___contains ct_Edit___contains, f_Edit___getitem := f_Edit___getitem, d_Edit___getitem := PySem.W.fnOf "__getitem__" "Edit.__getitem__" (defArgs s_Edit___getitem) (defBody s_Edit___getitem) (defScope s_Edit___getitem) .none kV_Edit___getitem dc_Edit___getitem pm_Edit___getitem an_Edit___getitem cd_Edit___getitem ct_Edit___getitem, f_Edit___eq := f_Edit___eq, d_Edit___eq := PySem.W.fnOf "__eq__" "Edit.__eq__" (defArgs s_Edit___eq) (defBody s_Edit___eq) (defScope s_Edit___eq) .none kV_Edit___eq dc_Edit___eq pm_Edit___eq an_Edit___eq cd_Edit___eq ct_Edit___eq, f_Edit___len := f_Edit___len, d_Edit___len := PySem.W.fnOf "__len__" "Edit.__len__" (defArgs s_Edit___len) (defBody s_Edit___len) (defScope s_Edit___len) .none kV_Edit___len dc_Edit___len pm_Edit___len an_Edit___len cd_Edit___len ct_Edit___len, f_Edit_deletes := f_Edit_deletes, d_Edit_deletes := PySem.W.fnOf "deletes" "Edit.deletes" (defArgs s_Edit_deletes) (defBody s_Edit_deletes) (defScope s_Edit_deletes) .none kV_Edit_deletes dc_Edit_deletes pm_Edit_deletes an_Edit_deletes cd_Edit_deletes ct_Edit_deletes, p_Edit_deletes := p_Edit_deletes, f_Edit_inserts := f_Edit_inserts, d_Edit_inserts := PySem.W.fnOf "inserts" "Edit.inserts" (defArgs s_Edit_inserts) (defBody s_Edit_inserts) (defScope s_Edit_inserts) .none kV_Edit_inserts dc_Edit_inserts pm_Edit_inserts an_Edit_inserts cd_Edit_inserts ct_Edit_inserts, p_Edit_inserts := p_Edit_inserts, f_Edit_sets := f_Edit_sets, d_Edit_sets := PySem.W.fnOf "sets" "Edit.sets" (defArgs s_Edit_sets) (defBody s_Edit_sets) (defScope s_Edit_sets) .none kV_Edit_sets dc_Edit_sets pm_Edit_sets an_Edit_sets cd_Edit_sets ct_Edit_sets, p_Edit_sets := p_Edit_sets, f_l_start := f_l_start, d_l_start := PySem.W.fnOf "_law_start" "_law_start" (defArgs s_l_start) (defBody s_l_start) (defScope s_l_start) .none kV_l_start dc_l_start pm_l_start an_l_start cd_l_start ct_l_start, f_l_draw := f_l_draw, d_l_draw := PySem.W.fnOf "_law_draw" "_law_draw" (defArgs s_l_draw) (defBody s_l_draw) (defScope s_l_draw) .none kV_l_draw dc_l_draw pm_l_draw an_l_draw cd_l_draw ct_l_draw, f_l_row := f_l_row, d_l_row := PySem.W.fnOf "_law_row" "_law_row" (defArgs s_l_row) (defBody s_l_row) (defScope s_l_row) .none kV_l_row dc_l_row pm_l_row an_l_row cd_l_row ct_l_row, f_l_place := f_l_place, d_l_place := PySem.W.fnOf "_law_place" "_law_place" (defArgs s_l_place) (defBody s_l_place) (defScope s_l_place) .none kV_l_place dc_l_place pm_l_place an_l_place cd_l_place ct_l_place, f_l_changes := f_l_changes, d_l_changes := PySem.W.fnOf "_law_changes" "_law_changes" (defArgs s_l_changes) (defBody s_l_changes) (defScope s_l_changes) .none kV_l_changes dc_l_changes pm_l_changes an_l_changes cd_l_changes ct_l_changes, f_l_due := f_l_due, d_l_due := PySem.W.fnOf "_law_due" "_law_due" (defArgs s_l_due) (defBody s_l_due) (defScope s_l_due) .none kV_l_due dc_l_due pm_l_due an_l_due cd_l_due ct_l_due, f_l_made := f_l_made, d_l_made := PySem.W.fnOf "_law_made" "_law_made" (defArgs s_l_made) (defBody s_l_made) (defScope s_l_made) .none kV_l_made dc_l_made pm_l_made an_l_made cd_l_made ct_l_made, f_l_base_caught := f_l_base_caught, d_l_base_caught := PySem.W.fnOf "_law_base_caught" "_law_base_caught" (defArgs s_l_base_caught) (defBody s_l_base_caught) (defScope s_l_base_caught) .none kV_l_base_caught dc_l_base_caught pm_l_base_caught an_l_base_caught cd_l_base_caught ct_l_base_caught, f_l_asked := f_l_asked, d_l_asked := PySem.W.fnOf "_law_asked" "_law_asked" (defArgs s_l_asked) (defBody s_l_asked) (defScope s_l_asked) .none kV_l_asked dc_l_asked pm_l_asked an_l_asked cd_l_asked ct_l_asked, f_l_right := f_l_right, d_l_right := PySem.W.fnOf "_law_right" "_law_right" (defArgs s_l_right) (defBody s_l_right) (defScope s_l_right) .none kV_l_right dc_l_right pm_l_right an_l_right cd_l_right ct_l_right, f_law := fa, d_law := PySem.W.fnOf "law" "law" (defArgs s_law) (defBody s_law) (defScope s_law) .none kV_law dc_law pm_law an_law cd_law ct_law, C_InvalidChange := C_InvalidChange, C_SamePlace := C_SamePlace, C_Edit := C_Edit, C_NoChange := C_NoChange, C_ShownError := C_ShownError, C_Clash := C_Clash, f_e_InvalidChange := f_e_InvalidChange, d_e_InvalidChange := PySem.W.fnOf "__init__" "InvalidChange.__init__" (defArgs s_e_InvalidChange) (defBody s_e_InvalidChange) (defScope s_e_InvalidChange) .none kV_e_InvalidChange dc_e_InvalidChange pm_e_InvalidChange an_e_InvalidChange cd_e_InvalidChange ct_e_InvalidChange, f_e_NoChange := f_e_NoChange, d_e_NoChange := PySem.W.fnOf "__init__" "NoChange.__init__" (defArgs s_e_NoChange) (defBody s_e_NoChange) (defScope s_e_NoChange) .none kV_e_NoChange dc_e_NoChange pm_e_NoChange an_e_NoChange cd_e_NoChange ct_e_NoChange, f_e_SamePlace := f_e_SamePlace, d_e_SamePlace := PySem.W.fnOf "__init__" "SamePlace.__init__" (defArgs s_e_SamePlace) (defBody s_e_SamePlace) (defScope s_e_SamePlace) .none kV_e_SamePlace dc_e_SamePlace pm_e_SamePlace an_e_SamePlace cd_e_SamePlace ct_e_SamePlace, c_l_due := co_l_due, P_l_due := P_l_due } := { F_placed_changes := fun_mk (st := s_placed_changes) l_placed_changes c_placed_changes k_placed_changes, g_placed_changes := PySem.W.mg_of X G a_placed_changes, n_placed_changes := (fun_mk (st := s_placed_changes) l_placed_changes c_placed_changes k_placed_changes).binds (ps := ["changes"]) fun _ _ _ _ _ _ us hl => match us, hl with | [_], _ => rfl, F_Edit___init := FD_Edit___init, t_Edit___init_0 := ⟨_, _, le_Edit___init_0, rfl, rfl⟩, n_Edit___init_0 := n_Edit___init_0, v_Edit___init_0 := v_Edit___init_0, n_Edit___init_1 := n_Edit___init_1, v_Edit___init_1 := v_Edit___init_1, F_Edit___contains := fun_mk (st := s_Edit___contains) l_Edit___contains c_Edit___contains k_Edit___contains, n_Edit___contains := (fun_mk (st := s_Edit___contains) l_Edit___contains c_Edit___contains k_Edit___contains).binds (ps := ["self", "x"]) fun _ _ _ _ _ _ us hl => match us, hl with | [_, _], _ => rfl, F_Edit___getitem := fun_mk (st := s_Edit___getitem) l_Edit___getitem c_Edit___getitem k_Edit___getitem, n_Edit___getitem := (fun_mk (st := s_Edit___getitem) l_Edit___getitem c_Edit___getitem k_Edit___getitem).binds (ps := ["self", "at"]) fun _ _ _ _ _ _ us hl => match us, hl with | [_, _], _ => rfl, F_Edit___eq := fun_mk (st := s_Edit___eq) l_Edit___eq c_Edit___eq k_Edit___eq, n_Edit___eq := (fun_mk (st := s_Edit___eq) l_Edit___eq c_Edit___eq k_Edit___eq).binds (ps := ["self", "other"]) fun _ _ _ _ _ _ us hl => match us, hl with | [_, _], _ => rfl, F_Edit___len := fun_mk (st := s_Edit___len) l_Edit___len c_Edit___len k_Edit___len, n_Edit___len := (fun_mk (st := s_Edit___len) l_Edit___len c_Edit___len k_Edit___len).binds (ps := ["self"]) fun _ _ _ _ _ _ us hl => match us, hl with | [_], _ => rfl, F_Edit_deletes := fun_mk (st := s_Edit_deletes) l_Edit_deletes c_Edit_deletes k_Edit_deletes, pr_Edit_deletes := ⟨pa_Edit_deletes, pg_Edit_deletes, pt_Edit_deletes, ⟨_, a_Edit_deletes⟩⟩, n_Edit_deletes := (fun_mk (st := s_Edit_deletes) l_Edit_deletes c_Edit_deletes k_Edit_deletes).binds (ps := ["self"]) fun _ _ _ _ _ _ us hl => match us, hl with | [_], _ => rfl, F_Edit_inserts := fun_mk (st := s_Edit_inserts) l_Edit_inserts c_Edit_inserts k_Edit_inserts, pr_Edit_inserts := ⟨pa_Edit_inserts, pg_Edit_inserts, pt_Edit_inserts, ⟨_, a_Edit_inserts⟩⟩, n_Edit_inserts := (fun_mk (st := s_Edit_inserts) l_Edit_inserts c_Edit_inserts k_Edit_inserts).binds (ps := ["self"]) fun _ _ _ _ _ _ us hl => match us, hl with | [_], _ => rfl, F_Edit_sets := fun_mk (st := s_Edit_sets) l_Edit_sets c_Edit_sets k_Edit_sets, pr_Edit_sets := ⟨pa_Edit_sets, pg_Edit_sets, pt_Edit_sets, ⟨_, a_Edit_sets⟩⟩, n_Edit_sets := (fun_mk (st := s_Edit_sets) l_Edit_sets c_Edit_sets k_Edit_sets).binds (ps := ["self"]) fun _ _ _ _ _ _ us hl => match us, hl with | [_], _ => rfl, F_l_start := fun_mk (st := s_l_start) l_l_start c_l_start k_l_start, g_l_start := PySem.W.mg_of X G a_l_start, n_l_start := (fun_mk (st := s_l_start) l_l_start c_l_start k_l_start).binds (ps := ["_law_script"]) fun _ _ _ _ _ _ us hl => match us, hl with | [_], _ => rfl, F_l_draw := fun_mk (st := s_l_draw) l_l_draw c_l_draw k_l_draw, g_l_draw := PySem.W.mg_of X G a_l_draw, n_l_draw := (fun_mk (st := s_l_draw) l_l_draw c_l_draw k_l_draw).binds (ps := ["_law_state", "_law_many"]) fun _ _ _ _ _ _ us hl => match us, hl with | [_, _], _ => rfl, F_l_row := fun_mk (st := s_l_row) l_l_row c_l_row k_l_row, g_l_row := PySem.W.mg_of X G a_l_row, n_l_row := (fun_mk (st := s_l_row) l_l_row c_l_row k_l_row).binds (ps := ["_law_state"]) fun _ _ _ _ _ _ us hl => match us, hl with | [_], _ => rfl, F_l_place := fun_mk (st := s_l_place) l_l_place c_l_place k_l_place, g_l_place := PySem.W.mg_of X G a_l_place, n_l_place := (fun_mk (st := s_l_place) l_l_place c_l_place k_l_place).binds (ps := ["_law_state"]) fun _ _ _ _ _ _ us hl => match us, hl with | [_], _ => rfl, F_l_changes := fun_mk (st := s_l_changes) l_l_changes c_l_changes k_l_changes, g_l_changes := PySem.W.mg_of X G a_l_changes, n_l_changes := (fun_mk (st := s_l_changes) l_l_changes c_l_changes k_l_changes).binds (ps := ["_law_state"]) fun _ _ _ _ _ _ us hl => match us, hl with | [_], _ => rfl, F_l_due := fun_mk (st := s_l_due) l_l_due c_l_due k_l_due, g_l_due := PySem.W.mg_of X G a_l_due, n_l_due := (fun_mk (st := s_l_due) l_l_due c_l_due k_l_due).binds (ps := ["_law_moves"]) fun _ _ _ _ _ _ us hl => match us, hl with | [_], _ => rfl, F_l_made := fun_mk (st := s_l_made) l_l_made c_l_made k_l_made, g_l_made := PySem.W.mg_of X G a_l_made, n_l_made := (fun_mk (st := s_l_made) l_l_made c_l_made k_l_made).binds (ps := ["_law_moves"]) fun _ _ _ _ _ _ us hl => match us, hl with | [_], _ => rfl, F_l_base_caught := fun_mk (st := s_l_base_caught) l_l_base_caught c_l_base_caught k_l_base_caught, g_l_base_caught := PySem.W.mg_of X G a_l_base_caught, n_l_base_caught := (fun_mk (st := s_l_base_caught) l_l_base_caught c_l_base_caught k_l_base_caught).binds (ps := ["_law_moves"]) fun _ _ _ _ _ _ us hl => match us, hl with | [_], _ => rfl, F_l_asked := fun_mk (st := s_l_asked) l_l_asked c_l_asked k_l_asked, g_l_asked := PySem.W.mg_of X G a_l_asked, n_l_asked := (fun_mk (st := s_l_asked) l_l_asked c_l_asked k_l_asked).binds (ps := ["_law_edit", "_law_place_here"]) fun _ _ _ _ _ _ us hl => match us, hl with | [_, _], _ => rfl, F_l_right := fun_mk (st := s_l_right) l_l_right c_l_right k_l_right, g_l_right := PySem.W.mg_of X G a_l_right, n_l_right := (fun_mk (st := s_l_right) l_l_right c_l_right k_l_right).binds (ps := ["_law_edit", "_law_due_here"]) fun _ _ _ _ _ _ us hl => match us, hl with | [_, _], _ => rfl, F_law := fun_mk (st := s_law) l_law c_law k_law, g_law := PySem.W.mg_of X G a_law, n_law := (fun_mk (st := s_law) l_law c_law k_law).binds (ps := ["_law_script"]) fun _ _ _ _ _ _ us hl => match us, hl with | [_], _ => rfl, b_ValueError := PySem.W.mg_none_of X G z_ValueError, b_bool := PySem.W.mg_none_of X G z_bool, b_int := PySem.W.mg_none_of X G z_int, b_isinstance := PySem.W.mg_none_of X G z_isinstance, b_len := PySem.W.mg_none_of X G z_len, b_list := PySem.W.mg_none_of X G z_list, b_range := PySem.W.mg_none_of X G z_range, b_sorted := PySem.W.mg_none_of X G z_sorted, b_str := PySem.W.mg_none_of X G z_str, b_tuple := PySem.W.mg_none_of X G z_tuple, g_InvalidChange := PySem.W.mg_of X G aC_InvalidChange, g_SamePlace := PySem.W.mg_of X G aC_SamePlace, g_Edit := PySem.W.mg_of X G aC_Edit, cl_Edit := ⟨pg_Edit, hd_Edit, po_Edit, sa_Edit⟩, na_Edit__placed := na_Edit__placed, na_Edit_changes := na_Edit_changes, g_NoChange := PySem.W.mg_of X G aC_NoChange, ct_Edit := ⟨⟨pg_Edit, hd_Edit, po_Edit, sa_Edit⟩, ca_Edit, cn_, ct_, cm_Edit⟩, q_Edit_Edit := qq_Edit_Edit, q_tuple_Edit := qq_tuple_Edit, M_Edit := ⟨mk_Edit, a_Edit___init, i_Edit___init, kc_Edit⟩, e_InvalidChange_InvalidChange := exm_of ex_InvalidChange ic_InvalidChange ty_InvalidChange su_InvalidChange_InvalidChange, xf_InvalidChange := ⟨ga_InvalidChange, gg_InvalidChange, ex_InvalidChange, hd_InvalidChange⟩, na_InvalidChange_change := na_InvalidChange_change, e_SamePlace_InvalidChange := exm_of ex_InvalidChange ic_InvalidChange ty_InvalidChange su_SamePlace_InvalidChange, e_SamePlace_SamePlace := exm_of ex_SamePlace ic_SamePlace ty_SamePlace su_SamePlace_SamePlace, xf_SamePlace := ⟨ga_SamePlace, gg_SamePlace, ex_SamePlace, hd_SamePlace⟩, na_SamePlace_place := na_SamePlace_place, g_ShownError := PySem.W.mg_of X G aC_ShownError, e_InvalidChange_ShownError := exm_of ex_ShownError ic_ShownError ty_ShownError su_InvalidChange_ShownError, xc_InvalidChange := ⟨ga_InvalidChange, gg_InvalidChange, ex_InvalidChange, hd_InvalidChange, ca_InvalidChange, cn_, ct_, cm_InvalidChange⟩, q_InvalidChange_ValueError := qq_InvalidChange_ValueError, g_Clash := PySem.W.mg_of X G aC_Clash, q_InvalidChange_Clash := qq_InvalidChange_Clash, q_InvalidChange_NoChange := qq_InvalidChange_NoChange, e_SamePlace_ShownError := exm_of ex_ShownError ic_ShownError ty_ShownError su_SamePlace_ShownError, xc_SamePlace := ⟨ga_SamePlace, gg_SamePlace, ex_SamePlace, hd_SamePlace, ca_SamePlace, cn_, ct_, cm_SamePlace⟩, q_SamePlace_ValueError := qq_SamePlace_ValueError, q_SamePlace_Clash := qq_SamePlace_Clash, q_SamePlace_NoChange := qq_SamePlace_NoChange, me_Edit___getitem := ⟨a_Edit___getitem, i_Edit___getitem, k_Edit___getitem⟩, fi_Edit___getitem := qfi_Edit___getitem, e_NoChange_NoChange := exm_of ex_NoChange ic_NoChange ty_NoChange su_NoChange_NoChange, xf_NoChange := ⟨ga_NoChange, gg_NoChange, ex_NoChange, hd_NoChange⟩, na_NoChange_place := na_NoChange_place, me_Edit___len := ⟨a_Edit___len, i_Edit___len, k_Edit___len⟩, nb_Edit := qnb_Edit, me_Edit___contains := ⟨a_Edit___contains, i_Edit___contains, k_Edit___contains⟩, me_Edit___eq := ⟨a_Edit___eq, i_Edit___eq, k_Edit___eq⟩, nf_Edit_Edit := qnf_Edit_Edit, nn_Edit := ⟨ne_Edit, po_Edit⟩, nf_Edit_tuple := qnf_Edit_tuple, x_InvalidChange := ⟨⟨_, _, _, _, _, _, _, _, _, _, _, _, _, _, _, xl_InvalidChange, rv_InvalidChange⟩, sa_InvalidChange, ex_InvalidChange, ty_InvalidChange, kc_InvalidChange⟩, F_e_InvalidChange := fun_mk (st := s_e_InvalidChange) l_e_InvalidChange c_e_InvalidChange k_e_InvalidChange, i_InvalidChange := a_e_InvalidChange, t_InvalidChange := tI_InvalidChange, n_e_InvalidChange := (fun_mk (st := s_e_InvalidChange) l_e_InvalidChange c_e_InvalidChange k_e_InvalidChange).binds (ps := ["self", "change"]) fun _ _ _ _ _ _ us hl => match us, hl with | [_, _], _ => rfl, x_NoChange := ⟨⟨_, _, _, _, _, _, _, _, _, _, _, _, _, _, _, xl_NoChange, rv_NoChange⟩, sa_NoChange, ex_NoChange, ty_NoChange, kc_NoChange⟩, F_e_NoChange := fun_mk (st := s_e_NoChange) l_e_NoChange c_e_NoChange k_e_NoChange, i_NoChange := a_e_NoChange, t_NoChange := tI_NoChange, n_e_NoChange := (fun_mk (st := s_e_NoChange) l_e_NoChange c_e_NoChange k_e_NoChange).binds (ps := ["self", "place"]) fun _ _ _ _ _ _ us hl => match us, hl with | [_, _], _ => rfl, x_SamePlace := ⟨⟨_, _, _, _, _, _, _, _, _, _, _, _, _, _, _, xl_SamePlace, rv_SamePlace⟩, sa_SamePlace, ex_SamePlace, ty_SamePlace, kc_SamePlace⟩, F_e_SamePlace := fun_mk (st := s_e_SamePlace) l_e_SamePlace c_e_SamePlace k_e_SamePlace, i_SamePlace := a_e_SamePlace, t_SamePlace := tI_SamePlace, n_e_SamePlace := (fun_mk (st := s_e_SamePlace) l_e_SamePlace c_e_SamePlace k_e_SamePlace).binds (ps := ["self", "place"]) fun _ _ _ _ _ _ us hl => match us, hl with | [_, _], _ => rfl, hc_l_due := hc_l_due, tb_l_due := tbs (co_l_due, P_l_due) (List.mem_singleton.mpr rfl), hT_l_due := List.mem_singleton.mpr rfl, hu_l_due := fun r m => congrArg Prod.snd (List.mem_singleton.mp m) }
  exact ok_law T
end Law
open PySem PySem.W PyProof.Rows
set_option maxRecDepth 100000 in
set_option maxHeartbeats 0 in
theorem PySem.Challenge.cw_shownwrites_k10_edit_changes_holds : PySem.Challenge.rw_shownwrites_k10_edit_changes.Holds := by
  w_on; o_law; k_head; (case hw => w_witness2)
  k_fill
  refine LamX.walk_ofTs (n := 63) (k := 7) (x := "_law_script") (CX := fun _ => L2.CX0) rfl (by decide) rfl ⟨rfl, by decide, by decide⟩ (fun w h Y => PySem.W.km_in_of Y) ?F (fun _ _ _ _ _ z => z)
  case F =>
    intro w mg fa h Y KX G hmg
    refine' Law.all_end KX G hmg (PySem.W.km_tabs_of Y) ?aC_InvalidChange ?aC_SamePlace ?aC_Edit ?aC_NoChange ?aC_ShownError ?aC_Clash ?a_placed_changes ?l_placed_changes ?c_placed_changes ?k_placed_changes ?a_Edit___init ?l_Edit___init ?c_Edit___init ?k_Edit___init ?lT_Edit___init ?le_Edit___init_0 ?i_Edit___init ?a_Edit___contains ?l_Edit___contains ?c_Edit___contains ?k_Edit___contains ?i_Edit___contains ?a_Edit___getitem ?l_Edit___getitem ?c_Edit___getitem ?k_Edit___getitem ?i_Edit___getitem ?a_Edit___eq ?l_Edit___eq ?c_Edit___eq ?k_Edit___eq ?i_Edit___eq ?a_Edit___len ?l_Edit___len ?c_Edit___len ?k_Edit___len ?i_Edit___len ?pa_Edit_deletes ?a_Edit_deletes ?l_Edit_deletes ?c_Edit_deletes ?k_Edit_deletes ?pg_Edit_deletes ?pt_Edit_deletes ?pa_Edit_inserts ?a_Edit_inserts ?l_Edit_inserts ?c_Edit_inserts ?k_Edit_inserts ?pg_Edit_inserts ?pt_Edit_inserts ?pa_Edit_sets ?a_Edit_sets ?l_Edit_sets ?c_Edit_sets ?k_Edit_sets ?pg_Edit_sets ?pt_Edit_sets ?a_l_start ?l_l_start ?c_l_start ?k_l_start ?a_l_draw ?l_l_draw ?c_l_draw ?k_l_draw ?a_l_row ?l_l_row ?c_l_row ?k_l_row ?a_l_place ?l_l_place ?c_l_place ?k_l_place ?a_l_changes ?l_l_changes ?c_l_changes ?k_l_changes ?a_l_due ?l_l_due ?c_l_due ?k_l_due ?a_l_made ?l_l_made ?c_l_made ?k_l_made ?a_l_base_caught ?l_l_base_caught ?c_l_base_caught ?k_l_base_caught ?a_l_asked ?l_l_asked ?c_l_asked ?k_l_asked ?a_l_right ?l_l_right ?c_l_right ?k_l_right ?a_law ?l_law ?c_law ?k_law ?z_ValueError ?z_bool ?z_int ?z_isinstance ?z_len ?z_list ?z_range ?z_sorted ?z_str ?z_tuple ?pg_Edit ?hd_Edit ?po_Edit ?sa_Edit ?na_Edit__placed ?na_Edit_changes ?ca_Edit ?cn_ ?ct_ ?cm_Edit ?qq_Edit_Edit ?qq_tuple_Edit ?mk_Edit ?kc_Edit ?ex_InvalidChange ?ic_InvalidChange ?ty_InvalidChange ?su_InvalidChange_InvalidChange ?ga_InvalidChange ?gg_InvalidChange ?hd_InvalidChange ?na_InvalidChange_change ?su_SamePlace_InvalidChange ?ex_SamePlace ?ic_SamePlace ?ty_SamePlace ?su_SamePlace_SamePlace ?ga_SamePlace ?gg_SamePlace ?hd_SamePlace ?na_SamePlace_place ?ex_ShownError ?ic_ShownError ?ty_ShownError ?su_InvalidChange_ShownError ?ca_InvalidChange ?cm_InvalidChange ?qq_InvalidChange_ValueError ?qq_InvalidChange_Clash ?qq_InvalidChange_NoChange ?su_SamePlace_ShownError ?ca_SamePlace ?cm_SamePlace ?qq_SamePlace_ValueError ?qq_SamePlace_Clash ?qq_SamePlace_NoChange ?qfi_Edit___getitem ?ex_NoChange ?ic_NoChange ?ty_NoChange ?su_NoChange_NoChange ?ga_NoChange ?gg_NoChange ?hd_NoChange ?na_NoChange_place ?qnb_Edit ?qnf_Edit_Edit ?ne_Edit ?qnf_Edit_tuple ?xl_InvalidChange ?rv_InvalidChange ?sa_InvalidChange ?kc_InvalidChange ?a_e_InvalidChange ?l_e_InvalidChange ?c_e_InvalidChange ?k_e_InvalidChange ?tI_InvalidChange ?xl_NoChange ?rv_NoChange ?sa_NoChange ?kc_NoChange ?a_e_NoChange ?l_e_NoChange ?c_e_NoChange ?k_e_NoChange ?tI_NoChange ?xl_SamePlace ?rv_SamePlace ?sa_SamePlace ?kc_SamePlace ?a_e_SamePlace ?l_e_SamePlace ?c_e_SamePlace ?k_e_SamePlace ?tI_SamePlace ?hc_l_due ?hm_l_due ?hh_l_due ?hn_l_due
    (case aC_InvalidChange => first | k_is | rfl)
    (case aC_SamePlace => first | k_is | rfl)
    (case aC_Edit => first | k_is | rfl)
    (case aC_NoChange => first | k_is | rfl)
    (case aC_ShownError => first | k_is | rfl)
    (case aC_Clash => first | k_is | rfl)
    (case a_placed_changes => first | k_is | rfl)
    (case l_placed_changes => first | k_is | rfl)
    (case c_placed_changes => first | k_is | rfl)
    (case k_placed_changes => first | k_is | rfl)
    (case a_Edit___init => first | k_is | rfl)
    (case l_Edit___init => first | k_is | rfl)
    (case c_Edit___init => first | k_is | rfl)
    (case k_Edit___init => first | k_is | rfl)
    (case lT_Edit___init => first | k_is | rfl)
    (case le_Edit___init_0 => first | k_is | rfl)
    (case i_Edit___init => first | k_is | rfl)
    (case a_Edit___contains => first | k_is | rfl)
    (case l_Edit___contains => first | k_is | rfl)
    (case c_Edit___contains => first | k_is | rfl)
    (case k_Edit___contains => first | k_is | rfl)
    (case i_Edit___contains => first | k_is | rfl)
    (case a_Edit___getitem => first | k_is | rfl)
    (case l_Edit___getitem => first | k_is | rfl)
    (case c_Edit___getitem => first | k_is | rfl)
    (case k_Edit___getitem => first | k_is | rfl)
    (case i_Edit___getitem => first | k_is | rfl)
    (case a_Edit___eq => first | k_is | rfl)
    (case l_Edit___eq => first | k_is | rfl)
    (case c_Edit___eq => first | k_is | rfl)
    (case k_Edit___eq => first | k_is | rfl)
    (case i_Edit___eq => first | k_is | rfl)
    (case a_Edit___len => first | k_is | rfl)
    (case l_Edit___len => first | k_is | rfl)
    (case c_Edit___len => first | k_is | rfl)
    (case k_Edit___len => first | k_is | rfl)
    (case i_Edit___len => first | k_is | rfl)
    (case pa_Edit_deletes => first | k_is | rfl)
    (case a_Edit_deletes => first | k_is | rfl)
    (case l_Edit_deletes => first | k_is | rfl)
    (case c_Edit_deletes => first | k_is | rfl)
    (case k_Edit_deletes => first | k_is | rfl)
    (case pg_Edit_deletes => first | k_is | rfl)
    (case pt_Edit_deletes => first | k_is | rfl)
    (case pa_Edit_inserts => first | k_is | rfl)
    (case a_Edit_inserts => first | k_is | rfl)
    (case l_Edit_inserts => first | k_is | rfl)
    (case c_Edit_inserts => first | k_is | rfl)
    (case k_Edit_inserts => first | k_is | rfl)
    (case pg_Edit_inserts => first | k_is | rfl)
    (case pt_Edit_inserts => first | k_is | rfl)
    (case pa_Edit_sets => first | k_is | rfl)
    (case a_Edit_sets => first | k_is | rfl)
    (case l_Edit_sets => first | k_is | rfl)
    (case c_Edit_sets => first | k_is | rfl)
    (case k_Edit_sets => first | k_is | rfl)
    (case pg_Edit_sets => first | k_is | rfl)
    (case pt_Edit_sets => first | k_is | rfl)
    (case a_l_start => first | k_is | rfl)
    (case l_l_start => first | k_is | rfl)
    (case c_l_start => first | k_is | rfl)
    (case k_l_start => first | k_is | rfl)
    (case a_l_draw => first | k_is | rfl)
    (case l_l_draw => first | k_is | rfl)
    (case c_l_draw => first | k_is | rfl)
    (case k_l_draw => first | k_is | rfl)
    (case a_l_row => first | k_is | rfl)
    (case l_l_row => first | k_is | rfl)
    (case c_l_row => first | k_is | rfl)
    (case k_l_row => first | k_is | rfl)
    (case a_l_place => first | k_is | rfl)
    (case l_l_place => first | k_is | rfl)
    (case c_l_place => first | k_is | rfl)
    (case k_l_place => first | k_is | rfl)
    (case a_l_changes => first | k_is | rfl)
    (case l_l_changes => first | k_is | rfl)
    (case c_l_changes => first | k_is | rfl)
    (case k_l_changes => first | k_is | rfl)
    (case a_l_due => first | k_is | rfl)
    (case l_l_due => first | k_is | rfl)
    (case c_l_due => first | k_is | rfl)
    (case k_l_due => first | k_is | rfl)
    (case a_l_made => first | k_is | rfl)
    (case l_l_made => first | k_is | rfl)
    (case c_l_made => first | k_is | rfl)
    (case k_l_made => first | k_is | rfl)
    (case a_l_base_caught => first | k_is | rfl)
    (case l_l_base_caught => first | k_is | rfl)
    (case c_l_base_caught => first | k_is | rfl)
    (case k_l_base_caught => first | k_is | rfl)
    (case a_l_asked => first | k_is | rfl)
    (case l_l_asked => first | k_is | rfl)
    (case c_l_asked => first | k_is | rfl)
    (case k_l_asked => first | k_is | rfl)
    (case a_l_right => first | k_is | rfl)
    (case l_l_right => first | k_is | rfl)
    (case c_l_right => first | k_is | rfl)
    (case k_l_right => first | k_is | rfl)
    (case a_law => first | k_is | rfl)
    (case l_law => first | k_is | rfl)
    (case c_law => first | k_is | rfl)
    (case k_law => first | k_is | rfl)
    (case z_ValueError => first | k_is | rfl)
    (case z_bool => first | k_is | rfl)
    (case z_int => first | k_is | rfl)
    (case z_isinstance => first | k_is | rfl)
    (case z_len => first | k_is | rfl)
    (case z_list => first | k_is | rfl)
    (case z_range => first | k_is | rfl)
    (case z_sorted => first | k_is | rfl)
    (case z_str => first | k_is | rfl)
    (case z_tuple => first | k_is | rfl)
    (case pg_Edit => first | k_is | rfl)
    (case hd_Edit => first | k_is | rfl)
    (case po_Edit => first | k_is | rfl)
    (case sa_Edit => first | k_is | rfl)
    (case na_Edit__placed => first | k_is | rfl)
    (case na_Edit_changes => first | k_is | rfl)
    (case ca_Edit => first | k_is | rfl)
    (case cn_ => first | k_is | rfl)
    (case ct_ => first | k_is | rfl)
    (case cm_Edit => first | k_is | rfl)
    (case qq_Edit_Edit => first | k_is | rfl)
    (case qq_tuple_Edit => first | k_is | rfl)
    (case mk_Edit => first | k_is | rfl)
    (case kc_Edit => first | k_is | rfl)
    (case ex_InvalidChange => first | k_is | rfl)
    (case ic_InvalidChange => first | k_is | rfl)
    (case ty_InvalidChange => first | k_is | rfl)
    (case su_InvalidChange_InvalidChange => first | k_is | rfl)
    (case ga_InvalidChange => first | k_is | rfl)
    (case gg_InvalidChange => first | k_is | rfl)
    (case hd_InvalidChange => first | k_is | rfl)
    (case na_InvalidChange_change => first | k_is | rfl)
    (case su_SamePlace_InvalidChange => first | k_is | rfl)
    (case ex_SamePlace => first | k_is | rfl)
    (case ic_SamePlace => first | k_is | rfl)
    (case ty_SamePlace => first | k_is | rfl)
    (case su_SamePlace_SamePlace => first | k_is | rfl)
    (case ga_SamePlace => first | k_is | rfl)
    (case gg_SamePlace => first | k_is | rfl)
    (case hd_SamePlace => first | k_is | rfl)
    (case na_SamePlace_place => first | k_is | rfl)
    (case ex_ShownError => first | k_is | rfl)
    (case ic_ShownError => first | k_is | rfl)
    (case ty_ShownError => first | k_is | rfl)
    (case su_InvalidChange_ShownError => first | k_is | rfl)
    (case ca_InvalidChange => first | k_is | rfl)
    (case cm_InvalidChange => first | k_is | rfl)
    (case qq_InvalidChange_ValueError => first | k_is | rfl)
    (case qq_InvalidChange_Clash => first | k_is | rfl)
    (case qq_InvalidChange_NoChange => first | k_is | rfl)
    (case su_SamePlace_ShownError => first | k_is | rfl)
    (case ca_SamePlace => first | k_is | rfl)
    (case cm_SamePlace => first | k_is | rfl)
    (case qq_SamePlace_ValueError => first | k_is | rfl)
    (case qq_SamePlace_Clash => first | k_is | rfl)
    (case qq_SamePlace_NoChange => first | k_is | rfl)
    (case qfi_Edit___getitem => first | k_is | rfl)
    (case ex_NoChange => first | k_is | rfl)
    (case ic_NoChange => first | k_is | rfl)
    (case ty_NoChange => first | k_is | rfl)
    (case su_NoChange_NoChange => first | k_is | rfl)
    (case ga_NoChange => first | k_is | rfl)
    (case gg_NoChange => first | k_is | rfl)
    (case hd_NoChange => first | k_is | rfl)
    (case na_NoChange_place => first | k_is | rfl)
    (case qnb_Edit => first | k_is | rfl)
    (case qnf_Edit_Edit => first | k_is | rfl)
    (case ne_Edit => first | k_is | rfl)
    (case qnf_Edit_tuple => first | k_is | rfl)
    (case xl_InvalidChange => first | k_is | rfl)
    (case rv_InvalidChange => first | k_is | rfl)
    (case sa_InvalidChange => first | k_is | rfl)
    (case kc_InvalidChange => first | k_is | rfl)
    (case a_e_InvalidChange => first | k_is | rfl)
    (case l_e_InvalidChange => first | k_is | rfl)
    (case c_e_InvalidChange => first | k_is | rfl)
    (case k_e_InvalidChange => first | k_is | rfl)
    (case tI_InvalidChange => first | k_is | rfl)
    (case xl_NoChange => first | k_is | rfl)
    (case rv_NoChange => first | k_is | rfl)
    (case sa_NoChange => first | k_is | rfl)
    (case kc_NoChange => first | k_is | rfl)
    (case a_e_NoChange => first | k_is | rfl)
    (case l_e_NoChange => first | k_is | rfl)
    (case c_e_NoChange => first | k_is | rfl)
    (case k_e_NoChange => first | k_is | rfl)
    (case tI_NoChange => first | k_is | rfl)
    (case xl_SamePlace => first | k_is | rfl)
    (case rv_SamePlace => first | k_is | rfl)
    (case sa_SamePlace => first | k_is | rfl)
    (case kc_SamePlace => first | k_is | rfl)
    (case a_e_SamePlace => first | k_is | rfl)
    (case l_e_SamePlace => first | k_is | rfl)
    (case c_e_SamePlace => first | k_is | rfl)
    (case k_e_SamePlace => first | k_is | rfl)
    (case tI_SamePlace => first | k_is | rfl)
    (case hc_l_due => first | k_is | rfl)
    (case hm_l_due => first | exact List.mem_singleton.mpr rfl | k_is | rfl)
    (case hh_l_due => first | k_is | rfl)
    (case hn_l_due => first | k_is | rfl)

