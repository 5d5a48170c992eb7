import PyProof.Rows.All
import Wide.All
import OpenK.AllK
import Wide.FinOn
import HandS.ForMost
import HandS.ForExc
import HandS.Lambda
import HandS.Wide
import HandS.Codes
import HandS.Conv
import HandS.Steps
import HandS.Evl
import HandS.ExcInit
import HandS.ExcField
import HandS.TryOnly
import HandS.Strs
import HandS.ExcOwn
import HandS.WordsExc
import HandS.IsInst
import HandS.Zip
import HandS.SlotsOwn
import HandS.SetFor
import HandS.ClsMeth
import HandS.DictComp
import HandS.Defaults
import HandS.ExcIs
import KE.KExcIs
import HandS.Text
import PyProof.LongRange
import HandS.SortKw
import KE.DatumOrd
import HandS.MakeKwOnly
import HandS.MakeKw
import PyProof.Conv_bool
import HandS.Star
import HandS.FStr
import KE.KCallOwn
import HandS.Style
import HandS.SortInts
import PyProof.InstNe
import HandS.More
import KE.GoesMore
import KE.KeyNested
import KE.KDictKeyed
import HandS.Iter
import HandS.TupSets
import KE.LtSeq
import HandS.Deep
import HandS.TupAny
import KE.KOpsOwn
import HandS.Property
import HandS.TryMany
import HandS.Records
import HandS.Flow
import HandS.CallSlots
import KE.SortKeyHeap
import HandS.EndTab
import KE.KNestM
import PySem.Challenge.RW_shownwrites_k06_region_members
set_option Elab.async false
set_option autoImplicit false
set_option linter.all false
set_option maxRecDepth 100000
set_option maxHeartbeats 4000000
/-! # G: what stands for what; frames; what an expression gives -/
namespace G
open PySem PySem.Spec PyProof.Rows L2

/-- a value and the datum it stands for, over a heap that only grows -/
structure Rp (α : Type) where
  rel : Hp → V → α → Prop
  mono : ∀ {H H' : Hp} {v : V} {a : α}, Same H H' → rel H v a → rel H' v a
/-- an object and the datum it stands for -/
structure Cl (α : Type) where
  ok : Hp → HO → α → Prop
  mono : ∀ {H H' : Hp} {o : HO} {a : α}, Same H H' → ok H o a → ok H' o a
/-- a row of values -/
structure Rw (α : Type) where
  rel : Hp → List V → α → Prop
  mono : ∀ {H H' : Hp} {vs : List V} {a : α}, Same H H' → rel H vs a → rel H' vs a

def rInt : Rp Int := ⟨fun _ v i => v = .int i, fun _ h => h⟩
def rBool : Rp Bool := ⟨fun _ v b => v = .bl b, fun _ h => h⟩
def rStr : Rp Str := ⟨fun _ v z => v = .str z, fun _ h => h⟩
def rNon : Rp Unit := ⟨fun _ v _ => v = .non, fun _ h => h⟩
def rOpt {α : Type} (r : Rp α) : Rp (Option α) := ⟨fun H v o => match o with
  | none => v = .non
  | some a => r.rel H v a ∧ v ≠ .non, fun {H H' v o} s h => by
    cases o with
    | none => exact h
    | some a => exact ⟨r.mono s h.1, h.2⟩⟩
def rOb {α : Type} (c : Cl α) : Rp α := ⟨fun H v a => ∃ p o, v = .ref p ∧ H p = some o ∧ c.ok H o a, fun s ⟨p, o, e, h, k⟩ => ⟨p, o, e, s p o h, c.mono s k⟩⟩
theorem Paired.monoR {α : Type} {r : Rp α} {H H' : Hp} (s : Same H H') : ∀ {vs : List V} {xs : List α}, Paired (r.rel H) vs xs → Paired (r.rel H') vs xs
  | _, _, .nil => .nil
  | _, _, .cons h t => .cons (r.mono s h) (Paired.monoR s t)
def cLst {α : Type} (r : Rp α) : Cl (List α) := ⟨fun H o xs => ∃ vs, o = .lst vs ∧ Paired (r.rel H) vs xs, fun s ⟨vs, e, h⟩ => ⟨vs, e, Paired.monoR s h⟩⟩
def cTpl {α : Type} (r : Rp α) : Cl (List α) := ⟨fun H o xs => ∃ vs, o = .tup vs ∧ Paired (r.rel H) vs xs, fun s ⟨vs, e, h⟩ => ⟨vs, e, Paired.monoR s h⟩⟩
def cTup {α : Type} (w : Rw α) : Cl α := ⟨fun H o a => ∃ vs, o = .tup vs ∧ w.rel H vs a, fun s ⟨vs, e, h⟩ => ⟨vs, e, w.mono s h⟩⟩
def cHls {α : Type} (w : Rw α) : Cl α := ⟨fun H o a => ∃ vs, o = .lst vs ∧ w.rel H vs a, fun s ⟨vs, e, h⟩ => ⟨vs, e, w.mono s h⟩⟩
def rLst {α : Type} (r : Rp α) : Rp (List α) := rOb (cLst r)
def rTpl {α : Type} (r : Rp α) : Rp (List α) := rOb (cTpl r)
def rTup {α : Type} (w : Rw α) : Rp α := rOb (cTup w)
def rHls {α : Type} (w : Rw α) : Rp α := rOb (cHls w)
def w0 : Rw Unit := ⟨fun _ vs _ => vs = [], fun _ h => h⟩
def w1 {α : Type} (r : Rp α) : Rw α := ⟨fun H vs a => ∃ v, vs = [v] ∧ r.rel H v a, fun s ⟨v, e, h⟩ => ⟨v, e, r.mono s h⟩⟩
def wC {α β : Type} (r : Rp α) (w : Rw β) : Rw (α × β) := ⟨fun H vs a => ∃ v t, vs = v :: t ∧ r.rel H v a.1 ∧ w.rel H t a.2, fun s ⟨v, t, e, h, k⟩ => ⟨v, t, e, r.mono s h, w.mono s k⟩⟩

/-- a value that stands for a datum and owns objects of its own -/
structure Tr (α : Type) where
  ok : Hp → Hp → (Addr → Prop) → V → α → Prop
  mono : ∀ {B B' H H' : Hp} {o o' : Addr → Prop} {v : V} {a : α}, Same B B' → (∀ p u, o p → H p = some u → H' p = some u) → (∀ p, o p → o' p) → ok B H o v a → ok B' H' o' v a
/-- what a slot holds: nothing that is known; a value; a list (dict ..) of the frame's own, at an address, that may change; a value with objects of the frame's own -/
inductive Sl : Type 1 where
  | no
  | imm {α : Type} (r : Rp α) (a : α)
  | cel {α : Type} (p : Addr) (c : Cl α) (a : α)
  | tre {α : Type} (v : V) (c : Tr α) (a : α)

/-- where a def began: what stood, what stood and was known to be fixed, what it may change -/
structure Amb where
  B0 : Hp
  H0 : Hp
  m : Addr → Prop
  φ : Hp → Prop
  up : ∀ B B', Same B B' → φ B → φ B'
def Amb.add (A : Amb) (p : Addr) (o : HO) : Amb := ⟨A.B0, upd A.H0 p o, A.m, A.φ, A.up⟩
/-- the tables of code objects: where they stand, and the name that their code objects bear -/
class TabL where
  T : List (Addr × Str)
section
variable [TabL]
def isTab (p : Addr) : Prop := ∃ q, (p, q) ∈ TabL.T
structure TabOk (H B : Hp) : Prop where
  at_ : ∀ p q, (p, q) ∈ TabL.T → ∃ ps : Array Value, H p = some (.tbl ps) ∧ TriplesOk ps.toList ∧ ∀ (pos : Pos) (cv : Value), codeAmong pos ps.toList = some cv → ∃ c, cv = .ref c ∧ B c = some (LamX.CodeO c q)
  no : ∀ p, isTab p → B p = none
theorem TabOk.ne {H B : Hp} {p : Addr} (t : TabOk H B) (h : H p = none) : ¬ isTab p := fun ⟨q, m⟩ => by
  obtain ⟨ps, e, _⟩ := t.at_ p q m
  rw [h] at e; cases e
theorem TabOk.nt {H B : Hp} {p : Addr} {o : HO} (t : TabOk H B) (h : H p = some o) (ho : ∀ ps, o ≠ .tbl ps) : ¬ isTab p := fun ⟨q, m⟩ => by
  obtain ⟨ps, e, _⟩ := t.at_ p q m
  rw [h] at e; exact ho _ (Option.some.inj e)
theorem TabOk.nb {H B : Hp} {p : Addr} {o : HO} (t : TabOk H B) (h : B p = some o) : ¬ isTab p := fun m => by
  rw [t.no p m] at h; cases h
theorem TabOk.to {H H' B B' : Hp} (t : TabOk H B) (h : ∀ p, isTab p → H' p = H p) (b : Same B B') (n : ∀ p, isTab p → B' p = none) : TabOk H' B' := ⟨fun p q m => by
  obtain ⟨ps, e, k, z⟩ := t.at_ p q m
  exact ⟨ps, by rw [h p ⟨q, m⟩]; exact e, k, fun pos cv hc => by
    obtain ⟨c, e1, e2⟩ := z pos cv hc
    exact ⟨c, e1, b c _ e2⟩⟩, n⟩
theorem TabOk.fix {H B : Hp} {p : Addr} {o : HO} (t : TabOk H B) (bb : Same B (L2.upd B p o)) (h : ¬ isTab p) : TabOk H (L2.upd B p o) := t.to (fun _ _ => rfl) bb fun q m => by rw [upd_ne (show q ≠ p from fun z => h (by rw [← z]; exact m))]; exact t.no q m
theorem TabOk.upd {H B : Hp} {p : Addr} {o : HO} (t : TabOk H B) (h : ¬ isTab p) : TabOk (upd H p o) B := t.to (fun q m => by rw [upd_ne (show q ≠ p from fun z => h (by rw [← z]; exact m))]) (fun _ _ e => e) t.no
end
/-- no object is too large -/
def szO : HO → Prop
  | .lst xs => xs.length ≤ sizeLine
  | .tup xs => xs.length ≤ sizeLine
  | .dK kvs => kvs.length ≤ sizeLine
  | .dT kvs => kvs.length ≤ sizeLine
  | _ => True
def Sz (H : Hp) : Prop := ∀ p o, H p = some o → szO o
theorem Sz.upd {H : Hp} {p : Addr} {o : HO} (h : Sz H) (ho : szO o) : Sz (upd H p o) := fun q u e => by
  by_cases hq : q = p
  · subst hq; rw [upd_same] at e; cases e; exact ho
  · rw [upd_ne hq] at e; exact h q u e

/-- what a slot knows; o: what it may own -/
def SlO (σ : L2.St) (H B : Hp) (o : Addr → Prop) (i : Nat) : Sl → Prop
  | .no => True
  | .imm r a => ∃ v, σ[i]? = some (some v) ∧ r.rel B v a
  | .cel p c a => σ[i]? = some (some (V.ref p)) ∧ o p ∧ ∃ u, H p = some u ∧ c.ok B u a
  | .tre v c a => σ[i]? = some (some v) ∧ c.ok B H o v a
/-- an object that may change -/
def Hot (A : Amb) (H B : Hp) (p : Addr) : Prop := B p = none ∧ H p ≠ none ∧ (A.H0 p = none ∨ A.m p)
def SlOk (A : Amb) (σ : L2.St) (H B : Hp) (i : Nat) : Sl → Prop
  | .no => True
  | .imm r a => ∃ v, σ[i]? = some (some v) ∧ r.rel B v a
  | .cel p c a => σ[i]? = some (some (V.ref p)) ∧ B p = none ∧ (A.H0 p = none ∨ A.m p) ∧ ∃ o, H p = some o ∧ c.ok B o a
  | .tre v c a => σ[i]? = some (some v) ∧ ∃ o : Addr → Prop, (∀ p, o p → Hot A H B p) ∧ c.ok B H o v a
def celAt : Sl → Option Addr
  | .cel p _ _ => some p
  | _ => none
/-- owns nothing -/
def plain : Sl → Prop
  | .no => True
  | .imm _ _ => True
  | _ => False

/-- what may change stands, and is no table; the tables stand -/
structure MH [TabL] (A : Amb) : Prop where
  al : ∀ p, A.m p → A.H0 p ≠ none
  nt : ∀ p, A.m p → ¬ isTab p
  tb : ∀ p, isTab p → A.H0 p ≠ none
/-- what has come since the beginning -/
structure Post [TabL] (A : Amb) (H B : Hp) : Prop where
  bh : Same B H
  b0 : Same A.B0 B
  keep : ∀ p o, ¬ A.m p → ¬ isTab p → A.H0 p = some o → H p = some o
  out : ∀ p, A.H0 p ≠ none → A.B0 p = none → B p = none
  alive : ∀ p, A.H0 p ≠ none → H p ≠ none
  sub : Same A.B0 A.H0
  mh : MH A
  ph : A.φ B
  sz : Sz H
  tb : TabOk H B

/-- who owns what -/
structure Own (A : Amb) (σ : L2.St) (H B : Hp) (Γ : List Sl) (ow : Nat → Addr → Prop) : Prop where
  so : ∀ (i : Nat) (s : Sl), Γ[i]? = some s → SlO σ H B (ow i) i s
  dj : ∀ (i j : Nat) (p : Addr), ow i p → ow j p → i = j
  ht : ∀ (i : Nat) (p : Addr), ow i p → Hot A H B p
structure Frm [TabL] (A : Amb) (σ : L2.St) (H B : Hp) (Γ : List Sl) : Prop extends Post A H B where
  len : σ.length = Γ.length
  own : ∃ ow, Own A σ H B Γ ow

theorem slo_mono {σ σ' : L2.St} {H H' B B' : Hp} {o o' : Addr → Prop} {i : Nat} {s : Sl} (h : SlO σ H B o i s) (e : σ[i]? = σ'[i]?) (b : Same B B') (k : ∀ p u, o p → H p = some u → H' p = some u) (n : ∀ p, o p → o' p) : SlO σ' H' B' o' i s := by
  cases s with
  | no => trivial
  | imm r a => obtain ⟨v, e1, q⟩ := h; exact ⟨v, by rw [← e]; exact e1, r.mono b q⟩
  | cel p c a => obtain ⟨e1, op, u, hu, q⟩ := h; exact ⟨by rw [← e]; exact e1, n p op, u, k p u op hu, c.mono b q⟩
  | tre v c a => obtain ⟨e1, q⟩ := h; exact ⟨by rw [← e]; exact e1, c.mono b k n q⟩
theorem getset {α : Type _} {l : List α} {i j : Nat} {x y : α} (h : (l.set i x)[j]? = some y) : (i = j ∧ y = x ∧ j < l.length) ∨ (i ≠ j ∧ l[j]? = some y) := by
  by_cases e : i = j
  · subst e
    rw [List.getElem?_set] at h
    simp only [if_true] at h
    split at h
    · rename_i hl; cases h; exact .inl ⟨rfl, rfl, hl⟩
    · cases h
  · rw [List.getElem?_set_ne e] at h; exact .inr ⟨e, h⟩
section
variable [TabL]
variable {A A' : Amb} {σ σ' : L2.St} {H H' B B' : Hp} {Γ : List Sl} {p : Addr} {o : HO}
theorem Hot.nt {H B : Hp} (h : Hot A H B p) (m : MH A) : ¬ isTab p := fun z => by
  rcases h.2.2 with q | q
  · exact m.tb p z q
  · exact m.nt p q z
theorem Frm.post (F : Frm A σ H B Γ) : Post A H B := F.toPost
theorem Frm.sl (F : Frm A σ H B Γ) (i : Nat) (s : Sl) (e : Γ[i]? = some s) : SlOk A σ H B i s := by
  obtain ⟨ow, W⟩ := F.own
  have h := W.so i s e
  cases s with
  | no => trivial
  | imm r a => exact h
  | cel p c a => obtain ⟨e1, op, k⟩ := h; exact ⟨e1, (W.ht i p op).1, (W.ht i p op).2.2, k⟩
  | tre v c a => exact ⟨h.1, ow i, fun p q => W.ht i p q, h.2⟩
theorem Frm.hot (F : Frm A σ H B Γ) {i : Nat} {s : Sl} (e : Γ[i]? = some s) {p : Addr} (hp : celAt s = some p) : B p = none ∧ H p ≠ none ∧ (A.H0 p = none ∨ A.m p) := by
  have h := F.sl i s e
  cases s with
  | no => cases hp
  | imm r a => cases hp
  | tre v c a => cases hp
  | cel q c a =>
    cases hp
    obtain ⟨_, n, m, o, ho, _⟩ := h
    exact ⟨n, by rw [ho]; simp, m⟩
theorem Own.cel {ow : Nat → Addr → Prop} (W : Own A σ H B Γ ow) {i : Nat} (e : (Γ[i]?.bind celAt) = some p) : ow i p := by
  cases q : Γ[i]? with
  | none => rw [q] at e; cases e
  | some s =>
    rw [q] at e
    have h := W.so i s q
    cases s with
    | no => cases e
    | imm r a => cases e
    | tre v c a => cases e
    | cel q c a => cases e; exact h.2.1
theorem Frm.ds (F : Frm A σ H B Γ) (i j : Nat) (p : Addr) (ei : (Γ[i]?.bind celAt) = some p) (ej : (Γ[j]?.bind celAt) = some p) : i = j := by
  obtain ⟨ow, W⟩ := F.own
  exact W.dj i j p (W.cel ei) (W.cel ej)
/-- the heap moves on, what is owned stays -/
theorem Frm.move (F : Frm A σ H B Γ) (P : Post A' H' B') (bb : Same B B') (k : ∀ p, Hot A H B p → B' p = none ∧ (A'.H0 p = none ∨ A'.m p) ∧ ∀ u, H p = some u → H' p = some u) : Frm A' σ H' B' Γ := by
  obtain ⟨ow, W⟩ := F.own
  refine ⟨P, F.len, ow, fun i s e => slo_mono (W.so i s e) rfl bb (fun q u oq => (k q (W.ht i q oq)).2.2 u) fun _ z => z, W.dj, fun i q oq => ?_⟩
  have h := W.ht i q oq
  have g := k q h
  refine ⟨g.1, fun z => ?_, g.2.1⟩
  cases e : H q with
  | none => exact h.2.1 e
  | some u => rw [g.2.2 u e] at z; cases z
/-- a slot is stored anew, it owns nothing new -/
theorem Frm.put {i : Nat} {s' : Sl} (F : Frm A σ H B Γ) (hl : σ'.length = σ.length) (e : ∀ j, i ≠ j → σ[j]? = σ'[j]?) (h : ∀ o, i < Γ.length → (∀ s, Γ[i]? = some s → SlO σ H B o i s) → SlO σ' H B o i s') : Frm A σ' H B (Γ.set i s') := by
  obtain ⟨ow, W⟩ := F.own
  refine ⟨F.post, by rw [List.length_set, hl]; exact F.len, ow, fun j s ej => ?_, W.dj, W.ht⟩
  rcases getset ej with ⟨rfl, rfl, hl⟩ | ⟨ne, ej⟩
  · exact h (ow i) hl fun s es => W.so i s es
  · exact slo_mono (W.so j s ej) (e j ne) (Same.refl _) (fun _ _ _ z => z) fun _ z => z
/-- what a slot owns is changed, and it may own more -/
theorem Frm.chg {i : Nat} {s s' : Sl} (F : Frm A σ H B Γ) (e : Γ[i]? = some s) (P : Post A H' B') (bb : Same B B')
    (k : ∀ o : Addr → Prop, (∀ p, o p → Hot A H B p) → SlO σ H B o i s → ∃ o' : Addr → Prop, (∀ q, o' q → o q ∨ ¬ Hot A H B q) ∧ (∀ q, o' q → Hot A H' B' q) ∧ (∀ q, Hot A H B q → ¬ o q → B' q = none ∧ ∀ u, H q = some u → H' q = some u) ∧ SlO σ H' B' o' i s') : Frm A σ H' B' (Γ.set i s') := by
  obtain ⟨ow, W⟩ := F.own
  obtain ⟨o', k1, k2, k3, k4⟩ := k (ow i) (fun q => W.ht i q) (W.so i s e)
  have nq : ∀ j q, i ≠ j → ow j q → ¬ ow i q := fun j q ne h z => ne (W.dj i j q z h)
  refine ⟨P, by rw [List.length_set]; exact F.len, fun j => if j = i then o' else ow j, fun j s ej => ?_, fun j l q hj hl => ?_, fun j q hj => ?_⟩
  · rcases getset ej with ⟨rfl, rfl, _⟩ | ⟨ne, ej⟩
    · rw [if_pos rfl]; exact k4
    · rw [if_neg (Ne.symm ne)]
      exact slo_mono (W.so j s ej) rfl bb (fun q u oq => (k3 q (W.ht j q oq) (nq j q ne oq)).2 u) fun _ z => z
  · by_cases h1 : j = i
    · by_cases h2 : l = i
      · rw [h1, h2]
      · rw [if_pos h1] at hj; rw [if_neg h2] at hl
        rcases k1 q hj with h | h
        · exact absurd h (nq l q (Ne.symm h2) hl)
        · exact absurd (W.ht l q hl) h
    · by_cases h2 : l = i
      · rw [if_neg h1] at hj; rw [if_pos h2] at hl
        rcases k1 q hl with h | h
        · exact absurd h (nq j q (Ne.symm h1) hj)
        · exact absurd (W.ht j q hj) h
      · rw [if_neg h1] at hj; rw [if_neg h2] at hl; exact W.dj j l q hj hl
  · by_cases h1 : j = i
    · rw [if_pos h1] at hj; exact k2 q hj
    · rw [if_neg h1] at hj
      have h := W.ht j q hj
      have g := k3 q h (nq j q (Ne.symm h1) hj)
      refine ⟨g.1, fun z => ?_, h.2.2⟩
      cases e : H q with
      | none => exact h.2.1 e
      | some u => rw [g.2 u e] at z; cases z
theorem set_same {α : Type _} {l : List α} {i : Nat} {x : α} (h : l[i]? = some x) : l.set i x = l := by
  obtain ⟨hi, q⟩ := List.getElem?_eq_some_iff.mp h
  rw [← q, List.set_getElem_self]
/-- a new object beside what is known -/
theorem Frm.fresh (F : Frm A σ H B Γ) (hp : H p = none) (ho : szO o) : Frm (A.add p o) σ (upd H p o) B Γ := by
  refine F.move ?_ (Same.refl _) fun q h => ?_
  · refine ⟨fun b u e => ?_, F.b0, fun b u m nt e => ?_, fun b n z => ?_, fun b n => ?_, fun b u e => ?_, ⟨fun b m => ?_, F.mh.nt, fun b m => ?_⟩, F.ph, F.sz.upd ho, F.tb.upd (F.tb.ne hp)⟩
    · rw [upd_ne (ne_of_none (F.bh b u e) hp)]; exact F.bh b u e
    · by_cases hb : b = p
      · subst hb
        have e' : upd A.H0 b o b = some u := e
        rw [upd_same] at e'; rw [upd_same]; exact e'
      · have e' : upd A.H0 p o b = some u := e
        rw [upd_ne hb] at e'; rw [upd_ne hb]; exact F.keep b u m nt e'
    · by_cases hb : b = p
      · subst hb
        cases q : B b with
        | none => rfl
        | some u => have := F.bh b u q; rw [hp] at this; cases this
      · have n' : upd A.H0 p o b ≠ none := n
        rw [upd_ne hb] at n'
        exact F.out b n' z
    · by_cases hb : b = p
      · subst hb; rw [upd_same]; simp
      · have n' : upd A.H0 p o b ≠ none := n
        rw [upd_ne hb] at n'; rw [upd_ne hb]; exact F.alive b n'
    · have z := F.sub b u e
      have hb : b ≠ p := fun q => by
        subst q
        exact F.alive b (by rw [z]; simp) hp
      show upd A.H0 p o b = some u
      rw [upd_ne hb]; exact z
    · by_cases hb : b = p
      · subst hb; show upd A.H0 b o b ≠ none; rw [upd_same]; simp
      · show upd A.H0 p o b ≠ none; rw [upd_ne hb]; exact F.mh.al b m
    · by_cases hb : b = p
      · subst hb; show upd A.H0 b o b ≠ none; rw [upd_same]; simp
      · show upd A.H0 p o b ≠ none; rw [upd_ne hb]; exact F.mh.tb b m
  · have hq : q ≠ p := fun z => h.2.1 (by rw [z]; exact hp)
    refine ⟨h.1, ?_, fun u e => by rw [upd_ne hq]; exact e⟩
    rcases h.2.2 with m | m
    · exact .inl (by show upd A.H0 p o q = none; rw [upd_ne hq]; exact m)
    · exact .inr m
theorem Frm.H0none (F : Frm A σ H B Γ) (hp : H p = none) : A.H0 p = none := by
  cases q : A.H0 p with
  | none => rfl
  | some u => exact absurd hp (F.alive p (by rw [q]; simp))
theorem Frm.hid (F : Frm (A.add p o) σ H B Γ) (h0 : A.H0 p = none) (mh : MH A) : H p = some o := F.keep p o (fun m => mh.al p m h0) (fun m => mh.tb p m h0) upd_same
theorem Hot.ne {q : Addr} (h : Hot (A.add p o) H B q) (hm : ¬ A.m p) : q ≠ p := fun z => by
  rcases h.2.2 with m | m
  · have m' : upd A.H0 p o q = none := m
    rw [z, upd_same] at m'; cases m'
  · rw [z] at m; exact hm m
theorem Hot.base {q : Addr} (h : Hot (A.add p o) H B q) (h0 : A.H0 p = none) : A.H0 q = none ∨ A.m q := by
  rcases h.2.2 with m | m
  · by_cases hq : q = p
    · exact .inl (by rw [hq]; exact h0)
    · have m' : upd A.H0 p o q = none := m
      rw [upd_ne hq] at m'
      exact .inl m'
  · exact .inr m
/-- the hidden object is forgotten -/
theorem Frm.drop (F : Frm (A.add p o) σ H B Γ) (h0 : A.H0 p = none) (sub : Same A.B0 A.H0) (mh : MH A) : Frm A σ H B Γ := by
  refine F.move ?_ (Same.refl _) fun q h => ⟨h.1, h.base h0, fun _ e => e⟩
  exact ⟨F.bh, F.b0, fun b u m nt e => F.keep b u m nt (by show upd A.H0 p o b = some u; rw [upd_ne (ne_of_none e h0)]; exact e), fun b n z => F.out b (by
    have hb : b ≠ p := fun q => n (by rw [q]; exact h0)
    show upd A.H0 p o b ≠ none; rw [upd_ne hb]; exact n) z, fun b n => F.alive b (by
    have hb : b ≠ p := fun q => n (by rw [q]; exact h0)
    show upd A.H0 p o b ≠ none; rw [upd_ne hb]; exact n), sub, mh, F.ph, F.sz, F.tb⟩
theorem Frm.hidB (F : Frm (A.add p o) σ H B Γ) (h0 : A.H0 p = none) (sub : Same A.B0 A.H0) : B p = none := F.out p (by show upd A.H0 p o p ≠ none; rw [upd_same]; simp) (by
    cases q : A.B0 p with
    | none => exact q
    | some u => exact (absurd (sub p u q) (by rw [h0]; simp)))
/-- the hidden object is among what is fixed -/
theorem Frm.adopt (F : Frm (A.add p o) σ H B Γ) (h0 : A.H0 p = none) (sub : Same A.B0 A.H0) (mh : MH A) : Frm A σ H (upd B p o) Γ := by
  have hm : ¬ A.m p := fun m => mh.al p m h0
  have hHp := F.hid h0 mh
  have hBp : B p = none := F.hidB h0 sub
  have D := (F.drop h0 sub mh).post
  have bb : Same B (upd B p o) := fun b u e => by rw [upd_ne (ne_of_none e hBp)]; exact e
  refine F.move ?_ bb fun q h => ⟨by rw [upd_ne (h.ne hm)]; exact h.1, h.base h0, fun _ e => e⟩
  refine ⟨fun b u e => ?_, fun b u e => bb b u (D.b0 b u e), D.keep, fun b n z => ?_, D.alive, sub, mh, A.up _ _ bb D.ph, D.sz, D.tb.to (fun _ _ => rfl) bb fun q m => by rw [upd_ne (show q ≠ p from fun z => mh.tb q m (by rw [z]; exact h0))]; exact D.tb.no q m⟩
  · by_cases hb : b = p
    · subst hb; rw [upd_same] at e; cases e; exact hHp
    · rw [upd_ne hb] at e; exact D.bh b u e
  · have hb : b ≠ p := fun q => n (by rw [q]; exact h0)
    rw [upd_ne hb]; exact D.out b n z
/-- a slot is stored -/
theorem Frm.set {α : Type} {r : Rp α} {a : α} {v : V} {i : Nat} (F : Frm A σ H B Γ) (h : r.rel B v a) : Frm A (σ.set i (some v)) H B (Γ.set i (.imm r a)) :=
  F.put (List.length_set) (fun j ne => by rw [List.getElem?_set_ne ne]) fun o hl _ => ⟨v, by rw [List.getElem?_set_self (by rw [F.len]; exact hl)], h⟩
/-- new objects are the frame's own, at a slot -/
theorem Frm.owns {i : Nat} {s : Sl} {v : V} (F : Frm A σ H B Γ) (n : Addr → Prop) (P : Post A' H B) (hn : ∀ q, n q → Hot A' H B q ∧ ¬ Hot A H B q) (hh : ∀ q, Hot A H B q → A'.H0 q = none ∨ A'.m q) (k : i < Γ.length → SlO (σ.set i (some v)) H B n i s) : Frm A' (σ.set i (some v)) H B (Γ.set i s) := by
  obtain ⟨ow, W⟩ := F.own
  refine ⟨P, by rw [List.length_set, List.length_set]; exact F.len, fun j => if j = i then n else ow j, fun j s ej => ?_, fun j l q hj hl => ?_, fun j q hj => ?_⟩
  · rcases getset ej with ⟨rfl, rfl, hl⟩ | ⟨ne, ej⟩
    · rw [if_pos rfl]; exact k hl
    · rw [if_neg (Ne.symm ne)]
      exact slo_mono (W.so j s ej) (by rw [List.getElem?_set_ne ne]) (Same.refl _) (fun _ _ _ z => z) fun _ z => z
  · by_cases h1 : j = i
    · by_cases h2 : l = i
      · rw [h1, h2]
      · rw [if_pos h1] at hj; rw [if_neg h2] at hl
        exact absurd (W.ht l q hl) (hn q hj).2
    · by_cases h2 : l = i
      · rw [if_neg h1] at hj; rw [if_pos h2] at hl
        exact absurd (W.ht j q hj) (hn q hl).2
      · rw [if_neg h1] at hj; rw [if_neg h2] at hl; exact W.dj j l q hj hl
  · by_cases h1 : j = i
    · rw [if_pos h1] at hj; exact (hn q hj).1
    · rw [if_neg h1] at hj
      have h := W.ht j q hj
      exact ⟨h.1, h.2.1, hh q h⟩
/-- the hidden object is the frame's own, at a slot -/
theorem Frm.own1 {α : Type} {c : Cl α} {a : α} {i : Nat} (F : Frm (A.add p o) σ H B Γ) (h0 : A.H0 p = none) (sub : Same A.B0 A.H0) (mh : MH A) (k : c.ok B o a) : Frm A (σ.set i (some (.ref p))) H B (Γ.set i (.cel p c a)) := by
  have hm : ¬ A.m p := fun m => mh.al p m h0
  have hHp := F.hid h0 mh
  have hBp : B p = none := F.hidB h0 sub
  refine F.owns (fun q => q = p) (F.drop h0 sub mh).post (fun q e => ?_) (fun q h => h.base h0) fun hl => ⟨by rw [List.getElem?_set_self (by rw [F.len]; exact hl)], rfl, o, hHp, k⟩
  subst e
  exact ⟨⟨hBp, by rw [hHp]; simp, .inl h0⟩, fun h => h.ne hm rfl⟩
/-- what is not known of a slot any more -/
theorem Frm.forget (F : Frm A σ H B Γ) (i : Nat) : Frm A σ H B (Γ.set i .no) := F.put rfl (fun _ _ => rfl) fun _ _ _ => trivial
/-- the frame's own object at a slot is changed -/
theorem Frm.write {α β : Type} {c : Cl α} {c' : Cl β} {a : α} {a' : β} {i : Nat} {o' : HO} (F : Frm A σ H B Γ) (e : Γ[i]? = some (.cel p c a)) (k : c'.ok B o' a') (ho : szO o') : Frm A σ (upd H p o') B (Γ.set i (.cel p c' a')) := by
  obtain ⟨e1, n, m, _⟩ := F.sl i _ e
  refine F.chg e ⟨fun b u q => ?_, F.b0, fun b u nm nt q => ?_, F.out, fun b n => ?_, F.sub, F.mh, F.ph, F.sz.upd ho, F.tb.upd (Hot.nt (F.hot e rfl) F.mh)⟩ (Same.refl _) fun ow hh so => ⟨ow, fun q z => .inl z, fun q z => ?_, fun q h nq => ⟨h.1, fun u hu => ?_⟩, e1, so.2.1, o', upd_same, k⟩
  · have hb : b ≠ p := fun z => by rw [z, n] at q; cases q
    rw [upd_ne hb]; exact F.bh b u q
  · have hb : b ≠ p := fun z => by
      rcases m with m | m
      · rw [z, m] at q; cases q
      · rw [z] at nm; exact nm m
    rw [upd_ne hb]; exact F.keep b u nm nt q
  · by_cases hb : b = p
    · rw [hb, upd_same]; simp
    · rw [upd_ne hb]; exact F.alive b n
  · have h := hh q z
    refine ⟨h.1, ?_, h.2.2⟩
    by_cases hb : q = p
    · rw [hb, upd_same]; simp
    · rw [upd_ne hb]; exact h.2.1
  · have hq : q ≠ p := fun z => nq (by rw [z]; exact so.2.1)
    rw [upd_ne hq]; exact hu
end
/-- sizes and tables -/
structure SzT [TabL] (H B : Hp) : Prop where
  sz : Sz H
  tb : TabOk H B
theorem Post.szt [TabL] {A : Amb} {H B : Hp} (F : Post A H B) : SzT H B := ⟨F.sz, F.tb⟩
theorem Frm.szt [TabL] {A : Amb} {σ : L2.St} {H B : Hp} {Γ : List Sl} (F : Frm A σ H B Γ) : SzT H B := ⟨F.sz, F.tb⟩
end G

set_option maxHeartbeats 4000000
/-! # G: what an expression gives -/
namespace G
variable [TabL]
open PySem PySem.Spec PyProof.Rows L2

/-- from what is known at Γ the expression gives the datum a, and leaves what is known at Γ' -/
def EvX {α : Type} (r : Rp α) (t : TE) (Γ Γ' : List Sl) (a : α) : Prop := ∀ (A : Amb) (σ : L2.St) (H B : Hp), Frm A σ H B Γ → ∀ Q : VK, (∀ v H' B', Frm A σ H' B' Γ' → Same B B' → r.rel B' v a → Q v H') → t σ H Q
def EvT (t : TT) (Γ Γ' : List Sl) (b : Bool) : Prop := ∀ (A : Amb) (σ : L2.St) (H B : Hp), Frm A σ H B Γ → ∀ Q : Bool → Hp → Prop, (∀ H' B', Frm A σ H' B' Γ' → Same B B' → Q b H') → t σ H Q
def EvW {α : Type} (w : Rw α) (t : TA) (Γ Γ' : List Sl) (a : α) : Prop := ∀ (A : Amb) (σ : L2.St) (H B : Hp), Frm A σ H B Γ → ∀ Q : List V → Hp → Prop, (∀ vs H' B', Frm A σ H' B' Γ' → Same B B' → w.rel B' vs a → Q vs H') → t σ H Q
def EvH {α : Type} (r : Rp α) (t : TA) (Γ Γ' : List Sl) (xs : List α) : Prop := ∀ (A : Amb) (σ : L2.St) (H B : Hp), Frm A σ H B Γ → ∀ Q : List V → Hp → Prop, (∀ vs H' B', Frm A σ H' B' Γ' → Same B B' → Paired (r.rel B') vs xs → Q vs H') → t σ H Q
/-- a new object -/
def EvC {α : Type} (c : Cl α) (t : TE) (Γ Γ' : List Sl) (a : α) : Prop := ∀ (A : Amb) (σ : L2.St) (H B : Hp), Frm A σ H B Γ → ∀ Q : VK, (∀ p o H' B', Frm (A.add p o) σ H' B' Γ' → A.H0 p = none → Same B B' → c.ok B' o a → Q (.ref p) H') → t σ H Q

section
variable {α β γ : Type} {r ra : Rp α} {rb : Rp β} {rc : Rp γ} {c : Cl α} {w : Rw α} {ta tb te : TE} {tt tu : TT} {Γ Γ1 Γ2 Γ3 : List Sl} {x a : α} {y b : β} {z : γ} {K : PySem.W.Frag}
theorem Paired.imp2 {α β : Type} {F G : α → β → Prop} (h : ∀ a b, F a b → G a b) : ∀ {l₁ : List α} {l₂ : List β}, Paired F l₁ l₂ → Paired G l₁ l₂
  | _, _, .nil => .nil
  | _, _, .cons q t => .cons (h _ _ q) (Paired.imp2 h t)
theorem Paired.len {α β : Type} {F : α → β → Prop} : ∀ {l₁ : List α} {l₂ : List β}, Paired F l₁ l₂ → l₁.length = l₂.length
  | _, _, .nil => rfl
  | _, _, .cons _ t => by rw [List.length_cons, List.length_cons, Paired.len t]
theorem Paired.getR {α β : Type} {F : α → β → Prop} : ∀ {l₁ : List α} {l₂ : List β} {i : Nat} {y : β}, Paired F l₁ l₂ → l₂[i]? = some y → ∃ x, l₁[i]? = some x ∧ F x y
  | _, _, _, _, .nil, e => by simp at e
  | _, _, 0, _, .cons q _, e => by simp at e; subst e; exact ⟨_, rfl, q⟩
  | _, _, i + 1, _, .cons _ t, e => by simpa using Paired.getR (i := i) t (by simpa using e)
theorem Paired.getL {α β : Type} {F : α → β → Prop} : ∀ {l₁ : List α} {l₂ : List β} {i : Nat} {x : α}, Paired F l₁ l₂ → l₁[i]? = some x → ∃ y, l₂[i]? = some y ∧ F x y
  | _, _, _, _, .nil, e => by simp at e
  | _, _, 0, _, .cons q _, e => by simp at e; subst e; exact ⟨_, rfl, q⟩
  | _, _, i + 1, _, .cons _ t, e => by simpa using Paired.getL (i := i) t (by simpa using e)
theorem Paired.app {α β : Type} {F : α → β → Prop} : ∀ {l₁ k₁ : List α} {l₂ k₂ : List β}, Paired F l₁ l₂ → Paired F k₁ k₂ → Paired F (l₁ ++ k₁) (l₂ ++ k₂)
  | _, _, _, _, .nil, h => h
  | _, _, _, _, .cons q t, h => .cons q (Paired.app t h)
theorem Paired.dropN {α β : Type} {F : α → β → Prop} : ∀ {l₁ : List α} {l₂ : List β} (n : Nat), Paired F l₁ l₂ → Paired F (l₁.drop n) (l₂.drop n)
  | _, _, 0, h => h
  | _, _, _ + 1, .nil => .nil
  | _, _, n + 1, .cons _ t => Paired.dropN n t
theorem Paired.takeN {α β : Type} {F : α → β → Prop} : ∀ {l₁ : List α} {l₂ : List β} (n : Nat), Paired F l₁ l₂ → Paired F (l₁.take n) (l₂.take n)
  | _, _, 0, _ => .nil
  | _, _, _ + 1, .nil => .nil
  | _, _, n + 1, .cons q t => .cons q (Paired.takeN n t)
theorem Paired.revR {α β : Type} {F : α → β → Prop} : ∀ {l₁ : List α} {l₂ : List β}, Paired F l₁ l₂ → Paired F l₁.reverse l₂.reverse
  | _, _, .nil => .nil
  | _, _, .cons q t => by rw [List.reverse_cons, List.reverse_cons]; exact Paired.app (Paired.revR t) (.cons q .nil)
theorem Paired.mapEq {α β : Type} {F : α → β → Prop} {f : β → α} (h : ∀ a b, F a b → a = f b) : ∀ {l₁ : List α} {l₂ : List β}, Paired F l₁ l₂ → l₁ = l₂.map f
  | _, _, .nil => rfl
  | _, _, .cons q t => by rw [List.map_cons, h _ _ q, Paired.mapEq h t]
theorem Paired.ofMap {α β : Type} {F : α → β → Prop} {f : β → α} (h : ∀ b, F (f b) b) : ∀ (l : List β), Paired F (l.map f) l
  | [] => .nil
  | b :: l => .cons (h b) (Paired.ofMap h l)

/-! ### names, constants -/
theorem ev_var {i : Nat} (h : Γ[i]? = some (.imm r a)) : EvX r (tVar i) Γ Γ a := fun A σ H B F Q q => by
  obtain ⟨v, e, k⟩ := F.sl i _ h
  exact ⟨v, e, q v H B F (Same.refl _) k⟩
theorem ev_int {i : Int} : EvX rInt (tC (.int i)) Γ Γ i := fun A σ H B F Q q => q _ H B F (Same.refl _) rfl
theorem ev_bl {b : Bool} : EvX rBool (tC (.bl b)) Γ Γ b := fun A σ H B F Q q => q _ H B F (Same.refl _) rfl
theorem ev_str {s : Str} : EvX rStr (tC (.str s)) Γ Γ s := fun A σ H B F Q q => q _ H B F (Same.refl _) rfl
theorem ev_non : EvX rNon (tC .non) Γ Γ () := fun A σ H B F Q q => q _ H B F (Same.refl _) rfl
theorem ev_none : EvX (rOpt r) (tC .non) Γ Γ none := fun A σ H B F Q q => q _ H B F (Same.refl _) rfl
/-! ### what is None or not -/
/-- r's values are not None -/
def NN {α : Type} (r : Rp α) : Prop := ∀ H v a, r.rel H v a → v ≠ .non
theorem nn_int : NN rInt := fun _ _ _ h e => by rw [e] at h; cases h
theorem nn_str : NN rStr := fun _ _ _ h e => by rw [e] at h; cases h
theorem nn_bool : NN rBool := fun _ _ _ h e => by rw [e] at h; cases h
theorem nn_ob : NN (rOb c) := fun _ _ _ ⟨p, o, e, _⟩ e' => by rw [e'] at e; cases e
theorem ev_some (n : NN r) (h : EvX r te Γ Γ1 a) : EvX (rOpt r) te Γ Γ1 (some a) := fun A σ H B F Q q => h A σ H B F Q fun v H' B' F' s k => q v H' B' F' s ⟨k, n _ _ _ k⟩
theorem ev_get {o : Option α} (h : EvX (rOpt r) te Γ Γ1 o) (e : o = some a) : EvX r te Γ Γ1 a := fun A σ H B F Q q => h A σ H B F Q fun v H' B' F' s k => q v H' B' F' s (by rw [e] at k; exact k.1)
theorem ev_to {a' : α} (h : EvX r te Γ Γ1 a) (e : a = a') : EvX r te Γ Γ1 a' := e ▸ h
theorem ev_toNon (h : EvX (rOpt r) te Γ Γ1 none) : EvX rNon te Γ Γ1 () := fun A σ H B F Q q => h A σ H B F Q fun v H' B' F' s k => q v H' B' F' s k
theorem ev_isN {o : Option α} (h : EvX (rOpt r) te Γ Γ1 o) : EvX rBool (tIsN te) Γ Γ1 o.isNone := fun A σ H B F Q q => h A σ H B F _ fun v H' B' F' s k => q _ H' B' F' s (by
  cases o with
  | none => rw [show v = V.non from k]; rfl
  | some a => show V.bl (decide (v = V.non)) = V.bl false; rw [decide_eq_false k.2])
theorem ev_notN {o : Option α} (h : EvX (rOpt r) te Γ Γ1 o) : EvX rBool (tNotN te) Γ Γ1 o.isSome := fun A σ H B F Q q => h A σ H B F _ fun v H' B' F' s k => q _ H' B' F' s (by
  cases o with
  | none => rw [show v = V.non from k]; rfl
  | some a => show V.bl (!decide (v = V.non)) = V.bl true; rw [decide_eq_false k.2]; rfl)
/-! ### operators -/
theorem ev_op {R : R2} (ha : EvX ra ta Γ Γ1 x) (hb : EvX rb tb Γ1 Γ2 y) (h : ∀ (H B : Hp) (u v : V), Same B H → ra.rel B u x → rb.rel B v y → ∀ Q : VK, (∀ o, rc.rel B o z → Q o H) → R u v H Q) : EvX rc (tOp R ta tb) Γ Γ2 z :=
  fun A σ H B F Q q => ha A σ H B F _ fun u H1 B1 F1 s1 k1 => hb A σ H1 B1 F1 _ fun v H2 B2 F2 s2 k2 => h H2 B2 u v F2.bh (ra.mono s2 k1) k2 Q fun o ko => q o H2 B2 F2 (s1.trans s2) ko
theorem ev_opC {R : R2} {cc : Cl γ} (ha : EvX ra ta Γ Γ1 x) (hb : EvX rb tb Γ1 Γ2 y) (h : ∀ (H B : Hp) (u v : V), Sz H → Same B H → ra.rel B u x → rb.rel B v y → ∀ Q : VK, (∀ p o, H p = none → szO o → cc.ok B o z → Q (.ref p) (upd H p o)) → R u v H Q) : EvC cc (tOp R ta tb) Γ Γ2 z :=
  fun A σ H B F Q q => ha A σ H B F _ fun u H1 B1 F1 s1 k1 => hb A σ H1 B1 F1 _ fun v H2 B2 F2 s2 k2 => h H2 B2 u v F2.sz F2.bh (ra.mono s2 k1) k2 Q fun p o hp ho ko => q p o _ B2 (F2.fresh hp ho) (F2.H0none hp) (s1.trans s2) ko
theorem ev_un {R : V → Hp → VK → Prop} (ha : EvX ra ta Γ Γ1 x) (h : ∀ (H B : Hp) (u : V), Same B H → ra.rel B u x → ∀ Q : VK, (∀ o, rc.rel B o z → Q o H) → R u H Q) : EvX rc (tUn R ta) Γ Γ1 z :=
  fun A σ H B F Q q => ha A σ H B F _ fun u H1 B1 F1 s1 k1 => h H1 B1 u F1.bh k1 Q fun o ko => q o H1 B1 F1 s1 ko
theorem ev_I0 {g : Int → Int → V} {i j : Int} (ha : EvX rInt ta Γ Γ1 i) (hb : EvX rInt tb Γ1 Γ2 j) (h : ∀ B, rc.rel B (g i j) z) : EvX rc (tOp (rI0 g) ta tb) Γ Γ2 z :=
  ev_op ha hb fun H B u v _ ku kv Q q => ⟨i, j, ku, kv, q _ (h B)⟩
theorem ev_I {C : Int → Int → Prop} {g : Int → Int → V} {i j : Int} (ha : EvX rInt ta Γ Γ1 i) (hb : EvX rInt tb Γ1 Γ2 j) (hc : C i j) (h : ∀ B, rc.rel B (g i j) z) : EvX rc (tOp (rI C g) ta tb) Γ Γ2 z :=
  ev_op ha hb fun H B u v _ ku kv Q q => ⟨i, j, ku, kv, hc, q _ (h B)⟩
section
variable {i j : Int}
theorem ev_add (ha : EvX rInt ta Γ Γ1 i) (hb : EvX rInt tb Γ1 Γ2 j) : EvX rInt (tOp (rI0 fun i j => .int (i + j)) ta tb) Γ Γ2 (i + j) := ev_I0 ha hb fun _ => rfl
theorem ev_sub (ha : EvX rInt ta Γ Γ1 i) (hb : EvX rInt tb Γ1 Γ2 j) : EvX rInt (tOp (rI0 fun i j => .int (i - j)) ta tb) Γ Γ2 (i - j) := ev_I0 ha hb fun _ => rfl
theorem ev_mul (ha : EvX rInt ta Γ Γ1 i) (hb : EvX rInt tb Γ1 Γ2 j) (h : CMul i j) : EvX rInt (tOp (rI CMul fun i j => .int (i * j)) ta tb) Γ Γ2 (i * j) := ev_I ha hb h fun _ => rfl
theorem ev_mod (ha : EvX rInt ta Γ Γ1 i) (hb : EvX rInt tb Γ1 Γ2 j) (h : 0 < j) : EvX rInt (tOp (rI (fun _ j => 0 < j) fun i j => .int (i % j)) ta tb) Γ Γ2 (i % j) := ev_I ha hb h fun _ => rfl
theorem ev_divW (ha : EvX rInt ta Γ Γ1 i) (hb : EvX rInt tb Γ1 Γ2 j) (h : CDivW i j) : EvX rInt (tOp (rI CDivW fun i j => .int (i / j)) ta tb) Γ Γ2 (i / j) := ev_I ha hb h fun _ => rfl
theorem ev_pow (ha : EvX rInt ta Γ Γ1 i) (hb : EvX rInt tb Γ1 Γ2 j) (h : CPow i j) : EvX rInt (tOp (rI CPow fun i j => .int (i ^ j.toNat)) ta tb) Γ Γ2 (i ^ j.toNat) := ev_I ha hb h fun _ => rfl
theorem ev_neg (ha : EvX rInt ta Γ Γ1 i) : EvX rInt (tUn (rU fun i => .int (-i)) ta) Γ Γ1 (-i) := ev_un ha fun H B u _ k Q q => ⟨i, k, q _ rfl⟩
theorem ev_lt (ha : EvX rInt ta Γ Γ1 i) (hb : EvX rInt tb Γ1 Γ2 j) : EvX rBool (tOp (rI0 fun i j => .bl (decide (i < j))) ta tb) Γ Γ2 (decide (i < j)) := ev_I0 ha hb fun _ => rfl
theorem ev_le (ha : EvX rInt ta Γ Γ1 i) (hb : EvX rInt tb Γ1 Γ2 j) : EvX rBool (tOp (rI0 fun i j => .bl (decide (i ≤ j))) ta tb) Γ Γ2 (decide (i ≤ j)) := ev_I0 ha hb fun _ => rfl
theorem ev_gt (ha : EvX rInt ta Γ Γ1 i) (hb : EvX rInt tb Γ1 Γ2 j) : EvX rBool (tOp (rI0 fun i j => .bl (decide (j < i))) ta tb) Γ Γ2 (decide (j < i)) := ev_I0 ha hb fun _ => rfl
theorem ev_ge (ha : EvX rInt ta Γ Γ1 i) (hb : EvX rInt tb Γ1 Γ2 j) : EvX rBool (tOp (rI0 fun i j => .bl (decide (j ≤ i))) ta tb) Γ Γ2 (decide (j ≤ i)) := ev_I0 ha hb fun _ => rfl
end
/-- data that are a value without the heap -/
structure Sc {α : Type} (r : Rp α) where
  val : α → V
  ok : ∀ {H v a}, r.rel H v a → v = val a
  inj : ∀ {a b}, val a = val b → a = b
def scInt : Sc rInt := ⟨.int, fun h => h, fun h => V.int.inj h⟩
def scBool : Sc rBool := ⟨.bl, fun h => h, fun h => V.bl.inj h⟩
def scStr : Sc rStr := ⟨.str, fun h => h, fun h => V.str.inj h⟩
def scNon : Sc rNon := ⟨fun _ => .non, fun h => h, fun _ => rfl⟩
def oV {α : Type} (f : α → V) : Option α → V
  | none => .non
  | some a => f a
def scOpt {α : Type} {r : Rp α} (s : Sc r) (n : ∀ a, s.val a ≠ .non) : Sc (rOpt r) := ⟨oV s.val, fun {H v a} h => by
    cases a with
    | none => exact h
    | some a => exact s.ok h.1, fun {a b} h => by
    cases a with
    | none => cases b with
      | none => rfl
      | some b => exact absurd h.symm (n b)
    | some a => cases b with
      | none => exact absurd h (n a)
      | some b => rw [s.inj h]⟩
def scOI : Sc (rOpt rInt) := scOpt scInt fun _ h => V.noConfusion h
def scOS : Sc (rOpt rStr) := scOpt scStr fun _ h => V.noConfusion h
theorem sc_dec {r : Rp α} [DecidableEq α] (s : Sc r) (a b : α) : decide (s.val a = s.val b) = decide (a = b) := by
  by_cases e : a = b
  · rw [e]; simp
  · rw [decide_eq_false e, decide_eq_false fun h => e (s.inj h)]
theorem ev_eqS [DecidableEq α] (s : Sc r) (ha : EvX r ta Γ Γ1 x) (hb : EvX r tb Γ1 Γ2 a) (h : scal (s.val x) (s.val a) = true) : EvX rBool (tOp rEq ta tb) Γ Γ2 (decide (x = a)) :=
  ev_op ha hb fun H B u v _ ku kv Q q => by
    rw [s.ok ku, s.ok kv]
    exact ⟨h, q _ (by rw [sc_dec s]; rfl)⟩
theorem ev_neS [DecidableEq α] (s : Sc r) (ha : EvX r ta Γ Γ1 x) (hb : EvX r tb Γ1 Γ2 a) (h : scal (s.val x) (s.val a) = true) : EvX rBool (tOp rNe ta tb) Γ Γ2 (!decide (x = a)) :=
  ev_op ha hb fun H B u v _ ku kv Q q => by
    rw [s.ok ku, s.ok kv]
    exact ⟨h, q _ (by rw [sc_dec s]; rfl)⟩
theorem sc_oi (x a : Option Int) : scal (scOI.val x) (scOI.val a) = true := by cases x <;> cases a <;> rfl
theorem sc_os (x a : Option Str) : scal (scOS.val x) (scOS.val a) = true := by cases x <;> cases a <;> rfl
/-! ### tests -/
theorem et_B {b : Bool} (h : EvX rBool te Γ Γ1 b) : EvT (tB te) Γ Γ1 b := fun A σ H B F Q q => h A σ H B F _ fun v H' B' F' s k => ⟨b, k, q H' B' F' s⟩
theorem et_T {b : Bool} (h : EvX rBool te Γ Γ1 b) : EvT (tTest te) Γ Γ1 b := fun A σ H B F Q q => h A σ H B F _ fun v H' B' F' s k => ⟨b, k, q H' B' F' s⟩
theorem et_and {a b : Bool} (h1 : EvT tt Γ Γ1 a) (h2 : a = true → EvT tu Γ1 Γ2 b) (h3 : a = false → b = false ∧ Γ1 = Γ2) : EvT (tAnd tt tu) Γ Γ2 b := fun A σ H B F Q q => h1 A σ H B F _ fun H' B' F' s => by
  cases a with
  | true => exact h2 rfl A σ H' B' F' Q fun H2 B2 F2 s2 => q H2 B2 F2 (s.trans s2)
  | false => obtain ⟨rfl, rfl⟩ := h3 rfl; exact q H' B' F' s
theorem et_or {a b : Bool} (h1 : EvT tt Γ Γ1 a) (h2 : a = false → EvT tu Γ1 Γ2 b) (h3 : a = true → b = true ∧ Γ1 = Γ2) : EvT (tOr tt tu) Γ Γ2 b := fun A σ H B F Q q => h1 A σ H B F _ fun H' B' F' s => by
  cases a with
  | false => exact h2 rfl A σ H' B' F' Q fun H2 B2 F2 s2 => q H2 B2 F2 (s.trans s2)
  | true => obtain ⟨rfl, rfl⟩ := h3 rfl; exact q H' B' F' s
theorem et_and0 {a b : Bool} (h1 : EvT tt Γ Γ1 a) (h2 : EvT tu Γ1 Γ1 b) : EvT (tAnd tt tu) Γ Γ1 (a && b) := et_and h1 (fun e => by rw [e]; exact h2) fun e => ⟨by rw [e]; rfl, rfl⟩
theorem et_or0 {a b : Bool} (h1 : EvT tt Γ Γ1 a) (h2 : EvT tu Γ1 Γ1 b) : EvT (tOr tt tu) Γ Γ1 (a || b) := et_or h1 (fun e => by rw [e]; exact h2) fun e => ⟨by rw [e]; rfl, rfl⟩
theorem et_not {a : Bool} (h : EvT tt Γ Γ1 a) : EvT (tNot tt) Γ Γ1 (!a) := fun A σ H B F Q q => h A σ H B F _ fun H' B' F' s => q H' B' F' s
theorem ev_and {a b : Bool} (h1 : EvX rBool ta Γ Γ1 a) (h2 : a = true → EvX rBool tb Γ1 Γ2 b) (h3 : a = false → b = false ∧ Γ1 = Γ2) : EvX rBool (tAndV ta tb) Γ Γ2 b := fun A σ H B F Q q => h1 A σ H B F _ fun v H' B' F' s k => ⟨a, k, by
  cases a with
  | true => exact h2 rfl A σ H' B' F' Q fun v2 H2 B2 F2 s2 k2 => q v2 H2 B2 F2 (s.trans s2) k2
  | false => obtain ⟨rfl, rfl⟩ := h3 rfl; exact q _ H' B' F' s rfl⟩
theorem ev_or {a b : Bool} (h1 : EvX rBool ta Γ Γ1 a) (h2 : a = false → EvX rBool tb Γ1 Γ2 b) (h3 : a = true → b = true ∧ Γ1 = Γ2) : EvX rBool (tOrV ta tb) Γ Γ2 b := fun A σ H B F Q q => h1 A σ H B F _ fun v H' B' F' s k => ⟨a, k, by
  cases a with
  | false => exact h2 rfl A σ H' B' F' Q fun v2 H2 B2 F2 s2 k2 => q v2 H2 B2 F2 (s.trans s2) k2
  | true => obtain ⟨rfl, rfl⟩ := h3 rfl; exact q _ H' B' F' s rfl⟩
theorem ev_and0 {a b : Bool} (h1 : EvX rBool ta Γ Γ1 a) (h2 : EvX rBool tb Γ1 Γ1 b) : EvX rBool (tAndV ta tb) Γ Γ1 (a && b) := ev_and h1 (fun e => by rw [e]; exact h2) fun e => ⟨by rw [e]; rfl, rfl⟩
theorem ev_or0 {a b : Bool} (h1 : EvX rBool ta Γ Γ1 a) (h2 : EvX rBool tb Γ1 Γ1 b) : EvX rBool (tOrV ta tb) Γ Γ1 (a || b) := ev_or h1 (fun e => by rw [e]; exact h2) fun e => ⟨by rw [e]; rfl, rfl⟩
theorem ev_not {a : Bool} (h : EvX rBool ta Γ Γ1 a) : EvX rBool (tNotV ta) Γ Γ1 (!a) := fun A σ H B F Q q => h A σ H B F _ fun v H' B' F' s k => ⟨a, k, q _ H' B' F' s rfl⟩
theorem ev_if {b : Bool} (h : EvT tt Γ Γ1 b) (h1 : b = true → EvX r ta Γ1 Γ2 a) (h2 : b = false → EvX r tb Γ1 Γ2 a) : EvX r (tIf tt ta tb) Γ Γ2 a := fun A σ H B F Q q => h A σ H B F _ fun H' B' F' s => by
  cases b with
  | true => exact h1 rfl A σ H' B' F' Q fun v H2 B2 F2 s2 k => q v H2 B2 F2 (s.trans s2) k
  | false => exact h2 rfl A σ H' B' F' Q fun v H2 B2 F2 s2 k => q v H2 B2 F2 (s.trans s2) k
/-- two comparisons -/
theorem ev_chain {R R' : R2} {b1 b2 : Bool} {tc : TE} (ha : EvX ra ta Γ Γ1 x) (hb : EvX rb tb Γ1 Γ2 y) (hc : b1 = true → EvX rc tc Γ2 Γ2 z)
    (h1 : ∀ (H B : Hp) (u v : V), Same B H → ra.rel B u x → rb.rel B v y → ∀ Q : VK, Q (.bl b1) H → R u v H Q) (h2 : b1 = true → ∀ (H B : Hp) (u v : V), Same B H → rb.rel B u y → rc.rel B v z → ∀ Q : VK, Q (.bl b2) H → R' u v H Q) :
    EvX rBool (tChain R R' ta tb tc) Γ Γ2 (b1 && b2) := fun A σ H B F Q q => ha A σ H B F _ fun u H1 B1 F1 s1 k1 => hb A σ H1 B1 F1 _ fun v H2 B2 F2 s2 k2 => h1 H2 B2 u v F2.bh (ra.mono s2 k1) k2 _ ⟨b1, rfl, by
      cases b1 with
      | false => exact q _ H2 B2 F2 (s1.trans s2) rfl
      | true => exact hc rfl A σ H2 B2 F2 _ fun w H3 B3 F3 s3 k3 => h2 rfl H3 B3 v w F3.bh (rb.mono s3 k2) k3 Q (q _ H3 B3 F3 ((s1.trans s2).trans s3) rfl)⟩
/-! ### arguments, displays -/
theorem ew_0 : EvW w0 tNil Γ Γ () := fun A σ H B F Q q => q _ H B F (Same.refl _) rfl
theorem ew_1 (h : EvX r ta Γ Γ1 a) : EvW (w1 r) (tCons ta tNil) Γ Γ1 a := fun A σ H B F Q q => h A σ H B F _ fun v H' B' F' s k => q _ H' B' F' s ⟨v, rfl, k⟩
theorem ew_C {w : Rw β} {tr : TA} (h : EvX r ta Γ Γ1 a) (hr : EvW w tr Γ1 Γ2 y) : EvW (wC r w) (tCons ta tr) Γ Γ2 (a, y) := fun A σ H B F Q q =>
  h A σ H B F _ fun v H' B' F' s k => hr A σ H' B' F' _ fun vs H2 B2 F2 s2 k2 => q _ H2 B2 F2 (s.trans s2) ⟨v, vs, rfl, r.mono s2 k, k2⟩
theorem eh_0 : EvH r tNil Γ Γ [] := fun A σ H B F Q q => q _ H B F (Same.refl _) .nil
theorem eh_C {tr : TA} {xs : List α} (h : EvX r ta Γ Γ1 a) (hr : EvH r tr Γ1 Γ2 xs) : EvH r (tCons ta tr) Γ Γ2 (a :: xs) := fun A σ H B F Q q =>
  h A σ H B F _ fun v H' B' F' s k => hr A σ H' B' F' _ fun vs H2 B2 F2 s2 k2 => q _ H2 B2 F2 (s.trans s2) (.cons (r.mono s2 k) k2)
theorem ec_fresh {H B : Hp} {A : Amb} {σ : L2.St} {p : Addr} {o : HO} (F : Frm A σ H B Γ) (hp : H p = none) (ho : szO o) {Q : VK} (q : ∀ p o H' B', Frm (A.add p o) σ H' B' Γ → A.H0 p = none → Same B B' → c.ok B' o a → Q (.ref p) H') (k : c.ok B o a) : Q (.ref p) (upd H p o) :=
  q p o _ B (F.fresh hp ho) (F.H0none hp) (Same.refl _) k
/-- how many there are -/
class WLen {α : Type} (w : Rw α) (n : outParam Nat) : Prop where
  len : ∀ {H vs a}, w.rel H vs a → vs.length = n
instance : WLen w0 0 := ⟨fun h => by rw [show _ = ([] : List V) from h]; rfl⟩
instance {α : Type} (r : Rp α) : WLen (w1 r) 1 := ⟨fun ⟨v, e, _⟩ => by rw [e]; rfl⟩
instance {α β : Type} (r : Rp α) (w : Rw β) {n : Nat} [i : WLen w n] : WLen (wC r w) (n + 1) := ⟨fun ⟨v, t, e, _, k⟩ => by rw [e, List.length_cons, i.len k]⟩
theorem ec_tup {n : Nat} [i : WLen w n] {ta : TA} (h : EvW w ta Γ Γ1 a) (hn : n ≤ 1000 := by decide) : EvC (cTup w) (tTup ta) Γ Γ1 a := fun A σ H B F Q q => h A σ H B F _ fun vs H' B' F' s k => by
  have hl : vs.length ≤ sizeLine := by rw [i.len k]; exact Nat.le_of_lt (small1000 hn)
  exact ⟨hl, fun p hp => ec_fresh (c := cTup w) (o := .tup vs) F' hp hl (fun p o H2 B2 F2 n2 s2 k2 => q p o H2 B2 F2 n2 (s.trans s2) k2) ⟨vs, rfl, k⟩⟩
theorem ec_hls {n : Nat} [i : WLen w n] {ta : TA} (h : EvW w ta Γ Γ1 a) (hn : n ≤ 1000 := by decide) : EvC (cHls w) (tLst ta) Γ Γ1 a := fun A σ H B F Q q => h A σ H B F _ fun vs H' B' F' s k => by
  have hl : vs.length ≤ sizeLine := by rw [i.len k]; exact Nat.le_of_lt (small1000 hn)
  exact ⟨hl, fun p hp => ec_fresh (c := cHls w) (o := .lst vs) F' hp hl (fun p o H2 B2 F2 n2 s2 k2 => q p o H2 B2 F2 n2 (s.trans s2) k2) ⟨vs, rfl, k⟩⟩
theorem ec_lst {ta : TA} {xs : List α} (h : EvH r ta Γ Γ1 xs) (hn : xs.length ≤ 1000 := by decide) : EvC (cLst r) (tLst ta) Γ Γ1 xs := fun A σ H B F Q q => h A σ H B F _ fun vs H' B' F' s k => by
  have hl : vs.length ≤ sizeLine := by rw [Paired.len k]; exact Nat.le_of_lt (small1000 hn)
  exact ⟨hl, fun p hp => ec_fresh (c := cLst r) (o := .lst vs) F' hp hl (fun p o H2 B2 F2 n2 s2 k2 => q p o H2 B2 F2 n2 (s.trans s2) k2) ⟨vs, rfl, k⟩⟩
theorem ec_tpl {ta : TA} {xs : List α} (h : EvH r ta Γ Γ1 xs) (hn : xs.length ≤ 1000 := by decide) : EvC (cTpl r) (tTup ta) Γ Γ1 xs := fun A σ H B F Q q => h A σ H B F _ fun vs H' B' F' s k => by
  have hl : vs.length ≤ sizeLine := by rw [Paired.len k]; exact Nat.le_of_lt (small1000 hn)
  exact ⟨hl, fun p hp => ec_fresh (c := cTpl r) (o := .tup vs) F' hp hl (fun p o H2 B2 F2 n2 s2 k2 => q p o H2 B2 F2 n2 (s.trans s2) k2) ⟨vs, rfl, k⟩⟩
/-- a new object that nobody will change -/
theorem ev_new (h : EvC c te Γ Γ1 a) : EvX (rOb c) te Γ Γ1 a := fun A σ H B F Q q => h A σ H B F Q fun p o H' B' F' n s k => by
  have hm : ¬ A.m p := fun m => F.mh.al p m n
  have hB : B' p = none := F'.out p (by show upd A.H0 p o p ≠ none; rw [upd_same]; simp) (by
    cases e : A.B0 p with
    | none => exact e
    | some u => exact absurd (F.sub p u e) (by rw [n]; simp))
  have s' : Same B' (upd B' p o) := fun b u e => by rw [upd_ne (ne_of_none e hB)]; exact e
  exact q _ H' (upd B' p o) (F'.adopt n F.sub F.mh) (s.trans s') ⟨p, o, rfl, upd_same, c.mono s' k⟩
/-! ### items -/
theorem atI_rel {B : Hp} {vs : List V} {xs : List α} {i : Int} (h : Paired (r.rel B) vs xs) (e : atI xs i = some a) : ∃ v, atI vs i = some v ∧ r.rel B v a := by
  unfold atI at e ⊢
  rw [Paired.len h]
  cases q : ixN xs.length i with
  | none => rw [q] at e; cases e
  | some j =>
    rw [q] at e
    exact Paired.getR h e
theorem ob_lst {B H : Hp} {u : V} {xs : List α} (s : Same B H) (h : (rLst r).rel B u xs) : ∃ p vs, u = .ref p ∧ H p = some (.lst vs) ∧ Paired (r.rel B) vs xs := by
  obtain ⟨p, o, e, hp, vs, rfl, k⟩ := h
  exact ⟨p, vs, e, s _ _ hp, k⟩
theorem ob_tpl {B H : Hp} {u : V} {xs : List α} (s : Same B H) (h : (rTpl r).rel B u xs) : ∃ p vs, u = .ref p ∧ H p = some (.tup vs) ∧ Paired (r.rel B) vs xs := by
  obtain ⟨p, o, e, hp, vs, rfl, k⟩ := h
  exact ⟨p, vs, e, s _ _ hp, k⟩
theorem ob_hls {B H : Hp} {u : V} (s : Same B H) (h : (rHls w).rel B u a) : ∃ p vs, u = .ref p ∧ H p = some (.lst vs) ∧ w.rel B vs a := by
  obtain ⟨p, o, e, hp, vs, rfl, k⟩ := h
  exact ⟨p, vs, e, s _ _ hp, k⟩
theorem ob_tup {B H : Hp} {u : V} (s : Same B H) (h : (rTup w).rel B u a) : ∃ p vs, u = .ref p ∧ H p = some (.tup vs) ∧ w.rel B vs a := by
  obtain ⟨p, o, e, hp, vs, rfl, k⟩ := h
  exact ⟨p, vs, e, s _ _ hp, k⟩
theorem ev_ixL {xs : List α} {i : Int} (ha : EvX (rLst r) ta Γ Γ1 xs) (hb : EvX rInt tb Γ1 Γ2 i) (e : atI xs i = some a) : EvX r (tOp (rIxL K) ta tb) Γ Γ2 a :=
  ev_op ha hb fun H B u v s ku kv Q q => by
    obtain ⟨p, vs, rfl, hp, k⟩ := ob_lst s ku
    obtain ⟨o, ho, ko⟩ := atI_rel k e
    exact ⟨p, vs, i, o, rfl, kv, SqL.of hp, ho, q o ko⟩
theorem ev_ixT {xs : List α} {i : Int} (ha : EvX (rTpl r) ta Γ Γ1 xs) (hb : EvX rInt tb Γ1 Γ2 i) (e : atI xs i = some a) : EvX r (tOp (rIxT K) ta tb) Γ Γ2 a :=
  ev_op ha hb fun H B u v s ku kv Q q => by
    obtain ⟨p, vs, rfl, hp, k⟩ := ob_tpl s ku
    obtain ⟨o, ho, ko⟩ := atI_rel k e
    exact ⟨p, vs, i, o, rfl, kv, SqT.of hp, ho, q o ko⟩
/-- the k-th of a row -/
def Acc {α β : Type} (w : Rw α) (k : Nat) (r : Rp β) (f : α → β) : Prop := ∀ H vs a, w.rel H vs a → ∃ v, vs[k]? = some v ∧ r.rel H v (f a)
theorem acc1 : Acc (w1 r) 0 r (fun a => a) := fun H vs a ⟨v, e, k⟩ => ⟨v, by rw [e]; rfl, k⟩
theorem acc0 {w : Rw β} : Acc (wC r w) 0 r (·.1) := fun H vs a ⟨v, t, e, k, _⟩ => ⟨v, by rw [e]; rfl, k⟩
theorem accS {w : Rw β} {k : Nat} {f : β → γ} (h : Acc w k rc f) : Acc (wC r w) (k + 1) rc (fun a => f a.2) := fun H vs a ⟨v, t, e, _, q⟩ => by
  obtain ⟨u, h1, h2⟩ := h H t a.2 q
  exact ⟨u, by rw [e]; simpa using h1, h2⟩
theorem ev_ixR {k : Nat} {f : α → β} (ha : EvX (rHls w) ta Γ Γ1 a) (h : Acc w k rb f) : EvX rb (tOp (rIxL K) ta (tC (.int (k : Int)))) Γ Γ1 (f a) :=
  ev_op ha (ev_int (Γ := Γ1)) fun H B u v s ku kv Q q => by
    obtain ⟨p, vs, rfl, hp, g⟩ := ob_hls s ku
    obtain ⟨o, ho, ko⟩ := h B vs a g
    exact ⟨p, vs, (k : Int), o, rfl, kv, SqL.of hp, atI_nat ho, q o ko⟩
theorem ev_ixU {k : Nat} {f : α → β} (ha : EvX (rTup w) ta Γ Γ1 a) (h : Acc w k rb f) : EvX rb (tOp (rIxT K) ta (tC (.int (k : Int)))) Γ Γ1 (f a) :=
  ev_op ha (ev_int (Γ := Γ1)) fun H B u v s ku kv Q q => by
    obtain ⟨p, vs, rfl, hp, g⟩ := ob_tup s ku
    obtain ⟨o, ho, ko⟩ := h B vs a g
    exact ⟨p, vs, (k : Int), o, rfl, kv, SqT.of hp, atI_nat ho, q o ko⟩
end
end G

set_option maxHeartbeats 4000000
/-! # G: statements, calls, loops -/
namespace G
variable [TabL]
open PySem PySem.Spec PyProof.Rows L2

/-- from what is known at Γ the wish P holds -/
def Nx (A : Amb) (P : L2.St → Hp → Prop) (Γ : List Sl) : Prop := ∀ σ H B, Frm A σ H B Γ → P σ H
/-- what is handed back -/
def Rt {ρ : Type} (A : Amb) (ψ : ρ → Hp → Hp → V → Prop) (b : ρ) (rt : VK) : Prop := ∀ H B v, Post A H B → ψ b H B v → rt v H
def psi {β : Type} (r : Rp β) (b : β) (_ B : Hp) (v : V) : Prop := r.rel B v b
def psiS {β γ : Type} (p : Addr) (c : Cl γ) (r : Rp β) (b : β × γ) (H B : Hp) (v : V) : Prop := r.rel B v b.1 ∧ ∃ o, H p = some o ∧ c.ok B o b.2
def Fin (A : Amb) (M : List Sl) : L2.St → Hp → Prop := fun σ H => ∃ B, Frm A σ H B M

section
variable {α β γ ρ ς : Type} {r ra : Rp α} {rb : Rp β} {c : Cl α} {cc : Cl γ} {w : Rw α} {te : TE} {tt : TT} {t u : TS} {D : Ends} {A : Amb} {Γ Γ1 Γ2 M : List Sl} {a : α} {b : β} {i : Nat} {K : PySem.W.Frag} {P : L2.St → Hp → Prop} {ψ : ρ → Hp → Hp → V → Prop}
theorem nx_seq (h : Nx A (t { D with nx := u D }) Γ) : Nx A (tSeq t u D) Γ := h
theorem nx_next (h : Nx A D.nx Γ) : Nx A (tNext D) Γ := h
theorem nx_brk (h : Nx A D.bk Γ) : Nx A (tBreak D) Γ := h
theorem nx_cont (h : Nx A D.ct Γ) : Nx A (tCont D) Γ := h
theorem nx_asg (h : EvX r te Γ Γ1 a) (k : Nx A D.nx (Γ1.set i (.imm r a))) : Nx A (tAsg te (gName i) D) Γ := fun σ H B F => h A σ H B F _ fun v H' B' F' _ q => k _ _ _ (F'.set q)
theorem nx_asgC (h : EvC c te Γ Γ1 a) (k : ∀ p, ¬ A.m p → Nx A D.nx (Γ1.set i (.cel p c a))) : Nx A (tAsg te (gName i) D) Γ := fun σ H B F => h A σ H B F _ fun p o H' B' F' n _ q =>
  k p (fun m => F.mh.al p m n) _ _ _ (F'.own1 n F.sub F.mh q)
theorem nx_if {b : Bool} (h : EvT tt Γ Γ1 b) (h1 : b = true → Nx A (t D) Γ1) (h2 : b = false → Nx A (u D) Γ1) : Nx A (tIfS tt t u D) Γ := fun σ H B F => h A σ H B F _ fun H' B' F' _ => by
  cases b with
  | true => exact h1 rfl σ H' B' F'
  | false => exact h2 rfl σ H' B' F'
theorem nx_drop (h : EvX r te Γ Γ1 a) (k : Nx A D.nx Γ1) : Nx A (tDrop te D) Γ := fun σ H B F => h A σ H B F _ fun v H' B' F' _ _ => k _ _ _ F'
theorem nx_ret {b : α} (h : EvX r te Γ Γ1 a) (e : some a = some b) (k : Rt A (psi r) b D.rt) : Nx A (tRet te D) Γ := fun σ H B F => h A σ H B F _ fun v H' B' F' _ q => k H' B' v F'.post (by cases e; exact q)
theorem nx_retS {p : Addr} {st : γ} {b : α × γ} (h : EvX r te Γ Γ1 a) (hi : Γ1[i]? = some (.cel p cc st)) (e : some (a, st) = some b) (k : Rt A (psiS p cc r) b D.rt) : Nx A (tRet te D) Γ := fun σ H B F => h A σ H B F _ fun v H' B' F' _ q => by
  obtain ⟨_, _, _, o, ho, ko⟩ := F'.sl i _ hi
  exact k H' B' v F'.post (by cases e; exact ⟨q, o, ho, ko⟩)
theorem nx_cut (M : List Sl) (h : Nx A (t { D with nx := Fin A M }) Γ) (k : Nx A (u D) M) : Nx A (Evl.tCut t u D) Γ := fun σ H B F => ⟨Fin A M, h σ H B F, fun σ' H' ⟨B', F'⟩ => k σ' H' B' F'⟩
theorem nx_fin : Nx A (Fin A M) M := fun σ H B F => ⟨B, F⟩
theorem nx_forget (i : Nat) (h : Nx A P (Γ.set i .no)) : Nx A P Γ := fun σ H B F => h σ H B (F.forget i)
theorem nx_eq (e : Γ = Γ1) (h : Nx A P Γ1) : Nx A P Γ := e ▸ h
/-- the frame's own object is changed no more -/
theorem Frm.freeze {σ : L2.St} {H B : Hp} {p : Addr} (F : Frm A σ H B Γ) (hp : ¬ A.m p) (e : Γ[i]? = some (.cel p c a)) : ∃ B', Same B B' ∧ Frm A σ H B' (Γ.set i (.imm (rOb c) a)) := by
  obtain ⟨e1, n, m, o, ho, k⟩ := F.sl i _ e
  have m0 : A.H0 p = none := m.resolve_right hp
  have bb : Same B (upd B p o) := fun b u q => by rw [upd_ne (ne_of_none q n)]; exact q
  refine ⟨upd B p o, bb, F.chg e ⟨fun b u q => ?_, fun b u q => bb b u (F.b0 b u q), F.keep, fun b nb z => ?_, F.alive, F.sub, F.mh, A.up _ _ bb F.ph, F.sz, F.tb.fix bb (Hot.nt (F.hot e rfl) F.mh)⟩ bb fun ow hh so => ⟨fun _ => False, fun q z => z.elim, fun q z => z.elim, fun q h nq => ⟨?_, fun u hu => hu⟩, .ref p, e1, p, o, rfl, upd_same, c.mono bb k⟩⟩
  · by_cases hb : b = p
    · subst hb; rw [upd_same] at q; cases q; exact ho
    · rw [upd_ne hb] at q; exact F.bh b u q
  · have hb : b ≠ p := fun q => nb (by rw [q]; exact m0)
    rw [upd_ne hb]; exact F.out b nb z
  · have hq : q ≠ p := fun z => nq (by rw [z]; exact so.2.1)
    rw [upd_ne hq]; exact h.1
theorem nx_freeze {p : Addr} (i : Nat) (hp : ¬ A.m p) (e : Γ[i]? = some (.cel p c a)) (h : Nx A P (Γ.set i (.imm (rOb c) a))) : Nx A P Γ := fun σ H B F => by
  obtain ⟨B', _, F'⟩ := F.freeze hp e
  exact h σ H B' F'
end

/-! ### calls -/
/-- it may change: not known to be fixed, no table -/
def HotP (B : Hp) (p : Addr) : Prop := B p = none ∧ ¬ isTab p
def amb0 (B H : Hp) : Amb := ⟨B, H, fun _ => False, fun _ => True, fun _ _ _ _ => trivial⟩
def ambS (B H : Hp) (p : Addr) : Amb := ⟨B, H, fun q => q = p, fun _ => True, fun _ _ _ _ => trivial⟩
def SpP {α β : Type} (w : Rw α) (r : Rp β) (m : α → Option β) : Sp := fun vs H Q _ => ∃ B a b, SzT H B ∧ Same B H ∧ w.rel B vs a ∧ m a = some b ∧ Rt (amb0 B H) (psi r) b Q
def SpS {α β γ : Type} (c : Cl γ) (w : Rw α) (r : Rp β) (m : γ → α → Option (β × γ)) : Sp := fun vs H Q _ => ∃ p vs' B o st a b, vs = .ref p :: vs' ∧ SzT H B ∧ Same B H ∧ HotP B p ∧ H p = some o ∧ c.ok B o st ∧ w.rel B vs' a ∧ m st a = some b ∧ Rt (ambS B H p) (psiS p c r) b Q
section
variable {α β γ : Type} {r : Rp β} {w : Rw α} {cc : Cl γ} {A : Amb} {σ : L2.St} {H H' B B' : Hp} {Γ Γ1 : List Sl} {i : Nat} {p : Addr} {st st' : γ}
theorem Post.after (F : Frm A σ H B Γ) (P : Post (amb0 B H) H' B') : Post A H' B' where
  bh := P.bh
  b0 := fun p o e => P.b0 p o (F.b0 p o e)
  keep := fun p o m nt e => P.keep p o (fun z => z) nt (F.keep p o m nt e)
  out := fun p n z => P.out p (F.alive p n) (F.out p n z)
  alive := fun p n => P.alive p (F.alive p n)
  sub := F.sub
  mh := F.mh
  ph := A.up _ _ P.b0 F.ph
  sz := P.sz
  tb := P.tb
theorem Frm.after (F : Frm A σ H B Γ) (P : Post (amb0 B H) H' B') : Frm A σ H' B' Γ :=
  F.move (Post.after F P) P.b0 fun p h => ⟨P.out p h.2.1 h.1, h.2.2, fun u e => P.keep p u (fun z => z) (h.nt F.mh) e⟩
theorem Frm.afterS (F : Frm A σ H B Γ) (hi : Γ[i]? = some (.cel p cc st)) (P : Post (ambS B H p) H' B') (k : ∃ o, H' p = some o ∧ cc.ok B' o st') : Frm A σ H' B' (Γ.set i (.cel p cc st')) := by
  obtain ⟨e1, n, m, _⟩ := F.sl i _ hi
  refine F.chg hi ⟨P.bh, fun p o e => P.b0 p o (F.b0 p o e), fun q o nm nt e => P.keep q o (fun z => ?_) nt (F.keep q o nm nt e), fun p n z => P.out p (F.alive p n) (F.out p n z), fun p n => P.alive p (F.alive p n), F.sub, F.mh, A.up _ _ P.b0 F.ph, P.sz, P.tb⟩ P.b0 fun ow hh so => ⟨ow, fun q z => .inl z, fun q z => ?_, fun q h nq => ⟨P.out q h.2.1 h.1, fun u hu => P.keep q u (fun (z : q = p) => nq (by rw [z]; exact so.2.1)) (h.nt F.mh) hu⟩, e1, so.2.1, k⟩
  · have z' : q = p := z
    subst z'
    rcases m with m | m
    · rw [m] at e; cases e
    · exact nm m
  · have h := hh q z
    exact ⟨P.out q h.2.1 h.1, P.alive q h.2.1, h.2.2⟩
theorem ev_call {m : α → Option β} {a : α} {b : β} {E : XK} {ta : TA} (h : EvW w ta Γ Γ1 a) (e : m a = some b) : EvX r (tCall (SpP w r m) [] E ta) Γ Γ1 b := fun A σ H B F Q q => h A σ H B F _ fun vs H1 B1 F1 s1 k1 => by
  rw [List.append_nil]
  exact ⟨B1, a, b, F1.szt, F1.bh, k1, e, fun H2 B2 v P k => q v H2 B2 (F1.after P) (s1.trans P.b0) k⟩
theorem ev_callS {m : γ → α → Option (β × γ)} {a : α} {b : β} {E : XK} {tr : TA} (h : EvW w tr Γ Γ1 a) (hi0 : Γ[i]?.bind celAt = some p) (hi : Γ1[i]? = some (.cel p cc st)) (e : m st a = some (b, st')) : EvX r (tCall (SpS cc w r m) [] E (tCons (tVar i) tr)) Γ (Γ1.set i (.cel p cc st')) b :=
  fun A σ H B F Q q => by
    have hv : σ[i]? = some (some (V.ref p)) := by
      cases e : Γ[i]? with
      | none => rw [e] at hi0; cases hi0
      | some s =>
        rw [e] at hi0
        have h := F.sl i s e
        cases s with
        | no => cases hi0
        | imm r a => cases hi0
        | cel q c a => cases hi0; exact h.1
        | tre v c a => cases hi0
    refine ⟨_, hv, ?_⟩
    refine h A σ H B F _ fun vs H1 B1 F1 s1 k1 => ?_
    show SpS cc w r m ((V.ref p :: vs) ++ []) H1 Q E
    rw [List.append_nil]
    obtain ⟨_, n, m, o, ho, ko⟩ := F1.sl i _ hi
    exact ⟨p, vs, B1, o, st, a, (b, st'), rfl, F1.szt, F1.bh, ⟨n, Hot.nt (F1.hot hi rfl) F1.mh⟩, ho, ko, k1, e, fun H2 B2 v P k => q v H2 B2 (F1.afterS hi P k.2) (s1.trans P.b0) k.1⟩
end

/-! ### a def -/
class WSl {α : Type} (w : Rw α) (f : outParam (α → List Sl)) : Prop where
  ok : ∀ {B vs a}, w.rel B vs a → (f a).length = vs.length ∧ ∀ (i : Nat) (s : Sl), (f a)[i]? = some s → plain s ∧ ∀ (σ : L2.St) (H : Hp) (o : Addr → Prop), (∀ v, vs[i]? = some v → σ[i]? = some (some v)) → SlO σ H B o i s
instance : WSl w0 (fun _ => []) := ⟨fun h => ⟨by rw [show _ = ([] : List V) from h]; rfl, fun i s e => by simp at e⟩⟩
instance {α : Type} (r : Rp α) : WSl (w1 r) (fun a => [.imm r a]) := ⟨fun {B vs a} ⟨v, e, k⟩ => ⟨by rw [e]; rfl, fun i s q => by
  cases i with
  | zero => cases q; exact ⟨trivial, fun σ H o h => ⟨v, h v (by rw [e]; rfl), k⟩⟩
  | succ i => simp at q⟩⟩
theorem slok_shift {σ σ' : L2.St} {H B : Hp} {o : Addr → Prop} {i j : Nat} {s : Sl} (h : SlO σ H B o i s) (e : σ[i]? = σ'[j]?) : SlO σ' H B o j s := by
  cases s with
  | no => trivial
  | imm r a => obtain ⟨v, q, k⟩ := h; exact ⟨v, by rw [← e]; exact q, k⟩
  | cel p c a => obtain ⟨q, k⟩ := h; exact ⟨by rw [← e]; exact q, k⟩
  | tre v c a => obtain ⟨q, k⟩ := h; exact ⟨by rw [← e]; exact q, k⟩
instance {α β : Type} (r : Rp α) (w : Rw β) {f : β → List Sl} [k : WSl w f] : WSl (wC r w) (fun a => .imm r a.1 :: f a.2) := ⟨fun {B vs a} ⟨v, t, e, k1, k2⟩ => by
  obtain ⟨hl, hs⟩ := k.ok k2
  refine ⟨by rw [e, List.length_cons, List.length_cons, hl], fun i s q => ?_⟩
  cases i with
  | zero => cases q; exact ⟨trivial, fun σ H o h => ⟨v, h v (by rw [e]; rfl), k1⟩⟩
  | succ i =>
    obtain ⟨h1, h2⟩ := hs i s (by simpa using q)
    refine ⟨h1, fun σ H o h => ?_⟩
    have g := h2 σ.tail H o (fun u hu => by
      have := h u (by rw [e]; simpa using hu)
      cases σ with
      | nil => simp at this
      | cons x y => simpa using this)
    exact slok_shift g (by cases σ <;> simp)⟩
theorem start_get {N : List Str} {vs : List V} {i : Nat} {v : V} (e : vs[i]? = some v) : (L2.start N vs)[i]? = some (some v) := by
  unfold L2.start
  have hl : i < (vs.map some).length := by rw [List.length_map]; exact (List.getElem?_eq_some_iff.mp e).1
  rw [List.getElem?_append_left hl, List.getElem?_map, e]; rfl
theorem start_len {N : List Str} {vs : List V} (h : vs.length ≤ N.length) : (L2.start N vs).length = N.length := by
  unfold L2.start
  rw [List.length_append, List.length_map, List.length_replicate]; omega
section
variable {α β γ : Type} {r : Rp β} {w : Rw α} {cc : Cl γ}
theorem rep_sp {l : List Sl} {n i : Nat} {s : Sl} (e : (l ++ List.replicate n .no)[i]? = some s) : l[i]? = some s ∨ s = .no := by
  by_cases hi : i < l.length
  · rw [List.getElem?_append_left hi] at e; exact .inl e
  · rw [List.getElem?_append_right (by omega), List.getElem?_replicate] at e
    split at e
    · cases e; exact .inr rfl
    · cases e
theorem frm_start {f : α → List Sl} [k : WSl w f] {B H : Hp} {vs : List V} {a : α} {N : List Str} {n : Nat} (z : SzT H B) (s : Same B H) (h : w.rel B vs a) (hN : N.length = vs.length + n) : Frm (amb0 B H) (L2.start N vs) H B (f a ++ List.replicate n .no) := by
  obtain ⟨hl, hs⟩ := k.ok h
  refine ⟨⟨s, Same.refl _, fun _ _ _ _ e => e, fun _ _ e => e, fun _ n => n, s, ⟨fun _ z => z.elim, fun _ z => z.elim, fun _ m n => z.tb.ne n m⟩, trivial, z.sz, z.tb⟩, ?_, fun _ _ => False, fun i s e => ?_, fun _ _ _ z => z.elim, fun _ _ z => z.elim⟩
  · rw [start_len (by omega), List.length_append, List.length_replicate, hl]; exact hN
  · rcases rep_sp e with e | rfl
    · exact (hs i s e).2 _ _ _ fun v hv => start_get hv
    · trivial
theorem start_cons {N : List Str} {vs : List V} {v : V} : ∃ N', (L2.start N (v :: vs)) = some v :: L2.start N' vs := ⟨N.drop 1, by
  unfold L2.start
  rw [List.map_cons, List.cons_append, List.length_cons, List.length_drop]
  congr 3; omega⟩
theorem frm_startS {f : α → List Sl} [k : WSl w f] {B H : Hp} {vs : List V} {a : α} {N : List Str} {n : Nat} {p : Addr} {o : HO} {st : γ} (z : SzT H B) (s : Same B H) (hB : HotP B p) (hp : H p = some o) (ko : cc.ok B o st) (h : w.rel B vs a) (hN : N.length = (vs.length + 1) + n) :
    Frm (ambS B H p) (L2.start N (.ref p :: vs)) H B (.cel p cc st :: (f a ++ List.replicate n .no)) := by
  obtain ⟨hl, hs⟩ := k.ok h
  refine ⟨⟨s, Same.refl _, fun _ _ _ _ e => e, fun _ _ e => e, fun _ n => n, s, ⟨fun q (z : q = p) => by show H q ≠ none; rw [z, hp]; simp, fun q (z : q = p) m => hB.2 (by rw [← z]; exact m), fun _ m n => z.tb.ne n m⟩, trivial, z.sz, z.tb⟩, ?_, fun i q => i = 0 ∧ q = p, fun i s e => ?_, fun i j q ei ej => by rw [ei.1, ej.1], fun i q e => ?_⟩
  · rw [start_len (by rw [List.length_cons]; omega), List.length_cons, List.length_append, List.length_replicate, hl, hN]; omega
  · cases i with
    | zero => cases e; exact ⟨start_get rfl, ⟨rfl, rfl⟩, o, hp, ko⟩
    | succ i =>
      rcases rep_sp (by simpa using e) with e | rfl
      · obtain ⟨N', e'⟩ := start_cons (N := N) (vs := vs) (v := .ref p)
        exact slok_shift ((hs i s e).2 (L2.start N' vs) H _ fun v hv => start_get hv) (by rw [e']; simp)
      · trivial
  · rw [e.2]; exact ⟨hB.1, by rw [hp]; simp, .inr rfl⟩
end
end G

set_option maxHeartbeats 4000000
/-! # G: loops -/
namespace G
variable [TabL]
open PySem PySem.Spec PyProof.Rows L2

/-! ### the mirrors of loops -/
inductive Step (ρ ς : Type) where
  | nx (s : ς)
  | brk (s : ς)
  | ret (b : ρ)
def forL {α ρ ς : Type} (f : α → ς → Option (Step ρ ς)) : List α → ς → Option (Step ρ ς)
  | [], s => some (.nx s)
  | x :: xs, s => match f x s with
    | none => none
    | some (.nx s') => forL f xs s'
    | some (.brk s') => some (.nx s')
    | some (.ret b) => some (.ret b)
def whL {ρ ς : Type} (c : ς → Option Bool) (f : ς → Option (Step ρ ς)) : Nat → ς → Option (Step ρ ς)
  | 0, _ => none
  | n + 1, s => match c s with
    | none => none
    | some false => some (.nx s)
    | some true => match f s with
      | none => none
      | some (.nx s') => whL c f n s'
      | some (.brk s') => some (.nx s')
      | some (.ret b) => some (.ret b)
def compL {α β : Type} (f : α → Option (Option β)) : List α → Option (List β)
  | [] => some []
  | x :: xs => match f x with
    | none => none
    | some none => compL f xs
    | some (some y) => match compL f xs with
      | none => none
      | some ys => some (y :: ys)
def compS {α β ς : Type} (f : α → ς → Option (Option β × ς)) : List α → ς → Option (List β × ς)
  | [], s => some ([], s)
  | x :: xs, s => match f x s with
    | none => none
    | some (none, s') => compS f xs s'
    | some (some y, s') => match compS f xs s' with
      | none => none
      | some (ys, s'') => some (y :: ys, s'')

/-! ### what is walked -/
structure Yl {α : Type} (Bx : Hp) (J : It) (r : Rp α) (xs : List α) : Prop where
  len : xs.length ≤ sizeLine
  stop : ∀ H B, Same Bx B → Same B H → J.stop xs.length H
  go : ∀ i H B, Same Bx B → Same B H → i < xs.length → J.go i H
  yld : ∀ (i : Nat) (x : α) H B v H', Same Bx B → Same B H → xs[i]? = some x → J.yld i H v H' → ∀ (A : Amb) (σ : L2.St) (Γ : List Sl), Frm A σ H B Γ → ∃ B', Frm A σ H' B' Γ ∧ Same B B' ∧ r.rel B' v x
def ItX {α : Type} (r : Rp α) (wi : TI) (Γ Γ' : List Sl) (xs : List α) : Prop := ∀ (A : Amb) (σ : L2.St) (H B : Hp), Frm A σ H B Γ → ∀ R : It → Hp → Prop, (∀ J H' B', Frm A σ H' B' Γ' → Same B B' → Yl B' J r xs → R J H') → wi σ H R
/-- the target of a store -/
def TgX {α : Type} (g : TG) (r : Rp α) (vs : List Nat) (Γ : List Sl) (Γf : α → List Sl) : Prop := ∀ (A : Amb) (σ : L2.St) (H B : Hp) (v : V) (x : α), Frm A σ H B Γ → r.rel B v x → ∀ Q : L2.St → Hp → Prop,
  (∀ σ', Frm A σ' H B (Γf x) → σ'.length = σ.length → (∀ k, k ∉ vs → σ'[k]? = σ[k]?) → Q σ' H) → g v σ H Q
section
variable {α β γ ρ ς : Type} {r ra : Rp α} {rb : Rp β} {te ta tb : TE} {Γ Γ1 Γ2 : List Sl} {xs : List α} {K : PySem.W.Frag}
theorem it_list (h : EvX (rLst r) te Γ Γ1 xs) : ItX r (iList K te) Γ Γ1 xs := fun A σ H B F R q => h A σ H B F _ fun v H' B' F' s k => by
  obtain ⟨p, o, rfl, hp, vs, rfl, kp⟩ := k
  refine ⟨p, rfl, ⟨vs, SqL.of (F'.bh _ _ hp)⟩, q _ H' B' F' s ⟨by rw [← Paired.len kp]; exact F'.sz _ _ (F'.bh _ _ hp), fun H2 B2 s1 s2 => ?_, fun i H2 B2 s1 s2 hi => ?_, fun i x H2 B2 v H3 s1 s2 hx hy A σ Γ F => ?_⟩⟩
  · exact ⟨vs, SqL.of (s2 _ _ (s1 _ _ hp)), by rw [Paired.len kp]; exact Nat.le_refl _⟩
  · obtain ⟨y, hy⟩ : ∃ y, vs[i]? = some y := ⟨_, List.getElem?_eq_getElem (by rw [Paired.len kp]; exact hi)⟩
    exact ⟨vs, y, SqL.of (s2 _ _ (s1 _ _ hp)), hy⟩
  · obtain ⟨rfl, hv⟩ := hy
    obtain ⟨y, hy, ky⟩ := Paired.getR kp hx
    have e := hv vs (SqL.of (s2 _ _ (s1 _ _ hp)))
    rw [hy] at e; cases e
    exact ⟨B2, F, Same.refl _, r.mono s1 ky⟩
theorem it_tpl (h : EvX (rTpl r) te Γ Γ1 xs) : ItX r (iTup K te) Γ Γ1 xs := fun A σ H B F R q => h A σ H B F _ fun v H' B' F' s k => by
  obtain ⟨p, o, rfl, hp, vs, rfl, kp⟩ := k
  refine ⟨p, rfl, ⟨vs, SqT.of (F'.bh _ _ hp)⟩, q _ H' B' F' s ⟨by rw [← Paired.len kp]; exact F'.sz _ _ (F'.bh _ _ hp), fun H2 B2 s1 s2 => ?_, fun i H2 B2 s1 s2 hi => ?_, fun i x H2 B2 v H3 s1 s2 hx hy A σ Γ F => ?_⟩⟩
  · exact ⟨vs, SqT.of (s2 _ _ (s1 _ _ hp)), by rw [Paired.len kp]; exact Nat.le_refl _⟩
  · obtain ⟨y, hy⟩ : ∃ y, vs[i]? = some y := ⟨_, List.getElem?_eq_getElem (by rw [Paired.len kp]; exact hi)⟩
    exact ⟨vs, y, SqT.of (s2 _ _ (s1 _ _ hp)), hy⟩
  · obtain ⟨rfl, hv⟩ := hy
    obtain ⟨y, hy, ky⟩ := Paired.getR kp hx
    have e := hv vs (SqT.of (s2 _ _ (s1 _ _ hp)))
    rw [hy] at e; cases e
    exact ⟨B2, F, Same.refl _, r.mono s1 ky⟩
/-- lo, lo + 1, .. -/
def rng (lo : Int) (n : Nat) : List Int := (List.range n).map fun (i : Nat) => lo + (i : Int)
theorem rng_len (lo : Int) (n : Nat) : (rng lo n).length = n := by unfold rng; rw [List.length_map, List.length_range]
theorem rng_get {lo : Int} {n i : Nat} {x : Int} (h : (rng lo n)[i]? = some x) : i < n ∧ x = lo + (i : Int) := by
  unfold rng at h
  rw [List.getElem?_map] at h
  cases e : (List.range n)[i]? with
  | none => rw [e] at h; cases h
  | some j =>
    rw [e] at h
    have hl : i < n := by have := (List.getElem?_eq_some_iff.mp e).1; rwa [List.length_range] at this
    rw [List.getElem?_range hl] at e
    cases e; cases h
    exact ⟨hl, rfl⟩
theorem yl_rng {Bx : Hp} {lo : Int} {n : Nat} (hn : n ≤ 1000000) : Yl Bx (Itr lo n) rInt (rng lo n) := ⟨by rw [rng_len]; exact Nat.le_trans hn (by decide), fun H B _ _ => by rw [rng_len]; exact Nat.le_refl _, fun i H B _ _ hi => by rw [rng_len] at hi; exact hi, fun i x H B v H' _ _ hx hy A σ Γ F => by
  obtain ⟨rfl, e⟩ := hy
  exact ⟨B, F, Same.refl _, by rw [(rng_get hx).2]; exact e⟩⟩
/-- range(j) -/
def pyRng (j : Int) : Option (List Int) := if -(2 ^ 62) ≤ j ∧ j ≤ 1000000 then some (rng 0 j.toNat) else none
def pyRng2 (i j : Int) : Option (List Int) := if (-(2 ^ 62) ≤ i ∧ i < 2 ^ 62 ∧ -(2 ^ 62) ≤ j ∧ j < 2 ^ 62) ∧ j - i ≤ 1000000 then some (rng i (j - i).toNat) else none
theorem it_rng1 {ta : TA} {j : Int} {l : List Int} (h : EvW (w1 rInt) ta Γ Γ1 j) (e : pyRng j = some l) : ItX rInt (iRng1 ta) Γ Γ1 l := fun A σ H B F R q => h A σ H B F _ fun vs H' B' F' s k => by
  obtain ⟨v, rfl, rfl⟩ := k
  unfold pyRng at e
  split at e
  · rename_i hj
    cases e
    exact ⟨j, rfl, hj.1, by omega, q _ H' B' F' s (yl_rng (by omega))⟩
  · cases e
theorem it_rng2 {ta : TA} {i j : Int} {l : List Int} (h : EvW (wC rInt (w1 rInt)) ta Γ Γ1 (i, j)) (e : pyRng2 i j = some l) : ItX rInt (iRng2 ta) Γ Γ1 l := fun A σ H B F R q => h A σ H B F _ fun vs H' B' F' s k => by
  obtain ⟨v, t, rfl, rfl, u, rfl, rfl⟩ := k
  unfold pyRng2 at e
  split at e
  · rename_i hj
    cases e
    exact ⟨i, j, rfl, hj.1, q _ H' B' F' s (yl_rng (by omega))⟩
  · cases e
/-- a text's signs -/
def sgn (z : Str) : List Str := z.cps.toList.map fun c => (⟨#[c]⟩ : Str)
def pySgn (z : Str) : Option (List Str) := if z.length ≤ 1000000 then some (sgn z) else none
theorem it_str {z : Str} {l : List Str} (h : EvX rStr te Γ Γ1 z) (e : pySgn z = some l) : ItX rStr (iStr te) Γ Γ1 l := fun A σ H B F R q => h A σ H B F _ fun v H' B' F' s k => by
  unfold pySgn at e
  split at e <;> cases e
  rename_i hz
  refine ⟨z, k, q _ H' B' F' s ⟨by unfold sgn; rw [List.length_map, Array.length_toList]; exact Nat.le_trans hz (by decide), fun H2 B2 _ _ => ?_, fun i H2 B2 _ _ hi => ?_, fun i x H2 B2 v H3 _ _ hx hy A σ Γ F => ?_⟩⟩
  · unfold sgn; rw [List.length_map]; first | exact rfl | exact Nat.le_refl _ | (simp [Its, Str.length])
  · unfold sgn at hi; rw [List.length_map] at hi; simpa [Its, Str.length] using hi
  · unfold sgn at hx
    rw [List.getElem?_map] at hx
    obtain ⟨rfl, hv⟩ := hy
    obtain ⟨c, hc, ev⟩ := hv
    have hc' : z.cps.toList[i]? = some c := by first | exact hc | simpa using hc
    rw [hc'] at hx
    cases hx
    exact ⟨B2, F, Same.refl _, ev⟩
/-! ### targets -/
theorem tg_name {j : Nat} : TgX (gName j) r [j] Γ (fun x => Γ.set j (.imm r x)) := fun A σ H B v x F k Q q => q _ (F.set k) (by rw [List.length_set]) fun n hn => by
  rw [List.getElem?_set_ne (fun e => hn (by rw [e]; exact List.mem_singleton.mpr rfl))]
/-- a tuple's parts -/
def TgW {α : Type} (g : TGs) (w : Rw α) (vs : List Nat) (Γ : List Sl) (Γf : α → List Sl) : Prop := ∀ (A : Amb) (σ : L2.St) (H B : Hp) (us : List V) (x : α), Frm A σ H B Γ → w.rel B us x → ∀ Q : L2.St → Hp → Prop,
  (∀ σ', Frm A σ' H B (Γf x) → σ'.length = σ.length → (∀ k, k ∉ vs → σ'[k]? = σ[k]?) → Q σ' H) → g us σ H Q
theorem tw_1 {g : TG} {vs : List Nat} {Γf : α → List Sl} (h : TgX g r vs Γ Γf) : TgW (gCons g gNil) (w1 r) vs Γ Γf := fun A σ H B us x F k Q q => by
  obtain ⟨v, rfl, k⟩ := k
  exact ⟨v, [], rfl, h A σ H B v x F k _ fun σ' F' l d => ⟨rfl, q σ' F' l d⟩⟩
theorem tw_C {g : TG} {gs : TGs} {w : Rw β} {vs ws : List Nat} {Γf : α → List Sl} {Γg : α → β → List Sl} (h : TgX g r vs Γ Γf) (hr : ∀ x, TgW gs w ws (Γf x) (Γg x)) : TgW (gCons g gs) (wC r w) (vs ++ ws) Γ (fun x => Γg x.1 x.2) := fun A σ H B us x F k Q q => by
  obtain ⟨v, t, rfl, k1, k2⟩ := k
  exact ⟨v, t, rfl, h A σ H B v x.1 F k1 _ fun σ' F' l d => hr x.1 A σ' H B t x.2 F' k2 _ fun σ2 F2 l2 d2 => q σ2 F2 (l2.trans l) fun k hk =>
    (d2 k fun z => hk (List.mem_append_right _ z)).trans (d k fun z => hk (List.mem_append_left _ z))⟩
theorem tg_tup {g : TGs} {n m : Nat} {w : Rw α} [i : WLen w m] {vs : List Nat} {Γf : α → List Sl} (h : TgW g w vs Γ Γf) (e : m = n := by rfl) : TgX (gTup K n g) (rTup w) vs Γ Γf := fun A σ H B v x F k Q q => by
  obtain ⟨p, us, rfl, hp, kw⟩ := ob_tup F.bh k
  exact ⟨p, us, rfl, SqT.of hp, (i.len kw).trans e, h A σ H B us x F kw Q q⟩
theorem nx_asgT {A : Amb} {D : Ends} {g : TG} {vs : List Nat} {Γf : α → List Sl} {a : α} (h : EvX r te Γ Γ1 a) (hg : TgX g r vs Γ1 Γf) (k : Nx A D.nx (Γf a)) : Nx A (tAsg te g D) Γ := fun σ H B F => h A σ H B F _ fun v H' B' F' _ q =>
  hg A σ H' B' v a F' q _ fun σ' F2 _ _ => k σ' H' B' F2

/-! ### for -/
def Amb.and (A : Amb) (Bx : Hp) : Amb := ⟨A.B0, A.H0, A.m, fun B => A.φ B ∧ Same Bx B, fun B B' s h => ⟨A.up B B' s h.1, h.2.trans s⟩⟩
theorem MH.and {A : Amb} {Bx : Hp} (h : MH A) : MH (A.and Bx) := ⟨h.al, h.nt, h.tb⟩
theorem Post.and {A : Amb} {H B Bx : Hp} (P : Post A H B) (s : Same Bx B) : Post (A.and Bx) H B := ⟨P.bh, P.b0, P.keep, P.out, P.alive, P.sub, P.mh.and, ⟨P.ph, s⟩, P.sz, P.tb⟩
theorem Post.unand {A : Amb} {H B Bx : Hp} (P : Post (A.and Bx) H B) : Post A H B := ⟨P.bh, P.b0, P.keep, P.out, P.alive, P.sub, ⟨P.mh.al, P.mh.nt, P.mh.tb⟩, P.ph.1, P.sz, P.tb⟩
theorem Frm.and {A : Amb} {σ : L2.St} {H B Bx : Hp} {Γ : List Sl} (F : Frm A σ H B Γ) (s : Same Bx B) : Frm (A.and Bx) σ H B Γ := by obtain ⟨ow, W⟩ := F.own; exact ⟨F.post.and s, F.len, ow, W.so, W.dj, W.ht⟩
theorem Frm.unand {A : Amb} {σ : L2.St} {H B Bx : Hp} {Γ : List Sl} (F : Frm (A.and Bx) σ H B Γ) : Frm A σ H B Γ := by obtain ⟨ow, W⟩ := F.own; exact ⟨F.post.unand, F.len, ow, W.so, W.dj, W.ht⟩
/-- what a body must do: from s with the step st -/
structure Conts {ρ ς : Type} (A : Amb) (ψ : ρ → Hp → Hp → V → Prop) (D : Ends) (mk : ς → List Sl) (st : Step ρ ς) : Prop where
  nx : ∀ s, st = .nx s → Nx A D.nx (mk s)
  ct : ∀ s, st = .nx s → Nx A D.ct (mk s)
  bk : ∀ s, st = .brk s → Nx A D.bk (mk s)
  rt : ∀ b, st = .ret b → Rt A ψ b D.rt
theorem nx_for {A : Amb} {ψ : ρ → Hp → Hp → V → Prop} {wi : TI} {g : TG} {tb : TS} {D : Ends} {vs : List Nat} (f : α → ς → Option (Step ρ ς)) (mk : ς → List Sl) {Γf : α → ς → List Sl} {s0 : ς} {R0 : Step ρ ς}
    (hi : ItX r wi Γ Γ1 xs) (e : forL f xs s0 = some R0) (h0 : ∀ A' : Amb, A'.m = A.m ∧ A'.H0 = A.H0 → Nx A' (Fin A' (mk s0)) Γ1)
    (hg : ∀ s, TgX g r vs (mk s) (fun x => Γf x s))
    (hb : ∀ (A' : Amb) (D' : Ends) (x : α) (s : ς) (st : Step ρ ς), A'.m = A.m ∧ A'.H0 = A.H0 → f x s = some st → Conts A' ψ D' mk st → Nx A' (tb D') (Γf x s))
    (hr : ∀ b, R0 = .ret b → Rt A ψ b D.rt) (hd : ∀ s, R0 = .nx s → Nx A D.nx (mk s)) : Nx A (tFor wi g tb D) Γ := fun σ H B F => by
  refine hi A σ H B F _ fun J H1 B1 F1 s1 Y => ?_
  refine ⟨fun i m σ H => m = xs.length - i ∧ i ≤ xs.length ∧ ∃ B s, Frm (A.and B1) σ H B (mk s) ∧ forL f (xs.drop i) s = some R0, ?_, ?_⟩
  · obtain ⟨B2, F2⟩ := h0 (A.and B1) ⟨rfl, rfl⟩ σ H1 B1 (F1.and (Same.refl _))
    exact ⟨_, rfl, Nat.zero_le _, B2, s0, F2, by rw [List.drop_zero]; exact e⟩
  · rintro i m σ2 H2 ⟨rfl, hi, B2, s2, F2, e2⟩
    by_cases hlt : i < xs.length
    · right
      have hx : xs[i]? = some xs[i] := List.getElem?_eq_getElem hlt
      rw [List.drop_eq_getElem_cons hlt] at e2
      refine ⟨Y.go i H2 B2 F2.ph.2 F2.bh hlt, fun σ3 H3 => ∃ s3, Fin (A.and B1) (mk s3) σ3 H3 ∧ forL f (xs.drop (i + 1)) s3 = some R0, fun σ3 H3 ⟨s3, ⟨B3, F3⟩, e3⟩ => ⟨_, by omega, rfl, by omega, B3, s3, F3, e3⟩, fun v H3 hy => ?_⟩
      obtain ⟨B3, F3, s3, k3⟩ := Y.yld i _ H2 B2 v H3 F2.ph.2 F2.bh hx hy (A.and B1) σ2 (mk s2) F2
      refine hg s2 (A.and B1) σ2 H3 B3 v xs[i] F3 k3 _ fun σ4 F4 _ _ => ?_
      unfold forL at e2
      cases q : f xs[i] s2 with
      | none => rw [q] at e2; cases e2
      | some st =>
        rw [q] at e2
        refine hb (A.and B1) _ xs[i] s2 st ⟨rfl, rfl⟩ q ⟨fun s5 z => ?_, fun s5 z => ?_, fun s5 z => ?_, fun b z => ?_⟩ σ4 H3 B3 F4
        · subst z
          exact fun σ5 H5 B5 F5 => ⟨s5, ⟨B5, F5⟩, e2⟩
        · subst z
          exact fun σ5 H5 B5 F5 => ⟨s5, ⟨B5, F5⟩, e2⟩
        · subst z
          exact fun σ5 H5 B5 F5 => hd s5 (Option.some.inj e2).symm σ5 H5 B5 F5.unand
        · subst z
          exact fun H5 B5 v5 P5 k5 => hr b (Option.some.inj e2).symm H5 B5 v5 P5.unand k5
    · left
      have hil : i = xs.length := by omega
      subst hil
      refine ⟨Y.stop H2 B2 F2.ph.2 F2.bh, ?_⟩
      rw [List.drop_length] at e2
      unfold forL at e2
      exact hd s2 (Option.some.inj e2).symm σ2 H2 B2 F2.unand
/-- while, by how many turns are left at most -/
theorem nx_while {A : Amb} {ψ : ρ → Hp → Hp → V → Prop} {tt : TT} {tb : TS} {D : Ends} (c : ς → Option Bool) (f : ς → Option (Step ρ ς)) (mk : ς → List Sl) {s0 : ς} {R0 : Step ρ ς} {n : Nat}
    (e : whL c f n s0 = some R0) (h0 : Nx A (Fin A (mk s0)) Γ) (ht : ∀ s b, c s = some b → EvT tt (mk s) (mk s) b)
    (hb : ∀ (D' : Ends) (s : ς) (st : Step ρ ς), c s = some true → f s = some st → Conts A ψ D' mk st → Nx A (tb D') (mk s))
    (hr : ∀ b, R0 = .ret b → Rt A ψ b D.rt) (hd : ∀ s, R0 = .nx s → Nx A D.nx (mk s)) : Nx A (tWhile tt tb D) Γ := fun σ H B F => by
  refine ⟨fun m σ H => ∃ B s, Frm A σ H B (mk s) ∧ whL c f m s = some R0, ?_, ?_⟩
  · obtain ⟨B1, F1⟩ := h0 σ H B F
    exact ⟨n, B1, s0, F1, e⟩
  · rintro m σ1 H1 ⟨B1, s1, F1, e1⟩
    cases m with
    | zero => cases e1
    | succ m =>
      unfold whL at e1
      cases q : c s1 with
      | none => rw [q] at e1; cases e1
      | some b =>
        rw [q] at e1
        refine ht s1 b q A σ1 H1 B1 F1 _ fun H2 B2 F2 s2 => ?_
        cases b with
        | false => exact hd s1 (Option.some.inj e1).symm σ1 H2 B2 F2
        | true =>
          refine ⟨fun σ3 H3 => ∃ s3, Fin A (mk s3) σ3 H3 ∧ whL c f m s3 = some R0, fun σ3 H3 ⟨s3, ⟨B3, F3⟩, e3⟩ => ⟨m, Nat.lt_succ_self m, B3, s3, F3, e3⟩, ?_⟩
          cases q2 : f s1 with
          | none => rw [q2] at e1; cases e1
          | some st =>
            rw [q2] at e1
            refine hb _ s1 st q q2 ⟨fun s5 z => ?_, fun s5 z => ?_, fun s5 z => ?_, fun b z => ?_⟩ σ1 H2 B2 F2
            · subst z
              exact fun σ5 H5 B5 F5 => ⟨s5, ⟨B5, F5⟩, e1⟩
            · subst z
              exact fun σ5 H5 B5 F5 => ⟨s5, ⟨B5, F5⟩, e1⟩
            · subst z
              exact hd s5 (Option.some.inj e1).symm
            · subst z
              exact hr b (Option.some.inj e1).symm

/-! ### comprehensions -/
theorem Frm.hidset {A : Amb} {σ : L2.St} {H B : Hp} {Γ : List Sl} {p : Addr} {o o' : HO} (F : Frm (A.add p o) σ H B Γ) (h0 : A.H0 p = none) (mh : MH A) (sub : Same A.B0 A.H0) (ho : szO o') : Frm (A.add p o') σ (upd H p o') B Γ := by
  have hBp : B p = none := F.hidB h0 sub
  have hm : ¬ A.m p := fun m => mh.al p m h0
  have nT : ¬ isTab p := fun m => mh.tb p m h0
  refine F.move ⟨fun b u e => ?_, F.b0, fun b u m nt e => ?_, fun b n z => ?_, fun b n => ?_, fun b u e => ?_, ⟨fun b m => ?_, mh.nt, fun b m => ?_⟩, F.ph, F.sz.upd ho, F.tb.upd nT⟩ (Same.refl _) fun q h => ⟨h.1, ?_, fun u hu => by rw [upd_ne (h.ne hm)]; exact hu⟩
  · have hb : b ≠ p := fun z => by rw [z, hBp] at e; cases e
    rw [upd_ne hb]; exact F.bh b u e
  · by_cases hb : b = p
    · subst hb
      have e' : upd A.H0 b o' b = some u := e
      rw [upd_same] at e'; rw [upd_same]; exact e'
    · have e' : upd A.H0 p o' b = some u := e
      rw [upd_ne hb] at e'; rw [upd_ne hb]
      exact F.keep b u m nt (by show upd A.H0 p o b = some u; rw [upd_ne hb]; exact e')
  · by_cases hb : b = p
    · rw [hb]; exact hBp
    · have n' : upd A.H0 p o' b ≠ none := n
      rw [upd_ne hb] at n'
      exact F.out b (by show upd A.H0 p o b ≠ none; rw [upd_ne hb]; exact n') z
  · by_cases hb : b = p
    · subst hb; rw [upd_same]; simp
    · have n' : upd A.H0 p o' b ≠ none := n
      rw [upd_ne hb] at n'; rw [upd_ne hb]
      exact F.alive b (by show upd A.H0 p o b ≠ none; rw [upd_ne hb]; exact n')
  · have hb : b ≠ p := fun z => by rw [z] at e; exact absurd (sub p u e) (by rw [h0]; simp)
    show upd A.H0 p o' b = some u
    rw [upd_ne hb]; exact sub b u e
  · have hb : b ≠ p := fun z => by rw [z] at m; exact hm m
    show upd A.H0 p o' b ≠ none
    rw [upd_ne hb]
    exact mh.al b m
  · by_cases hb : b = p
    · exact absurd (hb ▸ m) nT
    · show upd A.H0 p o' b ≠ none
      rw [upd_ne hb]; exact mh.tb b m
  · have hq := h.ne hm
    rcases h.2.2 with m | m
    · left
      have m' : upd A.H0 p o q = none := m
      rw [upd_ne hq] at m'
      show upd A.H0 p o' q = none
      rw [upd_ne hq]; exact m'
    · exact .inr m
/-- slots emptied -/
def wipeG (Γ : List Sl) : List Nat → List Sl
  | [] => Γ
  | v :: vs => (wipeG Γ vs).set v .no
theorem Frm.wipe {A : Amb} {σ : L2.St} {H B : Hp} {Γ : List Sl} (F : Frm A σ H B Γ) : ∀ vs : List Nat, Frm A (L2.wipe σ vs) H B (wipeG Γ vs)
  | [] => F
  | v :: vs => (F.wipe vs).put (σ' := (L2.wipe σ vs).set v none) (List.length_set) (fun j ne => by rw [List.getElem?_set_ne ne]) fun _ _ _ => trivial
theorem wipe_get (σ : L2.St) : ∀ (vs : List Nat) (k : Nat), (L2.wipe σ vs)[k]? = if k ∈ vs then (if k < σ.length then some none else none) else σ[k]?
  | [], k => by simp [L2.wipe]
  | v :: vs, k => by
    show ((L2.wipe σ vs).set v none)[k]? = _
    by_cases e : v = k
    · subst e
      rw [List.getElem?_set, if_pos rfl, if_pos (List.mem_cons_self), L2.wipe_length]
    · rw [List.getElem?_set_ne e, wipe_get σ vs k]
      have : (k ∈ v :: vs) ↔ k ∈ vs := by
        rw [List.mem_cons]; exact ⟨fun h => h.resolve_left fun z => e z.symm, .inr⟩
      simp only [this]
theorem wipe_same {σ σ' : L2.St} {vs : List Nat} (hl : σ'.length = σ.length) (h : ∀ k, k ∉ vs → σ'[k]? = σ[k]?) : L2.wipe σ' vs = L2.wipe σ vs := by
  apply List.ext_getElem?
  intro k
  rw [wipe_get, wipe_get, hl]
  by_cases hk : k ∈ vs
  · rw [if_pos hk, if_pos hk]
  · rw [if_neg hk, if_neg hk]; exact h k hk
theorem wipe_wipe {σ σ' : L2.St} {vs : List Nat} (hl : σ'.length = (L2.wipe σ vs).length) (h : ∀ k, k ∉ vs → σ'[k]? = (L2.wipe σ vs)[k]?) : L2.wipe σ' vs = L2.wipe σ vs :=
  wipe_same (by rw [hl, L2.wipe_length]) fun k hk => by rw [h k hk, wipe_get, if_neg hk]
theorem Frm.unwipe {A : Amb} {σ : L2.St} {H B : Hp} {Γ : List Sl} {vs : List Nat} (F : Frm A (L2.wipe σ vs) H B Γ) (hv : wipeG Γ vs = Γ) : Frm A σ H B Γ := by
  have no : ∀ (ws : List Nat) (k : Nat) (s : Sl), k ∈ ws → (wipeG Γ ws)[k]? = some s → s = .no := by
    intro ws
    induction ws with
    | nil => intro k s hk; cases hk
    | cons v ws ih =>
      intro k s hk e
      unfold wipeG at e
      rcases getset e with ⟨rfl, rfl, _⟩ | ⟨ne, e⟩
      · rfl
      · exact ih k s ((List.mem_cons.mp hk).resolve_left fun z => ne z.symm) e
  obtain ⟨ow, W⟩ := F.own
  refine ⟨F.post, by rw [← F.len, L2.wipe_length], ow, fun i s e => ?_, W.dj, W.ht⟩
  by_cases hi : i ∈ vs
  · have := no vs i s hi (by rw [hv]; exact e)
    subst this; trivial
  · exact slok_shift (W.so i s e) (by rw [wipe_get, if_neg hi])
/-- [e for x in xs if t], the state of the frame's own objects threaded -/
theorem ec_lcS {wi : TI} {g : TG} {tt : TT} {te : TE} {ws vs : List Nat} (f : α → ς → Option (Option β × ς)) (mk : ς → List Sl) {Γf : α → ς → List Sl} {s0 s1 : ς} {ys : List β}
    (hi : ItX r wi Γ Γ1 xs) (e : compS f xs s0 = some (ys, s1)) (h0 : ∀ A' : Amb, Nx A' (Fin A' (mk s0)) Γ1) (hv : ∀ s, wipeG (mk s) vs = mk s) (hg : ∀ s, TgX g r ws (mk s) (fun x => Γf x s)) (hw : ∀ k, k ∈ ws → k ∈ vs) (hm : ∀ x s, wipeG (Γf x s) vs = mk s)
    (hb : ∀ (x : α) (s : ς) (o : Option β) (s' : ς), f x s = some (o, s') → ∃ s2, EvT tt (Γf x s) (Γf x s2) o.isSome ∧ (∀ y, o = some y → EvX rb te (Γf x s2) (Γf x s') y) ∧ (o = none → s2 = s')) :
    EvC (cLst rb) (tLc wi g tt te vs) Γ (mk s1) ys := fun A σ H B F Q q => by
  refine hi A σ H B F _ fun J H1 B1 F1 sB1 Y => fun D hD => ?_
  obtain ⟨B2, F2⟩ := h0 (A.and B1) σ H1 B1 (F1.and (Same.refl _))
  have h0D : A.H0 D = none := F1.H0none hD
  have hmD : ¬ A.m D := fun m => F.mh.al D m h0D
  have F3 := F2.wipe vs
  rw [hv] at F3
  have F4 := F3.fresh (o := .lst []) hD (Nat.zero_le _)
  refine ⟨fun i m H => m = xs.length - i ∧ i ≤ xs.length ∧ ∃ B s acc dn rest, Frm ((A.and B1).add D (.lst acc)) (L2.wipe σ vs) H B (mk s) ∧ Paired (rb.rel B) acc dn ∧ acc.length ≤ i ∧ compS f (xs.drop i) s = some (rest, s1) ∧ dn ++ rest = ys, ?_, ?_⟩
  · exact ⟨_, rfl, Nat.zero_le _, B2, s0, [], [], ys, F4, .nil, Nat.le_refl _, by rw [List.drop_zero]; exact e, rfl⟩
  · rintro i m H2 ⟨rfl, hil, B3, s2, acc, dn, rest, F5, pa, hacc, e2, ed⟩
    by_cases hlt : i < xs.length
    · right
      have hx : xs[i]? = some xs[i] := List.getElem?_eq_getElem hlt
      rw [List.drop_eq_getElem_cons hlt] at e2
      refine ⟨Y.go i H2 B3 F5.ph.2 F5.bh hlt, fun H3 => ∃ B s acc dn rest, Frm ((A.and B1).add D (.lst acc)) (L2.wipe σ vs) H3 B (mk s) ∧ Paired (rb.rel B) acc dn ∧ acc.length ≤ i + 1 ∧ compS f (xs.drop (i + 1)) s = some (rest, s1) ∧ dn ++ rest = ys, fun H3 h3 => ⟨_, by omega, rfl, by omega, h3⟩, fun v H3 hy => ?_⟩
      obtain ⟨B4, F6, sB4, k4⟩ := Y.yld i _ H2 B3 v H3 F5.ph.2 F5.bh hx hy _ _ _ F5
      refine hg s2 _ _ H3 B4 v xs[i] F6 k4 _ fun σ4 F7 hl4 d4 => ⟨wipe_wipe hl4 fun k hk => d4 k fun z => hk (hw k z), ?_⟩
      have hwp := wipe_wipe hl4 fun k hk => d4 k fun z => hk (hw k z)
      unfold compS at e2
      cases q2 : f xs[i] s2 with
      | none => rw [q2] at e2; cases e2
      | some os =>
        obtain ⟨o, s'⟩ := os
        rw [q2] at e2
        obtain ⟨s3, hT, hE, hN⟩ := hb _ _ _ _ q2
        refine hT _ _ _ _ F7 _ fun H5 B5 F8 sB5 => ?_
        cases o with
        | none =>
          have F9 := F8.wipe vs
          rw [hm, hwp] at F9
          exact ⟨B5, s3, acc, dn, rest, F9, Paired.monoR (sB4.trans sB5) pa, by omega, by rw [hN rfl]; exact e2, ed⟩
        | some y =>
          refine hE y rfl _ _ _ _ F8 _ fun u H6 B6 F9 sB6 k6 => ?_
          have hid := F9.hid (A := A.and B1) h0D F.mh.and
          refine ⟨acc, hid, Nat.lt_of_lt_of_le (Nat.lt_of_le_of_lt hacc hlt) Y.len, ?_⟩
          have F10 := F9.wipe vs
          rw [hm, hwp] at F10
          have hlen : (acc ++ [u]).length ≤ sizeLine := by rw [List.length_append, List.length_singleton]; exact Nat.le_trans (by omega) Y.len
          have F11 := F10.hidset (A := A.and B1) (o' := .lst (acc ++ [u])) h0D F.mh.and F.sub hlen
          dsimp only at e2
          cases q3 : compS f (xs.drop (i + 1)) s' with
          | none => rw [q3] at e2; cases e2
          | some z =>
            obtain ⟨r3, s4⟩ := z
            rw [q3] at e2
            cases e2
            exact ⟨B6, s', acc ++ [u], dn ++ [y], r3, F11, Paired.app (Paired.monoR ((sB4.trans sB5).trans sB6) pa) (.cons k6 .nil), by rw [List.length_append, List.length_singleton]; omega, q3, by rw [← ed, List.append_assoc]; rfl⟩
    · left
      have hil : i = xs.length := by omega
      subst hil
      refine ⟨Y.stop H2 B3 F5.ph.2 F5.bh, ?_⟩
      rw [List.drop_length] at e2
      unfold compS at e2
      cases e2
      have F6 := F5.unwipe (hv _)
      have F7 : Frm ((A.add D (.lst acc)).and B1) σ H2 B3 _ := F6
      refine q D (.lst acc) H2 B3 F7.unand h0D (sB1.trans F5.ph.2) ⟨acc, rfl, ?_⟩
      rw [List.append_nil] at ed
      rw [← ed]; exact pa
theorem compS_L (f : α → Option (Option β)) : ∀ {xs : List α} {ys : List β}, compL f xs = some ys → compS (fun x (_ : Unit) => (f x).map fun o => (o, ())) xs () = some (ys, ())
  | [], ys, h => by unfold compL at h; cases h; rfl
  | x :: xs, ys, h => by
    unfold compL at h
    unfold compS
    cases q : f x with
    | none => rw [q] at h; cases h
    | some o =>
      rw [q] at h
      cases o with
      | none => exact compS_L f h
      | some y =>
        cases q2 : compL f xs with
        | none => rw [q2] at h; cases h
        | some zs =>
          rw [q2] at h
          cases h
          have := compS_L f q2
          dsimp only [Option.map_some]
          rw [this]
theorem ec_lc {wi : TI} {g : TG} {tt : TT} {te : TE} {ws vs : List Nat} (f : α → Option (Option β)) {Γf : α → List Sl} {ys : List β}
    (hi : ItX r wi Γ Γ1 xs) (e : compL f xs = some ys) (hg : TgX g r ws (wipeG Γ1 vs) Γf) (hw : ∀ k, k ∈ ws → k ∈ vs) (hv : wipeG Γ1 vs = Γ1) (hm : ∀ x, wipeG (Γf x) vs = Γ1)
    (hb : ∀ (x : α) (o : Option β), f x = some o → EvT tt (Γf x) (Γf x) o.isSome ∧ (∀ y, o = some y → EvX rb te (Γf x) (Γf x) y)) : EvC (cLst rb) (tLc wi g tt te vs) Γ Γ1 ys :=
  ec_lcS (ς := Unit) _ (fun _ => Γ1) (Γf := fun x _ => Γf x) hi (compS_L f e) (fun A' => nx_fin) (fun _ => hv) (fun _ => by rw [hv] at hg; exact hg) hw (fun x _ => hm x) fun x s o s' h => by
    cases q : f x with
    | none => simp [q] at h
    | some o' =>
      simp [q] at h
      subst h
      exact ⟨s, (hb x o' q).1, fun y hy => (hb x o' q).2 y hy, fun _ => rfl⟩
/-- no test -/
theorem et_yes {Γ : List Sl} : EvT tYes Γ Γ true := fun A σ H B F Q q => q H B F (Same.refl _)
end
end G

set_option maxHeartbeats 4000000
/-! # G: built-ins, the frame's own objects -/
namespace G
variable [TabL]
open PySem PySem.Spec PyProof.Rows L2
section
variable {α β γ ρ ς : Type} {r ra : Rp α} {rb : Rp β} {c : Cl α} {te ta tb : TE} {Γ Γ1 Γ2 Γ3 : List Sl} {xs : List α} {K : PySem.W.Frag} {a : α} {b : β} {w : Rw α} {p : Addr} {i : Nat}
/-- a list that the program was handed -/
def rScr (K : PySem.W.Frag) : Rp (List Int) := ⟨fun H v ns => ∃ a, v = .ref a ∧ SqL K H a (ns.map V.int), fun s ⟨a, e, h⟩ => ⟨a, e, s.seq h⟩⟩
/-! ### partial operations -/
def pyMod (i j : Int) : Option Int := if 0 < j then some (i % j) else none
def pyDiv (i j : Int) : Option Int := if 0 < j ∧ j.natAbs.log2 < 9000 then some (i / j) else none
def pyMul (i j : Int) : Option Int := if (-(2 ^ 64) < i ∧ i < 2 ^ 64) ∨ (-(2 ^ 64) < j ∧ j < 2 ^ 64) then some (i * j) else none
def pyPow (i j : Int) : Option Int := if 0 ≤ j ∧ j ≤ 1000000 ∧ i.natAbs < 2 ^ 64 then some (i ^ j.toNat) else none
def pyLenS (z : Str) : Option Int := if z.length ≤ sizeLine then some (z.length : Int) else none
def pyAddS (x y : Str) : Option Str := if x.length + y.length ≤ sizeLine then some (x ++ y) else none
def pyIxS (z : Str) (i : Int) : Option Str := if z.length ≤ sizeLine then (atI z.cps.toList i).map fun c => (⟨#[c]⟩ : Str) else none
def pySlS (z : Str) (lo hi : Option Int) : Option Str := if z.length ≤ sizeLine then some (Txt.slice z lo hi) else none
def pyInSg (x z : Str) : Option Bool := match x.cps.toList with
  | [c] => some (decide (c ∈ z.cps.toList))
  | _ => none
theorem ev_modP {i j k : Int} (ha : EvX rInt ta Γ Γ1 i) (hb : EvX rInt tb Γ1 Γ2 j) (e : pyMod i j = some k) : EvX rInt (tOp (rI (fun _ j => 0 < j) fun i j => .int (i % j)) ta tb) Γ Γ2 k := by
  unfold pyMod at e; split at e <;> cases e
  exact ev_mod ha hb (by assumption)
theorem ev_divP {i j k : Int} (ha : EvX rInt ta Γ Γ1 i) (hb : EvX rInt tb Γ1 Γ2 j) (e : pyDiv i j = some k) : EvX rInt (tOp (rI CDivW fun i j => .int (i / j)) ta tb) Γ Γ2 k := by
  unfold pyDiv at e; split at e <;> cases e
  exact ev_divW ha hb (by assumption)
theorem ev_mulP {i j k : Int} (ha : EvX rInt ta Γ Γ1 i) (hb : EvX rInt tb Γ1 Γ2 j) (e : pyMul i j = some k) : EvX rInt (tOp (rI CMul fun i j => .int (i * j)) ta tb) Γ Γ2 k := by
  unfold pyMul at e; split at e <;> cases e
  exact ev_mul ha hb (by assumption)
theorem ev_powP {i j k : Int} (ha : EvX rInt ta Γ Γ1 i) (hb : EvX rInt tb Γ1 Γ2 j) (e : pyPow i j = some k) : EvX rInt (tOp (rI CPow fun i j => .int (i ^ j.toNat)) ta tb) Γ Γ2 k := by
  unfold pyPow at e; split at e <;> cases e
  exact ev_pow ha hb (by assumption)
theorem ev_addS {x y z : Str} (ha : EvX rStr ta Γ Γ1 x) (hb : EvX rStr tb Γ1 Γ2 y) (e : pyAddS x y = some z) : EvX rStr (tOp (fun x y H Q => ∃ i j, x = .str i ∧ y = .str j ∧ i.length + j.length ≤ sizeLine ∧ Q (.str (i ++ j)) H) ta tb) Γ Γ2 z := by
  unfold pyAddS at e; split at e <;> cases e
  exact ev_op ha hb fun H B u v _ ku kv Q q => ⟨x, y, ku, kv, by assumption, q _ rfl⟩
theorem ev_ixS {z c : Str} {i : Int} (ha : EvX rStr ta Γ Γ1 z) (hb : EvX rInt tb Γ1 Γ2 i) (e : pyIxS z i = some c) : EvX rStr (tOp rIxS ta tb) Γ Γ2 c := by
  unfold pyIxS at e; split at e
  · rename_i hz
    cases q : atI z.cps.toList i with
    | none => rw [q] at e; cases e
    | some n =>
      rw [q] at e; cases e
      exact ev_op ha hb fun H B u v _ ku kv Q k => ⟨z, i, n, ku, kv, hz, q, k _ rfl⟩
  · cases e
theorem sg_of {x : Str} {c : Nat} (h : x.cps.toList = [c]) : x = ⟨#[c]⟩ := by
  cases x with
  | mk cps => simp only at h; congr 1; exact Array.toList_inj.mp h
theorem ev_inSg {x z : Str} {b : Bool} (ha : EvX rStr ta Γ Γ1 x) (hb : EvX rStr tb Γ1 Γ2 z) (e : pyInSg x z = some b) : EvX rBool (tOp (fun x y H Q => ∃ (c : Nat) (z : Str), x = .str ⟨#[c]⟩ ∧ y = .str z ∧ Q (.bl (decide (c ∈ z.cps.toList))) H) ta tb) Γ Γ2 b := by
  unfold pyInSg at e; split at e
  · rename_i c hc
    cases e
    exact ev_op ha hb fun H B u v _ ku kv Q k => ⟨c, z, by rw [ku, sg_of hc], kv, k _ rfl⟩
  · cases e
theorem ev_ninSg {x z : Str} {b : Bool} (ha : EvX rStr ta Γ Γ1 x) (hb : EvX rStr tb Γ1 Γ2 z) (e : pyInSg x z = some b) : EvX rBool (tOp (fun x y H Q => ∃ (c : Nat) (z : Str), x = .str ⟨#[c]⟩ ∧ y = .str z ∧ Q (.bl (!decide (c ∈ z.cps.toList))) H) ta tb) Γ Γ2 (!b) := by
  unfold pyInSg at e; split at e
  · rename_i c hc
    cases e
    exact ev_op ha hb fun H B u v _ ku kv Q k => ⟨c, z, by rw [ku, sg_of hc], kv, k _ rfl⟩
  · cases e
/-! ### slices -/
def EvO (t : TO) (Γ Γ' : List Sl) (o : Option Int) : Prop := ∀ (A : Amb) (σ : L2.St) (H B : Hp), Frm A σ H B Γ → ∀ Q : Option Int → Hp → Prop, (∀ H' B', Frm A σ H' B' Γ' → Same B B' → Q o H') → t σ H Q
theorem eo_none : EvO tNoPart Γ Γ none := fun A σ H B F Q q => q H B F (Same.refl _)
theorem eo_some {j : Int} (h : EvX rInt te Γ Γ1 j) : EvO (tPart te) Γ Γ1 (some j) := fun A σ H B F Q q => h A σ H B F _ fun v H' B' F' s k => ⟨j, k, q H' B' F' s⟩
theorem ev_slS {z y : Str} {lo hi : Option Int} {tl th : TO} (h : EvX rStr te Γ Γ1 z) (hl : EvO tl Γ1 Γ2 lo) (hh : EvO th Γ2 Γ3 hi) (e : pySlS z lo hi = some y) : EvX rStr (L2.tSl C8.rSlX te tl th) Γ Γ3 y := by
  unfold pySlS at e; split at e <;> cases e
  exact fun A σ H B F Q q => h A σ H B F _ fun v H1 B1 F1 s1 k1 => hl A σ H1 B1 F1 _ fun H2 B2 F2 s2 => hh A σ H2 B2 F2 _ fun H3 B3 F3 s3 => ⟨z, k1, by assumption, q _ H3 B3 F3 ((s1.trans s2).trans s3) rfl⟩
def cut {α : Type} (xs : List α) (lo hi : Option Int) : List α := (xs.drop (HT.sIx xs.length 0 lo)).take (HT.sIx xs.length xs.length hi - HT.sIx xs.length 0 lo)
theorem paired_cut {F : V → α → Prop} {vs : List V} {lo hi : Option Int} (h : Paired F vs xs) : Paired F (cutV vs lo hi) (cut xs lo hi) := by
  unfold cutV cut
  rw [Paired.len h]
  exact Paired.takeN _ (Paired.dropN _ h)
theorem cut_len (lo hi : Option Int) (vs : List V) : (cutV vs lo hi).length ≤ vs.length := by
  unfold cutV
  rw [List.length_take, List.length_drop]; omega
theorem ec_slL {lo hi : Option Int} {tl th : TO} (h : EvX (rLst r) te Γ Γ1 xs) (hl : EvO tl Γ1 Γ2 lo) (hh : EvO th Γ2 Γ3 hi) : EvC (cLst r) (L2.tSl (rSlL K) te tl th) Γ Γ3 (cut xs lo hi) :=
  fun A σ H B F Q q => h A σ H B F _ fun v H1 B1 F1 s1 k1 => hl A σ H1 B1 F1 _ fun H2 B2 F2 s2 => hh A σ H2 B2 F2 _ fun H3 B3 F3 s3 => by
    obtain ⟨a, vs, rfl, ha, pv⟩ := ob_lst F3.bh ((rLst r).mono (s2.trans s3) k1)
    exact ⟨a, vs, rfl, SqL.of ha, fun l hl => ec_fresh (c := cLst r) (o := .lst (cutV vs lo hi)) F3 hl (Nat.le_trans (cut_len lo hi vs) (F3.sz _ _ ha)) (fun p o H2 B2 F2 n2 s4 k2 => q p o H2 B2 F2 n2 (((s1.trans s2).trans s3).trans s4) k2) ⟨_, rfl, paired_cut pv⟩⟩
/-! ### built-ins of one argument -/
theorem ev_B1 {R : List V → Hp → VK → Prop} (h : EvX ra ta Γ Γ1 a) (k : ∀ (H B : Hp) (u : V), Sz H → Same B H → ra.rel B u a → ∀ Q : VK, (∀ o, rb.rel B o b → Q o H) → R [u] H Q) : EvX rb (tCB R (tCons ta tNil)) Γ Γ1 b := fun A σ H B F Q q =>
  h A σ H B F _ fun v H1 B1 F1 s1 k1 => k H1 B1 v F1.sz F1.bh k1 Q fun o ko => q o H1 B1 F1 s1 ko
theorem ec_B1 {R : List V → Hp → VK → Prop} {cb : Cl β} (h : EvX ra ta Γ Γ1 a) (k : ∀ (H B : Hp) (u : V), Sz H → Same B H → ra.rel B u a → ∀ Q : VK, (∀ p o, H p = none → szO o → cb.ok B o b → Q (.ref p) (upd H p o)) → R [u] H Q) : EvC cb (tCB R (tCons ta tNil)) Γ Γ1 b := fun A σ H B F Q q =>
  h A σ H B F _ fun v H1 B1 F1 s1 k1 => k H1 B1 v F1.sz F1.bh k1 Q fun p o hp ho ko => q p o _ B1 (F1.fresh hp ho) (F1.H0none hp) s1 ko
abbrev RLen (K : PySem.W.Frag) : List V → Hp → VK → Prop := fun xs H Q => ∃ p ys, xs = [.ref p] ∧ (SqL K H p ys ∨ SqT K H p ys) ∧ Q (.int ys.length) H
theorem ev_lenL (h : EvX (rLst r) ta Γ Γ1 xs) : EvX rInt (tCB (RLen K) (tCons ta tNil)) Γ Γ1 (xs.length : Int) := ev_B1 h fun H B u _ s k Q q => by
  obtain ⟨p, vs, rfl, hp, kv⟩ := ob_lst s k
  exact ⟨p, vs, rfl, .inl (SqL.of hp), q _ (by rw [Paired.len kv]; rfl)⟩
theorem ev_lenT (h : EvX (rTpl r) ta Γ Γ1 xs) : EvX rInt (tCB (RLen K) (tCons ta tNil)) Γ Γ1 (xs.length : Int) := ev_B1 h fun H B u _ s k Q q => by
  obtain ⟨p, vs, rfl, hp, kv⟩ := ob_tpl s k
  exact ⟨p, vs, rfl, .inr (SqT.of hp), q _ (by rw [Paired.len kv]; rfl)⟩
theorem ev_lenC {ns : List Int} (h : EvX (rScr K) ta Γ Γ1 ns) : EvX rInt (tCB (RLen K) (tCons ta tNil)) Γ Γ1 (ns.length : Int) := ev_B1 h fun H B u _ s k Q q => by
  obtain ⟨p, rfl, hp⟩ := k
  exact ⟨p, _, rfl, .inl (s.seq hp), q _ (by rw [List.length_map]; rfl)⟩
theorem ev_lenS {z : Str} {n : Int} (h : EvX rStr ta Γ Γ1 z) (e : pyLenS z = some n) : EvX rInt (tCB (fun xs H Q => ∃ z, xs = [.str z] ∧ z.length ≤ sizeLine ∧ Q (.int z.length) H) (tCons ta tNil)) Γ Γ1 n := by
  unfold pyLenS at e; split at e <;> cases e
  exact ev_B1 h fun H B u _ s k Q q => ⟨z, by rw [k], by assumption, q _ rfl⟩
theorem ev_int1 {j : Int} (h : EvX rInt ta Γ Γ1 j) : EvX rInt (tCB (fun xs H Q => (∃ i, xs = [.int i] ∧ Q (.int i) H) ∨ ∃ k, xs = [.bl k] ∧ Q (.int (if k then 1 else 0)) H) (tCons ta tNil)) Γ Γ1 j := ev_B1 h fun H B u _ s k Q q => .inl ⟨j, by rw [k], q _ rfl⟩
abbrev RList (K : PySem.W.Frag) : List V → Hp → VK → Prop := fun xs H Q => ∃ p ys, xs = [.ref p] ∧ (SqL K H p ys ∨ SqT K H p ys) ∧ ∀ l, H l = none → Q (.ref l) (upd H l (.lst ys))
theorem ec_listL (h : EvX (rLst r) ta Γ Γ1 xs) : EvC (cLst r) (tCB (RList K) (tCons ta tNil)) Γ Γ1 xs := ec_B1 h fun H B u z s k Q q => by
  obtain ⟨p, vs, rfl, hp, kv⟩ := ob_lst s k
  exact ⟨p, vs, rfl, .inl (SqL.of hp), fun l hl => q l _ hl (show vs.length ≤ sizeLine from z p _ hp) ⟨vs, rfl, kv⟩⟩
theorem ec_listT (h : EvX (rTpl r) ta Γ Γ1 xs) : EvC (cLst r) (tCB (RList K) (tCons ta tNil)) Γ Γ1 xs := ec_B1 h fun H B u z s k Q q => by
  obtain ⟨p, vs, rfl, hp, kv⟩ := ob_tpl s k
  exact ⟨p, vs, rfl, .inr (SqT.of hp), fun l hl => q l _ hl (show vs.length ≤ sizeLine from z p _ hp) ⟨vs, rfl, kv⟩⟩
theorem paired_ints : ∀ (ns : List Int) (B : Hp), Paired (rInt.rel B) (ns.map V.int) ns
  | [], _ => .nil
  | n :: ns, B => .cons rfl (paired_ints ns B)
def pyScr (ns : List Int) : Option (List Int) := if ns.length ≤ 100000 then some ns else none
theorem ec_listC {ns l : List Int} (h : EvX (rScr K) ta Γ Γ1 ns) (e : pyScr ns = some l) : EvC (cLst rInt) (tCB (RList K) (tCons ta tNil)) Γ Γ1 l := by
  unfold pyScr at e; split at e <;> cases e
  rename_i hl
  exact ec_B1 h fun H B u z s k Q q => by
    obtain ⟨p, rfl, hp⟩ := k
    exact ⟨p, _, rfl, .inl (s.seq hp), fun l hl => q l _ hl (by show (ns.map V.int).length ≤ _; rw [List.length_map]; exact Nat.le_trans (by assumption) (by decide)) ⟨_, rfl, paired_ints ns B⟩⟩
theorem ev_ixC {ns : List Int} {j v : Int} (ha : EvX (rScr K) ta Γ Γ1 ns) (hb : EvX rInt tb Γ1 Γ2 j) (e : atI ns j = some v) : EvX rInt (tOp (rIxL K) ta tb) Γ Γ2 v :=
  ev_op ha hb fun H B u w s ku kw Q q => by
    obtain ⟨p, rfl, hp⟩ := ku
    obtain ⟨o, ho, ko⟩ := atI_rel (paired_ints ns B) e
    exact ⟨p, _, j, o, rfl, kw, s.seq hp, ho, q o ko⟩
theorem ec_tupL (h : EvX (rLst r) ta Γ Γ1 xs) : EvC (cTpl r) (tCB (fun xs H Q => ∃ p ys, xs = [.ref p] ∧ ((SqL K H p ys ∧ ∀ l, H l = none → Q (.ref l) (upd H l (.tup ys))) ∨ (SqT K H p ys ∧ Q (.ref p) H))) (tCons ta tNil)) Γ Γ1 xs := ec_B1 h fun H B u z s k Q q => by
  obtain ⟨p, vs, rfl, hp, kv⟩ := ob_lst s k
  exact ⟨p, vs, rfl, .inl ⟨SqL.of hp, fun l hl => q l _ hl (show vs.length ≤ sizeLine from z p _ hp) ⟨vs, rfl, kv⟩⟩⟩
theorem ev_tupT (h : EvX (rTpl r) ta Γ Γ1 xs) : EvX (rTpl r) (tCB (fun xs H Q => ∃ p ys, xs = [.ref p] ∧ ((SqL K H p ys ∧ ∀ l, H l = none → Q (.ref l) (upd H l (.tup ys))) ∨ (SqT K H p ys ∧ Q (.ref p) H))) (tCons ta tNil)) Γ Γ1 xs := ev_B1 h fun H B u _ s k Q q => by
  obtain ⟨p, vs, e, hp, kv⟩ := ob_tpl s k
  exact ⟨p, vs, by rw [e], .inr ⟨SqT.of hp, by rw [← e]; exact q _ k⟩⟩
theorem ev_allL {bs : List Bool} (h : EvX (rLst rBool) ta Γ Γ1 bs) : EvX rBool (tCB (rAll K) (tCons ta tNil)) Γ Γ1 (bs.all id) := ev_B1 h fun H B u _ s k Q q => by
  obtain ⟨p, vs, rfl, hp, kv⟩ := ob_lst s k
  exact ⟨p, bs, rfl, by rw [← Paired.mapEq (fun a b h => h) kv]; exact SqL.of hp, q _ rfl⟩
/-! ### the frame's own objects -/
theorem cel_at {A : Amb} {σ : L2.St} {H B : Hp} (F : Frm A σ H B Γ) (h : Γ[i]? = some (.cel p c a)) : σ[i]? = some (some (V.ref p)) ∧ ∃ o, H p = some o ∧ c.ok B o a := by
  obtain ⟨e, _, _, o, ho, k⟩ := F.sl i _ h
  exact ⟨e, o, ho, k⟩
/-- an item of the frame's own list of known form -/
theorem ev_celR {k : Nat} {f : α → β} (h : Γ[i]? = some (.cel p (cHls w) a)) (g : Acc w k rb f) : EvX rb (tOp (rIxL K) (tVar i) (tC (.int (k : Int)))) Γ Γ (f a) := fun A σ H B F Q q => by
  obtain ⟨e, o, ho, vs, rfl, kw⟩ := cel_at F h
  obtain ⟨u, hu, ku⟩ := g B vs a kw
  exact ⟨_, e, p, vs, (k : Int), u, rfl, rfl, SqL.of ho, atI_nat hu, q u H B F (Same.refl _) ku⟩
/-- such an item is stored -/
def Upd {α β : Type} (w : Rw α) (k : Nat) (r : Rp β) (f : α → β → α) : Prop := ∀ B vs a v b, w.rel B vs a → r.rel B v b → k < vs.length ∧ w.rel B (vs.set k v) (f a b)
theorem upd1 : Upd (w1 ra) 0 ra (fun _ b => b) := fun B vs a v b ⟨u, e, _⟩ k => ⟨by rw [e]; exact Nat.zero_lt_one, v, by rw [e]; rfl, k⟩
theorem upd0 {w : Rw β} : Upd (wC ra w) 0 ra (fun a b => (b, a.2)) := fun B vs a v b ⟨u, t, e, _, q⟩ k => ⟨by rw [e, List.length_cons]; omega, v, t, by rw [e]; rfl, k, q⟩
theorem updS {w : Rw β} {rc : Rp γ} {k : Nat} {f : β → γ → β} (h : Upd w k rc f) : Upd (wC ra w) (k + 1) rc (fun a b => (a.1, f a.2 b)) := fun B vs a v b ⟨u, t, e, q1, q2⟩ kv => by
  obtain ⟨h1, h2⟩ := h B t a.2 v b q2 kv
  exact ⟨by rw [e, List.length_cons]; omega, u, t.set k v, by rw [e]; rfl, q1, h2⟩
theorem nx_setR {A : Amb} {D : Ends} {k : Nat} {f : α → β → α} (h : EvX rb te Γ Γ1 b) (hi : Γ1[i]? = some (.cel p (cHls w) a)) (g : Upd w k rb f) (n : Nx A D.nx (Γ1.set i (.cel p (cHls w) (f a b)))) : Nx A (tAsg te (gSub (tVar i) (tC (.int (k : Int))) rSetL) D) Γ := fun σ H B F =>
  h A σ H B F _ fun v H1 B1 F1 s1 k1 => by
    obtain ⟨e, o, ho, vs, rfl, kw⟩ := cel_at F1 hi
    obtain ⟨hk, kw'⟩ := g B1 vs a v b kw k1
    refine ⟨_, e, p, vs, (k : Int), k, rfl, rfl, ho, ?_, ?_⟩
    · unfold ixN; rw [if_pos (by omega), if_pos (by omega)]; simp
    · exact n σ _ B1 (F1.write hi (c' := cHls w) (o' := .lst (vs.set k v)) ⟨_, rfl, kw'⟩ (by show (vs.set k v).length ≤ _; rw [List.length_set]; exact F1.sz _ _ ho))
end
end G

set_option maxHeartbeats 4000000
/-! # G: how mirrors are written; small words -/
namespace G
variable [TabL]
open PySem PySem.Spec PyProof.Rows L2
section
variable {α β γ ρ ς τ : Type}
def bindO (e : Option α) (k : α → Option β) : Option β := match e with
  | none => none
  | some x => k x
def letO (e : α) (k : α → Option β) : Option β := k e
def iteO (c : Bool) (x y : Option β) : Option β := match c with
  | true => x
  | false => y
def stepO (R : Step ρ ς) (k : ς → Option ρ) : Option ρ := match R with
  | .ret b => some b
  | .nx s => k s
  | .brk _ => none
def stepL (R : Step ρ ς) (k : ς → Option (Step ρ τ)) : Option (Step ρ τ) := match R with
  | .ret b => some (.ret b)
  | .nx s => k s
  | .brk _ => none
theorem bindO_some {e : Option α} {k : α → Option β} {b : β} (h : bindO e k = some b) : ∃ x, e = some x ∧ k x = some b := by
  cases e with
  | none => cases h
  | some x => exact ⟨x, rfl, h⟩
theorem letO_some {e : α} {k : α → Option β} {b : β} (h : letO e k = some b) : ∃ x, x = e ∧ k x = some b := ⟨e, rfl, h⟩
theorem iteO_t {c : Bool} {x y : Option β} {b : Option β} (hc : c = true) (h : iteO c x y = b) : x = b := by subst hc; exact h
theorem iteO_f {c : Bool} {x y : Option β} {b : Option β} (hc : c = false) (h : iteO c x y = b) : y = b := by subst hc; exact h
theorem stepO_ret {b b' : ρ} {k : ς → Option ρ} (h : stepO (.ret b) k = some b') : b = b' := Option.some.inj h
theorem stepO_nx {s : ς} {k : ς → Option ρ} {b : Option ρ} (h : stepO (.nx s) k = b) : k s = b := h
theorem stepL_ret {b : ρ} {k : ς → Option (Step ρ τ)} {st : Step ρ τ} (h : stepL (.ret b) k = some st) : st = .ret b := (Option.some.inj h).symm
theorem stepL_nx {s : ς} {k : ς → Option (Step ρ τ)} {b : Option (Step ρ τ)} (h : stepL (.nx s) k = b) : k s = b := h
@[simp] theorem bindO_s (x : α) (k : α → Option β) : bindO (some x) k = k x := rfl
@[simp] theorem bindO_n (k : α → Option β) : bindO none k = none := rfl
@[simp] theorem letO_s (x : α) (k : α → Option β) : letO x k = k x := rfl
@[simp] theorem iteO_T (x y : Option β) : iteO true x y = x := rfl
@[simp] theorem iteO_F (x y : Option β) : iteO false x y = y := rfl
@[simp] theorem stepO_N (s : ς) (k : ς → Option ρ) : stepO (.nx s) k = k s := rfl
@[simp] theorem stepO_R (b : ρ) (k : ς → Option ρ) : stepO (.ret b) k = some b := rfl
@[simp] theorem stepL_N (s : ς) (k : ς → Option (Step ρ τ)) : stepL (.nx s) k = k s := rfl
@[simp] theorem stepL_R (b : ρ) (k : ς → Option (Step ρ τ)) : stepL (.ret b) k = some (.ret b) := rfl
end
section
variable {α β γ ρ ς : Type} {r : Rp α} {rb : Rp β} {c : Cl α} {te ta : TE} {tt : TT} {Γ Γ1 : List Sl} {a a' : α} {b b' : Bool} {A : Amb} {P : L2.St → Hp → Prop} {D : Ends} {i : Nat} {p : Addr} {K : PySem.W.Frag} {xs : List α}
theorem et_to (h : EvT tt Γ Γ1 b) (e : b = b') : EvT tt Γ Γ1 b' := e ▸ h
theorem ec_to (h : EvC c te Γ Γ1 a) (e : a = a') : EvC c te Γ Γ1 a' := e ▸ h
theorem nx_go {σ : L2.St} {H B : Hp} (F : Frm A σ H B Γ) (h : Nx A P Γ) : P σ H := h σ H B F
/-- the datum of the frame's own object by another name -/
theorem nx_cel (h : Γ[i]? = some (.cel p c a)) (e : a = a') (k : Nx A P (Γ.set i (.cel p c a'))) : Nx A P Γ := by
  subst e
  have : Γ.set i (.cel p c a) = Γ := by
    obtain ⟨hi, q⟩ := List.getElem?_eq_some_iff.mp h
    rw [← q, List.set_getElem_self]
  rw [this] at k; exact k
theorem Frm.recast {σ : L2.St} {H B : Hp} (F : Frm A σ H B Γ) (i : Nat) {s s' : Sl} (h : Γ[i]? = some s) (k : ∀ o, SlO σ H B o i s → SlO σ H B o i s') : Frm A σ H B (Γ.set i s') :=
  F.put rfl (fun _ _ => rfl) fun o _ q => k o (q s h)
theorem nx_toOpt (i : Nat) (n : NN r) (h : Γ[i]? = some (.imm r a)) (k : Nx A P (Γ.set i (.imm (rOpt r) (some a)))) : Nx A P Γ := fun σ H B F => k σ H B (F.recast i h fun o ⟨v, e, q⟩ => ⟨v, e, q, n _ _ _ q⟩)
theorem nx_toNone {u : Unit} (i : Nat) (h : Γ[i]? = some (.imm rNon u)) (k : Nx A P (Γ.set i (.imm (rOpt r) none))) : Nx A P Γ := fun σ H B F => k σ H B (F.recast i h fun o ⟨v, e, q⟩ => ⟨v, e, q⟩)
/-- a script's walk -/
theorem it_scr {ns : List Int} (h : EvX (rScr K) te Γ Γ1 ns) (hz : ns.length ≤ 100000) : ItX rInt (iList K te) Γ Γ1 ns := fun A σ H B F R q => h A σ H B F _ fun v H' B' F' s k => by
  obtain ⟨p, rfl, hp⟩ := k
  refine ⟨p, rfl, ⟨_, F'.bh.seq hp⟩, q _ H' B' F' s ⟨Nat.le_trans hz (by decide), fun H2 B2 s1 s2 => ?_, fun i H2 B2 s1 s2 hi => ?_, fun i x H2 B2 v H3 s1 s2 hx hy A σ Γ F => ?_⟩⟩
  · exact ⟨_, s2.seq (s1.seq hp), by rw [List.length_map]; exact Nat.le_refl _⟩
  · exact ⟨_, .int ns[i], s2.seq (s1.seq hp), by rw [List.getElem?_map, List.getElem?_eq_getElem hi]; rfl⟩
  · obtain ⟨rfl, hv⟩ := hy
    have e := hv _ (s2.seq (s1.seq hp))
    rw [List.getElem?_map, hx] at e
    cases e
    exact ⟨B2, F, Same.refl _, rfl⟩
end
/-! ### a new object handed back -/
def SpC {α β : Type} (w : Rw α) (c : Cl β) (m : α → Option β) : Sp := fun vs H Q _ => ∃ B a b, SzT H B ∧ Same B H ∧ w.rel B vs a ∧ m a = some b ∧ ∀ p o H' B', Post ((amb0 B H).add p o) H' B' → H p = none → c.ok B' o b → Q (.ref p) H'
section
variable {α β γ : Type} {w : Rw α} {c : Cl β} {A : Amb} {Γ Γ1 : List Sl} {te : TE} {D : Ends} {K : PySem.W.Frag}
/-- what the caller knows of a new object -/
def RtC (A : Amb) (c : Cl β) (b : β) (rt : VK) : Prop := ∀ p o H' B', Post (A.add p o) H' B' → A.H0 p = none → c.ok B' o b → rt (.ref p) H'
theorem nx_retC {a b : β} (h : EvC c te Γ Γ1 a) (e : some a = some b) (k : RtC A c b D.rt) : Nx A (tRet te D) Γ := fun σ H B F => h A σ H B F _ fun p o H' B' F' n _ q => k p o H' B' F'.post n (by cases e; exact q)
theorem Frm.afterC {σ : L2.St} {H H' B B' : Hp} {p : Addr} {o : HO} (F : Frm A σ H B Γ) (P : Post ((amb0 B H).add p o) H' B') (hp : H p = none) : Frm (A.add p o) σ H' B' Γ := by
  have kp : ∀ q u, ¬ isTab q → H q = some u → H' q = some u := fun q u nt e => P.keep q u (fun z => z) nt (by show upd H p o q = some u; rw [upd_ne (ne_of_none e hp)]; exact e)
  have al : ∀ q, H q ≠ none → H' q ≠ none := fun q n => P.alive q (by
    have hq : q ≠ p := fun z => n (by rw [z]; exact hp)
    show upd H p o q ≠ none
    rw [upd_ne hq]; exact n)
  have nT : ¬ isTab p := F.tb.ne hp
  have ou : ∀ q, H q ≠ none → B q = none → B' q = none := fun q n z => P.out q (by
    have hq : q ≠ p := fun e => n (by rw [e]; exact hp)
    show upd H p o q ≠ none; rw [upd_ne hq]; exact n) z
  have bb : Same B B' := P.b0
  have h0 := F.H0none hp
  refine F.move ⟨P.bh, fun q u e => bb q u (F.b0 q u e), fun q u m nt e => ?_, fun q n z => ?_, fun q n => ?_, fun q u e => ?_, ⟨fun q m => ?_, F.mh.nt, fun q m => ?_⟩, A.up _ _ bb F.ph, P.sz, P.tb⟩ bb fun q h => ⟨ou q h.2.1 h.1, ?_, fun u => kp q u (h.nt F.mh)⟩
  · by_cases hq : q = p
    · subst hq
      have e' : upd A.H0 q o q = some u := e
      rw [upd_same] at e'
      cases e'
      exact P.keep q o (fun z => z) nT upd_same
    · have e' : upd A.H0 p o q = some u := e
      rw [upd_ne hq] at e'
      exact kp q u nt (F.keep q u m nt e')
  · by_cases hq : q = p
    · subst hq
      refine P.out q (by show upd H q o q ≠ none; rw [upd_same]; simp) ?_
      show B q = none
      cases e : B q with
      | none => rfl
      | some u => have := F.bh q u e; rw [hp] at this; cases this
    · have n' : upd A.H0 p o q ≠ none := n
      rw [upd_ne hq] at n'
      exact ou q (F.alive q n') (F.out q n' z)
  · by_cases hq : q = p
    · subst hq
      rw [P.keep q o (fun z => z) nT upd_same]; simp
    · have n' : upd A.H0 p o q ≠ none := n
      rw [upd_ne hq] at n'
      exact al q (F.alive q n')
  · have hq : q ≠ p := fun z => by rw [z] at e; exact absurd (F.sub p u e) (by rw [h0]; simp)
    show upd A.H0 p o q = some u
    rw [upd_ne hq]; exact F.sub q u e
  · have := F.mh.al q m
    have hq : q ≠ p := fun z => this (by rw [z]; exact h0)
    show upd A.H0 p o q ≠ none
    rw [upd_ne hq]; exact this
  · have hq : q ≠ p := fun z => nT (by rw [← z]; exact m)
    show upd A.H0 p o q ≠ none
    rw [upd_ne hq]; exact F.mh.tb q m
  · have hq : q ≠ p := fun z => h.2.1 (by rw [z]; exact hp)
    rcases h.2.2 with m | m
    · exact .inl (by show upd A.H0 p o q = none; rw [upd_ne hq]; exact m)
    · exact .inr m
theorem ec_call {m : α → Option β} {a : α} {b : β} {E : XK} {ta : TA} (h : EvW w ta Γ Γ1 a) (e : m a = some b) : EvC c (tCall (SpC w c m) [] E ta) Γ Γ1 b := fun A σ H B F Q q => h A σ H B F _ fun vs H1 B1 F1 s1 k1 => by
  rw [List.append_nil]
  exact ⟨B1, a, b, F1.szt, F1.bh, k1, e, fun p o H2 B2 P hp k => q p o H2 B2 (F1.afterC P hp) (F1.H0none hp) (s1.trans P.b0) k⟩
end
/-- the sizes of what is tracked are known to whoever runs -/
theorem sz_of_hok {P : Program} {w : World} {H : Hp} {h : Heap} (x : HOk P w H h) : Sz H := fun p o e => by
  have k := x p o e
  cases o with
  | lst xs => exact k.1
  | tup xs => exact k.1
  | dK kvs => exact k.1
  | dT kvs => exact k.1
  | _ => trivial
theorem pss_sz {X : Cx} {st : List Stmt} {t : TS} (h : PSs X st t) : PSs X st (fun D σ H => Sz H → t D σ H) := ⟨fun pins s σ H D I q => h.run pins s σ H D I (q (sz_of_hok I.hok))⟩
/-- as SpP, the sizes not asked for -/
def SpL {α β : Type} (w : Rw α) (r : Rp β) (m : α → Option β) : Sp := fun vs H Q _ => ∃ B a b, (Same B H ∧ TabOk H B) ∧ w.rel B vs a ∧ m a = some b ∧ Rt (amb0 B H) (psi r) b Q
end G

set_option maxHeartbeats 4000000
/-! # G: a statement with more behind it -/
namespace G
variable [TabL]
open PySem PySem.Spec PyProof.Rows L2
section
variable {α β γ ρ ς : Type} {r ra : Rp α} {rb : Rp β} {c : Cl α} {cc : Cl γ} {w : Rw α} {te : TE} {tt : TT} {t t' u : TS} {D : Ends} {A : Amb} {Γ Γ1 Γ2 M : List Sl} {a : α} {b : β} {i : Nat} {K : PySem.W.Frag} {P : L2.St → Hp → Prop} {ψ : ρ → Hp → Hp → V → Prop} {p : Addr}
theorem sq_next (h : Nx A (u D) Γ) : Nx A (tSeq tNext u D) Γ := h
theorem sq_brk (h : Nx A D.bk Γ) : Nx A (tSeq tBreak u D) Γ := h
theorem sq_cont (h : Nx A D.ct Γ) : Nx A (tSeq tCont u D) Γ := h
theorem sq_asg (h : EvX r te Γ Γ1 a) (k : Nx A (u D) (Γ1.set i (.imm r a))) : Nx A (tSeq (tAsg te (gName i)) u D) Γ := nx_asg (D := { D with nx := u D }) h k
theorem sq_asgC (h : EvC c te Γ Γ1 a) (k : ∀ p, ¬ A.m p → Nx A (u D) (Γ1.set i (.cel p c a))) : Nx A (tSeq (tAsg te (gName i)) u D) Γ := nx_asgC (D := { D with nx := u D }) h k
theorem sq_if {b : Bool} (h : EvT tt Γ Γ1 b) (h1 : b = true → Nx A (t { D with nx := u D }) Γ1) (h2 : b = false → Nx A (t' { D with nx := u D }) Γ1) : Nx A (tSeq (tIfS tt t t') u D) Γ := nx_if (D := { D with nx := u D }) h h1 h2
theorem sq_drop (h : EvX r te Γ Γ1 a) (k : Nx A (u D) Γ1) : Nx A (tSeq (tDrop te) u D) Γ := nx_drop (D := { D with nx := u D }) h k
theorem sq_ret {b : α} (h : EvX r te Γ Γ1 a) (e : some a = some b) (k : Rt A (psi r) b D.rt) : Nx A (tSeq (tRet te) u D) Γ := nx_ret (D := { D with nx := u D }) h e k
theorem sq_retS {st : γ} {b : α × γ} (h : EvX r te Γ Γ1 a) (hi : Γ1[i]? = some (.cel p cc st)) (e : some (a, st) = some b) (k : Rt A (psiS p cc r) b D.rt) : Nx A (tSeq (tRet te) u D) Γ := nx_retS (D := { D with nx := u D }) h hi e k
theorem sq_retC {a b : α} (h : EvC c te Γ Γ1 a) (e : some a = some b) (k : RtC A c b D.rt) : Nx A (tSeq (tRet te) u D) Γ := nx_retC (D := { D with nx := u D }) h e k
theorem sq_asgT {g : TG} {vs : List Nat} {Γf : α → List Sl} (h : EvX r te Γ Γ1 a) (hg : TgX g r vs Γ1 Γf) (k : Nx A (u D) (Γf a)) : Nx A (tSeq (tAsg te g) u D) Γ := nx_asgT (D := { D with nx := u D }) h hg k
theorem sq_setR {k : Nat} {f : α → β → α} (h : EvX rb te Γ Γ1 b) (hi : Γ1[i]? = some (.cel p (cHls w) a)) (g : Upd w k rb f) (n : Nx A (u D) (Γ1.set i (.cel p (cHls w) (f a b)))) : Nx A (tSeq (tAsg te (gSub (tVar i) (tC (.int (k : Int))) rSetL)) u D) Γ := nx_setR (D := { D with nx := u D }) h hi g n
theorem sq_for {wi : TI} {g : TG} {tb : TS} {vs : List Nat} {xs : List α} (f : α → ς → Option (Step ρ ς)) (mk : ς → List Sl) {Γf : α → ς → List Sl} {s0 : ς} {R0 : Step ρ ς}
    (hi : ItX r wi Γ Γ1 xs) (e : forL f xs s0 = some R0) (h0 : ∀ A' : Amb, A'.m = A.m ∧ A'.H0 = A.H0 → Nx A' (Fin A' (mk s0)) Γ1)
    (hg : ∀ s, TgX g r vs (mk s) (fun x => Γf x s))
    (hb : ∀ (A' : Amb) (D' : Ends) (x : α) (s : ς) (st : Step ρ ς), A'.m = A.m ∧ A'.H0 = A.H0 → f x s = some st → Conts A' ψ D' mk st → Nx A' (tb D') (Γf x s))
    (hr : ∀ b, R0 = .ret b → Rt A ψ b D.rt) (hd : ∀ s, R0 = .nx s → Nx A (u D) (mk s)) : Nx A (tSeq (tFor wi g tb) u D) Γ := nx_for (D := { D with nx := u D }) f mk hi e h0 hg hb hr hd
end
end G

set_option maxHeartbeats 4000000
/-! # G: objects of own classes, errors -/
namespace G
variable [TabL]
open PySem PySem.Spec PyProof.Rows L2
section
variable {α β γ ρ ς ε : Type} {r ra : Rp α} {rb : Rp β} {rc : Rp γ} {te ta tb : TE} {Γ Γ1 Γ2 : List Sl} {K : PySem.W.Frag} {a : α} {b : β} {w : Rw α} {C : Addr} {names : List Str}
/-- an instance of the class at C, its attributes in the order of their storing -/
def cIns {α : Type} (C : Addr) (names : List Str) (w : Rw α) : Cl α := ⟨fun H o a => ∃ dx vs, o = .ins C dx (names.zip vs) ∧ vs.length = names.length ∧ w.rel H vs a, fun s ⟨dx, vs, e, l, h⟩ => ⟨dx, vs, e, l, w.mono s h⟩⟩
def rIns {α : Type} (C : Addr) (names : List Str) (w : Rw α) : Rp α := rOb (cIns C names w)
theorem zip_lookup : ∀ {names : List Str} {vs : List V} {k : Nat} {nm : Str} {v : V}, names.Nodup → names[k]? = some nm → vs[k]? = some v → (names.zip vs).lookup nm = some v
  | [], _, _, _, _, _, h, _ => by simp at h
  | _ :: _, [], _, _, _, _, _, h => by simp at h
  | n :: ns, u :: us, 0, nm, v, _, h1, h2 => by
    simp at h1 h2; subst h1; subst h2
    simp [List.lookup]
  | n :: ns, u :: us, k + 1, nm, v, nd, h1, h2 => by
    have h1' : ns[k]? = some nm := by simpa using h1
    have h2' : us[k]? = some v := by simpa using h2
    have hne : nm ≠ n := fun e => (List.nodup_cons.mp nd).1 (by rw [← e]; exact List.mem_of_getElem? h1')
    show List.lookup nm ((n, u) :: ns.zip us) = some v
    have e : (nm == n) = false := beq_eq_false_iff_ne.mpr hne
    simp only [List.lookup, e]
    exact zip_lookup (List.nodup_cons.mp nd).2 h1' h2'
theorem zip_none : ∀ {names : List Str} {vs : List V} {nm : Str}, nm ∉ names → (names.zip vs).lookup nm = none
  | [], _, _, _ => by simp
  | _ :: _, [], _, _ => by simp
  | n :: ns, u :: us, nm, h => by
    show List.lookup nm ((n, u) :: ns.zip us) = none
    have e : (nm == n) = false := beq_eq_false_iff_ne.mpr fun e => h (by rw [e]; exact List.mem_cons_self)
    simp only [List.lookup, e]
    exact zip_none fun z => h (List.mem_cons_of_mem _ z)
theorem putF_zip : ∀ {names : List Str} {vs : List V} {nm : Str} {v : V}, nm ∉ names → vs.length = names.length → putF nm v (names.zip vs) = (names ++ [nm]).zip (vs ++ [v])
  | [], [], _, _, _, _ => rfl
  | [], _ :: _, _, _, _, h => by cases h
  | _ :: _, [], _, _, _, h => by cases h
  | n :: ns, u :: us, nm, v, h, l => by
    show (if n = nm then (n, v) :: ns.zip us else (n, u) :: putF nm v (ns.zip us)) = (n, u) :: (ns ++ [nm]).zip (us ++ [v])
    rw [if_neg fun e => h (by rw [e]; exact List.mem_cons_self), putF_zip (fun z => h (List.mem_cons_of_mem _ z)) (by simpa using l)]
theorem ob_ins {B H : Hp} {u : V} (s : Same B H) (h : (rIns C names w).rel B u a) : ∃ p dx vs, u = .ref p ∧ H p = some (.ins C dx (names.zip vs)) ∧ vs.length = names.length ∧ w.rel B vs a := by
  obtain ⟨p, o, e, hp, dx, vs, rfl, l, k⟩ := h
  exact ⟨p, dx, vs, e, s _ _ hp, l, k⟩
theorem ev_fld {k : Nat} {nm : Str} {f : α → β} (h : EvX (rIns C names w) te Γ Γ1 a) (g : Acc w k rb f) (hk : names[k]? = some nm) (nd : names.Nodup) (c : Cls K C) (na : NoAttr K C nm) : EvX rb (tFld K te nm) Γ Γ1 (f a) := fun A σ H B F Q q =>
  h A σ H B F _ fun v H1 B1 F1 s1 k1 => by
    obtain ⟨p, dx, vs, rfl, hp, l, kw⟩ := ob_ins F1.bh k1
    obtain ⟨u, hu, ku⟩ := g B1 vs a kw
    exact ⟨p, C, dx, _, u, rfl, hp, c, na, zip_lookup nd hk hu, q u H1 B1 F1 s1 ku⟩
theorem ev_celFld {i : Nat} {p : Addr} {k : Nat} {nm : Str} {f : α → β} (h : Γ[i]? = some (.cel p (cIns C names w) a)) (g : Acc w k rb f) (hk : names[k]? = some nm) (nd : names.Nodup) (c : Cls K C) (na : NoAttr K C nm) : EvX rb (tFld K (tVar i) nm) Γ Γ (f a) := fun A σ H B F Q q => by
  obtain ⟨e, o, ho, dx, vs, rfl, l, kw⟩ := cel_at F h
  obtain ⟨u, hu, ku⟩ := g B vs a kw
  exact ⟨_, e, p, C, dx, _, u, rfl, ho, c, na, zip_lookup nd hk hu, q u H B F (Same.refl _) ku⟩
/-- one attribute more -/
def Snoc {α β γ : Type} (w : Rw α) (r : Rp β) (w' : Rw γ) (f : α → β → γ) : Prop := ∀ B vs a v b, w.rel B vs a → r.rel B v b → w'.rel B (vs ++ [v]) (f a b)
theorem snoc0 : Snoc w0 ra (w1 ra) (fun _ b => b) := fun B vs a v b h k => ⟨v, by rw [show vs = [] from h]; rfl, k⟩
theorem snoc1 : Snoc (w1 ra) rb (wC ra (w1 rb)) (fun a b => (a, b)) := fun B vs a v b ⟨u, e, h⟩ k => ⟨u, [v], by rw [e]; rfl, h, v, rfl, k⟩
theorem snocC {w : Rw β} {w' : Rw ς} {f : β → γ → ς} (s : Snoc w rc w' f) : Snoc (wC ra w) rc (wC ra w') (fun a b => (a.1, f a.2 b)) := fun B vs a v b ⟨u, t, e, h, g⟩ k => ⟨u, t ++ [v], by rw [e]; rfl, h, s B t a.2 v b g k⟩
theorem sq_fld {A : Amb} {D : Ends} {u : TS} {i : Nat} {p : Addr} {nm : Str} {w' : Rw γ} {f : α → β → γ} (h : EvX rb te Γ Γ1 b) (hi : Γ1[i]? = some (.cel p (cIns C names w) a)) (sn : Snoc w rb w' f) (nn : nm ∉ names) (hl : names.length < 900) (c : Cls K C) (na : NoAttr K C nm)
    (k : Nx A (u D) (Γ1.set i (.cel p (cIns C (names ++ [nm]) w') (f a b)))) : Nx A (tSeq (sFld K (tVar i) te nm) u D) Γ := fun σ H B F => h A σ H B F _ fun v H1 B1 F1 s1 k1 => by
  obtain ⟨e, o, ho, dx, vs, rfl, l, kw⟩ := cel_at F1 hi
  refine ⟨_, e, p, C, dx, _, rfl, ho, c, na, by rw [List.length_zip]; omega, ?_⟩
  exact k σ _ B1 (F1.write hi (c' := cIns C (names ++ [nm]) w') (o' := .ins C dx (putF nm v (names.zip vs))) ⟨dx, vs ++ [v], by rw [putF_zip nn l], by rw [List.length_append, List.length_append, l]; rfl, sn B1 vs a v b kw k1⟩ trivial)
end

/-! ### errors -/
inductive Res (ε β : Type) where
  | ok (b : β)
  | er (e : ε)
def resO {ε β γ : Type} (x : Res ε β) (k : β → Option (Res ε γ)) : Option (Res ε γ) := match x with
  | .ok b => k b
  | .er e => some (.er e)
@[simp] theorem resO_ok {ε β γ : Type} (b : β) (k : β → Option (Res ε γ)) : resO (.ok b) k = k b := rfl
@[simp] theorem resO_er {ε β γ : Type} (e : ε) (k : β → Option (Res ε γ)) : resO (.er e) k = some (.er e) := rfl
/-- how an error of ε lies: its class, its dict's address -/
abbrev ER (ε : Type) := Hp → Value → Option Addr → ε → Prop
def ErAt {α : Type} (H : Hp) (cls : Value) (d : Option Addr) (C : Addr) (names : List Str) (w : Rw α) (a : α) : Prop :=
  cls = .ref C ∧ ∃ dd fs vs, d = some dd ∧ H dd = some (.xd fs) ∧ w.rel H vs a ∧ ∀ (k : Nat) (nm : Str), names[k]? = some nm → fs.lookup nm = vs[k]?
def RtE {ε : Type} (A : Amb) (R : ER ε) (e : ε) (E : XK) : Prop := ∀ cls d H' B', Post A H' B' → R B' cls d e → E cls d H'
def SpX {ε α β : Type} (R : ER ε) (w : Rw α) (r : Rp β) (m : α → Option (Res ε β)) : Sp := fun vs H Q E => ∃ B a x, SzT H B ∧ Same B H ∧ w.rel B vs a ∧ m a = some x ∧ (∀ b, x = .ok b → Rt (amb0 B H) (psi r) b Q) ∧ ∀ e, x = .er e → RtE (amb0 B H) R e E
/-- what an __init__ leaves -/
def RtI {β : Type} (A : Amb) (p : Addr) (c : Cl β) (b : β) (Q : VK) : Prop := ∀ H' B', Post A H' B' → (∃ o, H' p = some o ∧ c.ok B' o b) → Q .non H'
def SpI {ε α β : Type} (R : ER ε) (C : Addr) (w : Rw α) (c : Cl β) (m : α → Option (Res ε β)) : Sp := fun vs H Q E => ∃ p dx vs' B a x, vs = .ref p :: vs' ∧ H p = some (.ins C dx []) ∧ HotP B p ∧ SzT H B ∧ Same B H ∧ w.rel B vs' a ∧ m a = some x ∧
  (∀ b, x = .ok b → RtI (ambS B H p) p c b Q) ∧ ∀ e, x = .er e → RtE (ambS B H p) R e E
/-- an error's __init__: its arguments are stored, one or two -/
def SpE1 (C : Addr) (nm : Str) : Sp := fun vs H Q _ => ∃ a v, vs = [.ref a, v] ∧ H a = some (exo a C none) ∧ ∀ dx, H dx = none → dx ≠ a → Q .non (upd (upd H dx (exd dx [(nm, v)])) a (exo a C (some dx)))
def SpE2 (C : Addr) (n1 n2 : Str) : Sp := fun vs H Q _ => ∃ a v u, vs = [.ref a, v, u] ∧ H a = some (exo a C none) ∧ ∀ dx, H dx = none → dx ≠ a → Q .non (upd (upd H dx (exd dx [(n2, u), (n1, v)])) a (exo a C (some dx)))
section
variable {P : Program} {w : World} {K : PySem.W.Frag} {mg : Str → Option Value} {base : Heap}
/-- the body «self.nm = nm» -/
theorem okE1 {f C : Addr} {fd : FuncData} {st : Stmt} {N : List Str} {qual nm p1 : Str} {pos1 pos2 pos3 pos4 : Pos} (F : Fun K "__init__" qual st f fd) (S : FnScope N ["self", p1] (defScope st)) (T : OexC K C) (na : PySem.W.findIn K (.ref C) nm = some none)
    (hb : defBody st = [.Assign [.Attribute (.Name "self" pos1) nm pos2] (.Name p1 pos3) pos4]) (h0 : N[0]? = some ("self" : Str)) (h1 : N[1]? = some p1) (v0 : Vis (defScope st) ("self" : Str)) (v1 : Vis (defScope st) p1)
    (d0 : (p1 == ("__debug__" : Str)) = false) (d1 : (p1 == ("__classdict__" : Str)) = false) (hl : N.length = 2) : FnOk P w K mg base CX0 1 f fd ["self", p1] (SpE1 C nm) := by
  refine F.ok S (fun vs H Q E h => ?_) (fun cdv A outer s H vs Q E hr h => ?_)
  · obtain ⟨a, v, rfl, _⟩ := h; rfl
  · obtain ⟨a, v, rfl, ha, k⟩ := h
    rw [hb]
    refine ⟨_, pss_one (ps_ost (pe_var (i := 0) h0 v0) (pe_var (i := 1) h1 v1 d0 d1)), ?_⟩
    have hN : L2.start N [.ref a, v] = [some (.ref a), some v] := by
      unfold L2.start; simp [hl]
    rw [hN]
    exact ⟨v, rfl, _, rfl, a, C, rfl, T, na, .inl ⟨ha, fun dx n ne => k dx n ne⟩⟩
end
theorem upd_comm {H : Hp} {a b : Addr} {o u : HO} (h : a ≠ b) : upd (upd H a o) b u = upd (upd H b u) a o := by
  funext c; unfold upd
  by_cases h1 : c = b
  · by_cases h2 : c = a
    · exact absurd (h2.symm.trans h1) h
    · rw [if_pos h1, if_neg h2, if_pos h1]
  · rw [if_neg h1]
    by_cases h2 : c = a
    · rw [if_pos h2, if_pos h2]
    · rw [if_neg h2, if_neg h2, if_neg h1]
theorem del_made {H : Hp} {a dx : Addr} {o1 o2 o3 o4 : HO} (ha : H a = none) (ne : dx ≠ a) : upd (del (upd (upd (upd H a o1) dx o2) a o3) a) dx o4 = upd H dx o4 := by
  funext c
  by_cases h1 : c = dx
  · rw [h1, upd_same, upd_same]
  · rw [upd_ne h1, upd_ne h1]
    by_cases h2 : c = a
    · rw [h2, del_same, ha]
    · rw [del_ne h2, upd_ne h2, upd_ne h1, upd_ne h2]
section
variable {α β γ ρ ς ε : Type} {r ra : Rp α} {rb : Rp β} {te : TE} {ta : TA} {Γ Γ1 Γ2 : List Sl} {K : PySem.W.Frag} {a : α} {b : β} {w : Rw α} {C : Addr} {A : Amb} {D : Ends} {u : TS} {R : ER ε} {E : XK}
theorem Frm.plus {σ : L2.St} {H B : Hp} {p : Addr} {o : HO} (F : Frm A σ H B Γ) (hp : H p = none) (ho : szO o) : Frm A σ (upd H p o) (upd B p o) Γ := (F.fresh hp ho).adopt (F.H0none hp) F.sub F.mh
/-- raise C(x): one argument -/
theorem sq_raise1 {nm : Str} {W : WX} {e : ε} (h : EvX r te Γ Γ1 a) (k : RtE A R e E) (hR : ∀ B cls d, ErAt B cls d C [nm] (w1 r) a → R B cls d e) (hW : ∀ cls d σ H, E cls d H → W cls d σ H) :
    Nx A (tSeq (fun _ σ H => tMkO C (SpE1 C nm) [] (tCons te tNil) σ H fun cls d H' => W cls d σ H') u D) Γ := fun σ H B F => h A σ H B F _ fun v H1 B1 F1 s1 k1 => by
  refine ⟨by show 1 ≤ 1000; decide, fun x hx => ⟨x, v, rfl, upd_same, fun dx n ne => ⟨rfl, dx, [(nm, v)], upd_same, ?_, ?_, ?_⟩⟩⟩
  · rw [upd_ne ne, upd_same]
  · rw [upd_ne ne] at n; exact n
  · have n1 : H1 dx = none := by rw [upd_ne ne] at n; exact n
    rw [del_made hx ne]
    refine hW _ _ _ _ (k _ _ _ _ (F1.plus (o := .xd [(nm, v)]) n1 trivial).post (hR _ _ _ ⟨rfl, dx, [(nm, v)], [v], rfl, upd_same, ⟨v, rfl, ?_⟩, fun j m hj => ?_⟩))
    · exact r.mono (fun b o q => by rw [upd_ne (ne_of_none (F1.bh b o q) n1)]; exact q) k1
    · cases j with
      | zero => simp at hj; subst hj; simp [List.lookup]
      | succ j => simp at hj
end
/-! ### a call that may raise -/
/-- an expression with two ends; W is what is wished of an error -/
def EvR {ε α : Type} (R : ER ε) (r : Rp α) (te : (L2.St → XK) → TE) (Γ Γ' : List Sl) (x : Res ε α) : Prop := ∀ (A : Amb) (σ : L2.St) (H B : Hp), Frm A σ H B Γ → ∀ (E : L2.St → XK) (Q : VK),
  (∀ b, x = .ok b → ∀ v H' B', Frm A σ H' B' Γ' → Same B B' → r.rel B' v b → Q v H') → (∀ e, x = .er e → ∀ cls d H' B', Frm A σ H' B' Γ' → Same B B' → R B' cls d e → E σ cls d H') → te E σ H Q
/-- C(e, ..) whose __init__ may raise, within a try -/
def tMakeS (C : Addr) (sp : Sp) (E : L2.St → XK) (t : TA) : TE := fun σ H Q => t σ H fun vs H1 => ∀ x dx, H1 x = none → H1 dx = none → dx ≠ x →
  sp (.ref x :: vs) (upd (upd H1 dx (.own x)) x (.ins C dx [])) (fun v H2 => v = .non ∧ Q (.ref x) H2) (E σ)
section
variable {X : Cx} {CX : CXT} {k : Nat} {f C : Addr} {fd : FuncData} {ps : List Str} {sp : Sp} {E : L2.St → XK} {x : Str} {p pos : Pos} {e : Expr} {es : List Expr} {t : TA}
theorem run_makeS {pins : List (Addr × Obj)} {σ : L2.St} {H : Hp} {s : Shared} {Q : VK} {us : List Value} {vs : List V} (M : Mk X.K C f) (F : FnOk X.prog X.w X.K X.mg X.base CX k f fd ps sp) (hr : Room (k + 1) X.A) (hb : Binds X.K fd ps [])
    (hx : ∀ (pins : List (Addr × Obj)) (H' : Hp) (s : Shared) (e : Value) (s' : Shared), Inv X pins σ H' s → CX X.stack H' s (E σ) e s' → X.xe e s') (I : Inv X pins σ H s) (r : Vals vs us)
    (h : ∀ x dx, H x = none → H dx = none → dx ≠ x → sp (.ref x :: vs) (upd (upd H dx (.own x)) x (.ins C dx [])) (fun v H2 => v = .non ∧ Q (.ref x) H2) (E σ)) :
    wpAny (model X.prog X.w) X.A (call (.ref C) us) (EP X pins σ Q) X.xe s := by
  have hq := h (s.heap.objs.size + 1) s.heap.objs.size (I.hok.fresh (Nat.le_succ _)) (I.hok.fresh (Nat.le_refl _)) (Nat.ne_of_lt (Nat.lt_succ_self _))
  have I2 := Inv.made (C := C) I
  have r2 : Vals (V.ref (s.heap.objs.size + 1) :: vs) (Value.ref (s.heap.objs.size + 1) :: us) := .cons rfl r
  have hl : (Value.ref (s.heap.objs.size + 1) :: us).length = ps.length := by
    have e := r2.length
    rw [F.len _ _ _ _ hq] at e
    exact e.symm
  have bb := hb _ (Value.ref (s.heap.objs.size + 1) :: us) I2.kIn (by rw [List.append_nil]; exact hl)
  rw [List.append_nil] at bb
  refine wpAny_call (make_map (f := f) I.kIn M.makes M.init (beq_iff_eq.mp M.fn) (codeAny_mono (F.run _ X.stack _ _ ⟨Value.ref (s.heap.objs.size + 1) :: us, []⟩ (Value.ref (s.heap.objs.size + 1) :: us) _ _ (E σ) (hr.make C us [])
    (I2.env0.make C us []) bb r2 hq) fun r s' hq' => ?_))
  cases r with
  | error e => exact hx pins _ _ e s' I2 hq'
  | ok fl =>
    cases fl with
    | ret u =>
      obtain ⟨v, H2, os2, bare2, un2, hok2, rv, ev, q2⟩ := hq'
      subst ev
      exact ⟨rv, .ref (s.heap.objs.size + 1), H2, I2.call' (ch := []) os2 un2 hok2 bare2 (fun b z => absurd z (by simp)), rfl, q2⟩
    | next => exact False.elim hq'
    | brk => exact False.elim hq'
    | cont => exact False.elim hq'
theorem pe_makeS (M : Mk X.K C f) (F : FnOk X.prog X.w X.K X.mg X.base CX k f fd ps sp) (hr : Room (k + 1) X.A) (hg : Gl X x) (hm : X.mg x = some (.ref C)) (hb : Binds X.K fd ps [])
    (hx : ∀ σ, PassesAt CX X σ (E σ)) (ha : PA X (e :: es) t) (hdb : (x == ("__debug__" : Str)) = false := by decide) (he : starEach (e :: es) X.env = (false, eval e X.env) :: starEach es X.env := by rfl) (hpl : (backTo pos (starEach es X.env)).any (·.1) = false := by rfl) :
    PE X (.Call (.Name x p) (e :: es) [] pos) (tMakeS C sp E t) := by
  refine ⟨fun pins s σ H Q I h => ?_⟩
  refine wpAny_Call_Name_kw (ld_glob I hg hm ?_ hdb)
  refine PySem.W.callWith_K (h₀ := X.base) I.ok.mod.kin M.kp (thn (ha.run pos pins s σ H _ I h) fun us s1 ⟨vs, H1, I1, r, q⟩ => ⟨I1.kIn, ?_⟩) he hpl
  exact run_makeS M F hr hb (fun pins H' s e s' I' c => hx σ pins H' s e s' I' c) I1 r q
end
section
variable {α β γ ρ ς ε : Type} {r ra : Rp α} {rb : Rp β} {ta : TA} {Γ Γ1 Γ2 : List Sl} {K : PySem.W.Frag} {a : α} {b : β} {w : Rw α} {C : Addr} {names : List Str} {A : Amb} {D : Ends} {u : TS} {R : ER ε}
/-- what an object is, behind its making -/
theorem made_frame {σ : L2.St} {H B : Hp} {x dx : Addr} (F : Frm A σ H B Γ) (hx : H x = none) (hd : H dx = none) (ne : dx ≠ x) {H' B' : Hp}
    (P : Post (ambS (upd B dx (.own x)) (upd (upd H dx (.own x)) x (.ins C dx [])) x) H' B') {o : HO} (ho : H' x = some o) : Frm (A.add x o) σ H' B' Γ := by
  have kp : ∀ q u, ¬ isTab q → H q = some u → H' q = some u := fun q u nt e => P.keep q u (fun (z : q = x) => by rw [z, hx] at e; cases e) nt (by
    show upd (upd H dx (.own x)) x (.ins C dx []) q = some u
    rw [upd_ne (ne_of_none e hx), upd_ne (ne_of_none e hd)]; exact e)
  have bdx : B dx = none := by
    cases e : B dx with
    | none => rfl
    | some u => have := F.bh dx u e; rw [hd] at this; cases this
  have bb : Same B B' := fun q u e => P.b0 q u (by show upd B dx (.own x) q = some u; rw [upd_ne (ne_of_none e bdx)]; exact e)
  have nout : ∀ q, H q ≠ none → B q = none → B' q = none := fun q n z => by
    have q1 : q ≠ x := fun e => n (by rw [e]; exact hx)
    have q2 : q ≠ dx := fun e => n (by rw [e]; exact hd)
    exact P.out q (by show upd (upd H dx (.own x)) x (.ins C dx []) q ≠ none; rw [upd_ne q1, upd_ne q2]; exact n) (by show upd B dx (.own x) q = none; rw [upd_ne q2]; exact z)
  have al : ∀ q, H q ≠ none → H' q ≠ none := fun q n => P.alive q (by
    have q1 : q ≠ x := fun e => n (by rw [e]; exact hx)
    have q2 : q ≠ dx := fun e => n (by rw [e]; exact hd)
    show upd (upd H dx (.own x)) x (.ins C dx []) q ≠ none
    rw [upd_ne q1, upd_ne q2]; exact n)
  have nT : ¬ isTab x := F.tb.ne hx
  have h0 := F.H0none hx
  have bx : B' x = none := P.out x (by show upd (upd H dx (.own x)) x (.ins C dx []) x ≠ none; rw [upd_same]; simp) (by
    show upd B dx (.own x) x = none
    rw [upd_ne (Ne.symm ne)]
    cases e : B x with
    | none => rfl
    | some u => have := F.bh x u e; rw [hx] at this; cases this)
  refine F.move ⟨P.bh, fun q u e => bb q u (F.b0 q u e), fun q u m nt e => ?_, fun q n z => ?_, fun q n => ?_, fun q u e => ?_, ⟨fun q m => ?_, F.mh.nt, fun q m => ?_⟩, A.up _ _ bb F.ph, P.sz, P.tb⟩ bb fun q h => ⟨nout q h.2.1 h.1, ?_, fun u => kp q u (h.nt F.mh)⟩
  · by_cases hq : q = x
    · subst hq
      have e' : upd A.H0 q o q = some u := e
      rw [upd_same] at e'
      cases e'; exact ho
    · have e' : upd A.H0 x o q = some u := e
      rw [upd_ne hq] at e'
      exact kp q u nt (F.keep q u m nt e')
  · by_cases hq : q = x
    · rw [hq]; exact bx
    · have n' : upd A.H0 x o q ≠ none := n
      rw [upd_ne hq] at n'
      exact nout q (F.alive q n') (F.out q n' z)
  · by_cases hq : q = x
    · rw [hq, ho]; simp
    · have n' : upd A.H0 x o q ≠ none := n
      rw [upd_ne hq] at n'
      exact al q (F.alive q n')
  · have hq : q ≠ x := fun z => by rw [z] at e; exact absurd (F.sub x u e) (by rw [h0]; simp)
    show upd A.H0 x o q = some u
    rw [upd_ne hq]; exact F.sub q u e
  · have := F.mh.al q m
    have hq : q ≠ x := fun z => this (by rw [z]; exact h0)
    show upd A.H0 x o q ≠ none
    rw [upd_ne hq]; exact this
  · have hq : q ≠ x := fun z => nT (by rw [← z]; exact m)
    show upd A.H0 x o q ≠ none
    rw [upd_ne hq]; exact F.mh.tb q m
  · have hq : q ≠ x := fun z => h.2.1 (by rw [z]; exact hx)
    rcases h.2.2 with m | m
    · exact .inl (by show upd A.H0 x o q = none; rw [upd_ne hq]; exact m)
    · exact .inr m
theorem made_pre {σ : L2.St} {H B : Hp} {x dx : Addr} (F : Frm A σ H B Γ) (hx : H x = none) (hd : H dx = none) (ne : dx ≠ x) :
    SzT (upd (upd H dx (.own x)) x (.ins C dx [])) (upd B dx (.own x)) ∧ Same (upd B dx (.own x)) (upd (upd H dx (.own x)) x (.ins C dx [])) ∧ HotP (upd B dx (.own x)) x ∧ Same B (upd B dx (.own x)) := by
  have bx : B x = none := by
    cases e : B x with
    | none => rfl
    | some u => have := F.bh x u e; rw [hx] at this; cases this
  have bdx : B dx = none := by
    cases e : B dx with
    | none => rfl
    | some u => have := F.bh dx u e; rw [hd] at this; cases this
  have bb : Same B (upd B dx (.own x)) := fun q u e => by rw [upd_ne (ne_of_none e bdx)]; exact e
  refine ⟨⟨(F.sz.upd (o := .own x) trivial).upd (o := .ins C dx []) trivial, ((F.tb.upd (F.tb.ne hd)).upd (F.tb.ne hx)).to (fun _ _ => rfl) bb fun q m => by rw [upd_ne (show q ≠ dx from fun z => F.tb.ne hd (by rw [← z]; exact m))]; exact F.tb.no q m⟩, fun q u e => ?_, ⟨by rw [upd_ne (Ne.symm ne)]; exact bx, F.tb.ne hx⟩, fun q u e => by rw [upd_ne (ne_of_none e bdx)]; exact e⟩
  by_cases hq : q = dx
  · subst hq
    rw [upd_same] at e; cases e
    rw [upd_ne ne, upd_same]
  · rw [upd_ne hq] at e
    rw [upd_ne (ne_of_none (F.bh q u e) hx), upd_ne hq]; exact F.bh q u e
/-- a class is called; its __init__ may raise -/
theorem er_make {wb : Rw β} {m : α → Option (Res ε β)} {x : Res ε β} (hmono : ∀ {H H' cls d e}, Same H H' → R H cls d e → R H' cls d e) (h : EvW w ta Γ Γ1 a) (e : m a = some x) :
    EvR R (rIns C names wb) (fun E => tMakeS C (SpI R C w (cIns C names wb) m) E ta) Γ Γ1 x := fun A σ H B F E Q qo qe => h A σ H B F _ fun vs H1 B1 F1 s1 k1 => by
  intro y dy hy hd ne
  obtain ⟨p1, p2, p3, p4⟩ := made_pre (C := C) F1 hy hd ne
  refine ⟨y, dy, vs, upd B1 dy (.own y), a, x, rfl, upd_same, p3, p1, p2, w.mono p4 k1, e, fun b hb H2 B2 P ⟨o, ho, k⟩ => ⟨rfl, ?_⟩, fun er he cls d H2 B2 P k => ?_⟩
  · have F2 := made_frame (A := A) F1 hy hd ne P ho
    have n0 := F1.H0none hy
    have F3 := F2.adopt n0 F1.sub F1.mh
    have hB2 : B2 y = none := P.out y (by show upd (upd H1 dy (.own y)) y (.ins C dy []) y ≠ none; rw [upd_same]; simp) p3.1
    have s3 : Same B2 (upd B2 y o) := fun q u e => by rw [upd_ne (ne_of_none e hB2)]; exact e
    exact qo b hb _ _ _ F3 (s1.trans (p4.trans (P.b0.trans s3))) ⟨y, o, rfl, upd_same, (cIns C names wb).mono s3 k⟩
  · -- the object is let go: it is forgotten among what is hidden
    have hox : ∃ o, H2 y = some o := by
      cases q : H2 y with
      | none => exact absurd q (P.alive y (by show upd (upd H1 dy (.own y)) y (.ins C dy []) y ≠ none; rw [upd_same]; simp))
      | some o => exact ⟨o, rfl⟩
    obtain ⟨o, ho⟩ := hox
    exact qe er he cls d _ _ ((made_frame (A := A) F1 hy hd ne P ho).drop (F1.H0none hy) F1.sub F1.mh) (s1.trans (p4.trans P.b0)) k
end
end G

set_option maxHeartbeats 4000000
/-! # G: more words: in, ==, +, append, enumerate -/
namespace G
variable [TabL]
open PySem PySem.Spec PyProof.Rows L2
section
variable {α β γ ρ ς ε : Type} {r ra : Rp α} {rb : Rp β} {c : Cl α} {te ta tb : TE} {Γ Γ1 Γ2 : List Sl} {K : PySem.W.Frag} {a x : α} {b : β} {w : Rw α} {xs ys zs : List α} {i : Nat} {p : Addr} {A : Amb} {D : Ends} {u : TS}
/-! ### in -/
structure Fl {α : Type} [DecidableEq α] (r : Rp α) extends Sc r where
  fl : ∀ a, flatV (val a) = true
  eq : ∀ a b, eqV (val a) (val b) = decide (a = b)
theorem bq_int (i j : Int) : (i == j) = decide (i = j) := by by_cases h : i = j <;> simp [h]
theorem bq_str (i j : Str) : (i == j) = decide (i = j) := by by_cases h : i = j <;> simp [h]
theorem bq_bool (i j : Bool) : (i == j) = decide (i = j) := by cases i <;> cases j <;> rfl
def fl_int : Fl rInt := { scInt with fl := fun _ => rfl, eq := bq_int }
def fl_str : Fl rStr := { scStr with fl := fun _ => rfl, eq := bq_str }
def fl_bool : Fl rBool := { scBool with fl := fun _ => rfl, eq := bq_bool }
theorem Fl.vals [DecidableEq α] (f : Fl r) {B : Hp} {vs : List V} (h : Paired (r.rel B) vs xs) : vs = xs.map f.val := Paired.mapEq (fun _ _ k => f.ok k) h
theorem Fl.inv [DecidableEq α] (f : Fl r) (a : α) : ∀ xs : List α, inV (f.val a) (xs.map f.val) = decide (a ∈ xs)
  | [] => rfl
  | x :: xs => by
    have ih := f.inv a xs
    unfold inV at ih ⊢
    rw [List.map_cons, List.any_cons, ih, f.eq]
    by_cases h : x = a
    · subst h; simp
    · have h' : ¬ a = x := fun e => h e.symm
      by_cases h2 : a ∈ xs <;> simp [h, h', h2]
theorem Fl.allf [DecidableEq α] (f : Fl r) : ∀ xs : List α, (xs.map f.val).all flatV = true
  | [] => rfl
  | x :: xs => by rw [List.map_cons, List.all_cons, f.fl, f.allf xs]; rfl
theorem rin_of [DecidableEq α] (f : Fl r) {H B : Hp} {v : V} {vs : List V} {q : Addr} (neg : Bool) (hs : SqL K H q vs ∨ SqT K H q vs) (hv : r.rel B v a) (hp : Paired (r.rel B) vs xs) {Q : VK} (k : Q (.bl (if neg then !decide (a ∈ xs) else decide (a ∈ xs))) H) : rIn K neg v (.ref q) H Q := by
  rw [f.ok hv]
  refine ⟨q, vs, rfl, hs, f.fl a, by rw [f.vals hp]; exact f.allf xs, ?_⟩
  rw [f.vals hp, f.inv]; exact k
theorem ev_inL [DecidableEq α] (f : Fl r) (ha : EvX r ta Γ Γ1 a) (hb : EvX (rLst r) tb Γ1 Γ2 xs) : EvX rBool (tOp (rIn K false) ta tb) Γ Γ2 (decide (a ∈ xs)) := ev_op ha hb fun H B u v s ku kv Q q => by
  obtain ⟨p, vs, rfl, hp, k⟩ := ob_lst s kv
  exact rin_of f false (.inl (SqL.of hp)) ku k (q _ rfl)
theorem ev_ninL [DecidableEq α] (f : Fl r) (ha : EvX r ta Γ Γ1 a) (hb : EvX (rLst r) tb Γ1 Γ2 xs) : EvX rBool (tOp (rIn K true) ta tb) Γ Γ2 (!decide (a ∈ xs)) := ev_op ha hb fun H B u v s ku kv Q q => by
  obtain ⟨p, vs, rfl, hp, k⟩ := ob_lst s kv
  exact rin_of f true (.inl (SqL.of hp)) ku k (q _ rfl)
theorem ev_inT [DecidableEq α] (f : Fl r) (ha : EvX r ta Γ Γ1 a) (hb : EvX (rTpl r) tb Γ1 Γ2 xs) : EvX rBool (tOp (rIn K false) ta tb) Γ Γ2 (decide (a ∈ xs)) := ev_op ha hb fun H B u v s ku kv Q q => by
  obtain ⟨p, vs, rfl, hp, k⟩ := ob_tpl s kv
  exact rin_of f false (.inr (SqT.of hp)) ku k (q _ rfl)
theorem ev_ninT [DecidableEq α] (f : Fl r) (ha : EvX r ta Γ Γ1 a) (hb : EvX (rTpl r) tb Γ1 Γ2 xs) : EvX rBool (tOp (rIn K true) ta tb) Γ Γ2 (!decide (a ∈ xs)) := ev_op ha hb fun H B u v s ku kv Q q => by
  obtain ⟨p, vs, rfl, hp, k⟩ := ob_tpl s kv
  exact rin_of f true (.inr (SqT.of hp)) ku k (q _ rfl)
theorem cel_lst {A : Amb} {σ : L2.St} {H B : Hp} (F : Frm A σ H B Γ) (h : Γ[i]? = some (.cel p (cLst r) xs)) : σ[i]? = some (some (V.ref p)) ∧ ∃ vs, H p = some (.lst vs) ∧ Paired (r.rel B) vs xs := by
  obtain ⟨e, o, ho, vs, rfl, k⟩ := cel_at F h
  exact ⟨e, vs, ho, k⟩
theorem ev_inCel [DecidableEq α] (ha : EvX r ta Γ Γ1 a) (hi : Γ1[i]? = some (.cel p (cLst r) xs)) (f : Fl r) : EvX rBool (tOp (rIn K false) ta (tVar i)) Γ Γ1 (decide (a ∈ xs)) := fun A σ H B F Q q => ha A σ H B F _ fun v H' B' F' s k => by
  obtain ⟨e, vs, hp, kp⟩ := cel_lst F' hi
  exact ⟨_, e, rin_of f false (.inl (SqL.of hp)) k kp (q _ H' B' F' s rfl)⟩
theorem ev_ninCel [DecidableEq α] (ha : EvX r ta Γ Γ1 a) (hi : Γ1[i]? = some (.cel p (cLst r) xs)) (f : Fl r) : EvX rBool (tOp (rIn K true) ta (tVar i)) Γ Γ1 (!decide (a ∈ xs)) := fun A σ H B F Q q => ha A σ H B F _ fun v H' B' F' s k => by
  obtain ⟨e, vs, hp, kp⟩ := cel_lst F' hi
  exact ⟨_, e, rin_of f true (.inl (SqL.of hp)) k kp (q _ H' B' F' s rfl)⟩
/-! ### a list of the frame's own -/
theorem ev_lenCel (hi : Γ[i]? = some (.cel p (cLst r) xs)) : EvX rInt (tCB (RLen K) (tCons (tVar i) tNil)) Γ Γ (xs.length : Int) := fun A σ H B F Q q => by
  obtain ⟨e, vs, hp, kp⟩ := cel_lst F hi
  exact ⟨_, e, p, vs, rfl, .inl (SqL.of hp), by rw [Paired.len kp]; exact q _ H B F (Same.refl _) rfl⟩
theorem ev_ixCel {j : Int} (hi : Γ[i]? = some (.cel p (cLst r) xs)) (hi1 : Γ1[i]? = some (.cel p (cLst r) xs)) (hb : EvX rInt tb Γ Γ1 j) (e : atI xs j = some a) : EvX r (tOp (rIxL K) (tVar i) tb) Γ Γ1 a := fun A σ H B F Q q => by
  obtain ⟨e1, vs, hp, kp⟩ := cel_lst F hi
  refine ⟨_, e1, hb A σ H B F _ fun v H' B' F' s k => ?_⟩
  obtain ⟨e2, vs2, hp2, kp2⟩ := cel_lst F' hi1
  obtain ⟨o, ho, ko⟩ := atI_rel kp2 e
  exact ⟨p, vs2, j, o, rfl, k, SqL.of hp2, ho, q o H' B' F' s ko⟩
def pyApp (xs : List α) (a : α) : Option (List α) := if xs.length < 1000000 then some (xs ++ [a]) else none
theorem sq_app {rx : Rp γ} {x0 : List γ} (h : EvX r te Γ Γ1 a) (hi0 : Γ[i]? = some (.cel p (cLst rx) x0)) (hi : Γ1[i]? = some (.cel p (cLst r) xs)) (e : pyApp xs a = some ys) (k : Nx A (u D) (Γ1.set i (.cel p (cLst r) ys))) :
    Nx A (tSeq (tDrop (tBM K "list" rAppend (tVar i) (tCons te tNil))) u D) Γ := fun σ H B F => by
  unfold pyApp at e
  split at e
  · rename_i hl
    cases e
    obtain ⟨e1, vs, hp, kp⟩ := cel_lst F hi0
    refine ⟨_, e1, .inl ⟨rfl, vs, SqL.of hp⟩, h A σ H B F _ fun v H1 B1 F1 s1 k1 => ?_⟩
    obtain ⟨e2, vs2, hp2, kp2⟩ := cel_lst F1 hi
    have hz : vs2.length < sizeLine := by rw [Paired.len kp2]; exact Nat.lt_of_lt_of_le hl (by decide)
    refine ⟨p, vs2, v, rfl, rfl, hp2, hz, k σ _ B1 (F1.write hi (c' := cLst r) (o' := .lst (vs2 ++ [v])) ⟨_, rfl, Paired.app kp2 (.cons k1 .nil)⟩ (by show (vs2 ++ [v]).length ≤ sizeLine; rw [List.length_append, List.length_singleton]; omega))⟩
  · cases e
/-! ### + -/
def pyCat (xs ys : List α) : Option (List α) := if xs.length + ys.length ≤ 1000000 then some (xs ++ ys) else none
theorem ec_cat (ha : EvX (rLst r) ta Γ Γ1 xs) (hb : EvX (rLst r) tb Γ1 Γ2 ys) (e : pyCat xs ys = some zs) : EvC (cLst r) (tOp rCat ta tb) Γ Γ2 zs := by
  unfold pyCat at e
  split at e
  · rename_i hl
    cases e
    refine ev_opC ha hb fun H B u v z s ku kv Q q => ?_
    obtain ⟨p, vs, rfl, hp, k⟩ := ob_lst s ku
    obtain ⟨p2, ws, rfl, hp2, k2⟩ := ob_lst s kv
    have hz : vs.length + ws.length ≤ sizeLine := by rw [Paired.len k, Paired.len k2]; exact Nat.le_trans hl (by decide)
    exact ⟨p, p2, vs, ws, rfl, rfl, hp, hp2, hz, fun l hl => q l _ hl (by show (vs ++ ws).length ≤ sizeLine; rw [List.length_append]; exact hz) ⟨_, rfl, Paired.app k k2⟩⟩
  · cases e
/-! ### enumerate -/
def enumF {α : Type} (n : Nat) : List α → List (Int × α)
  | [] => []
  | a :: xs => (((n : Nat) : Int), a) :: enumF (n + 1) xs
def enumL {α : Type} (xs : List α) : List (Int × α) := enumF 0 xs
theorem enumF_len : ∀ (xs : List α) (n : Nat), (enumF n xs).length = xs.length
  | [], _ => rfl
  | _ :: xs, n => by show (enumF (n + 1) xs).length + 1 = _; rw [enumF_len xs]; rfl
theorem enumF_get : ∀ {xs : List α} {n i : Nat} {y : Int × α}, (enumF n xs)[i]? = some y → ∃ a, xs[i]? = some a ∧ y = (((n + i : Nat) : Int), a)
  | [], _, _, _, h => by cases h
  | a :: xs, n, 0, y, h => by
    have h' : (((n : Nat) : Int), a) = y := by simpa [enumF] using h
    exact ⟨a, rfl, h'.symm⟩
  | a :: xs, n, i + 1, y, h => by
    have h' : (enumF (n + 1) xs)[i]? = some y := by simpa [enumF] using h
    obtain ⟨b, h1, h2⟩ := enumF_get h'
    refine ⟨b, by simpa using h1, ?_⟩
    rw [h2, show n + 1 + i = n + (i + 1) by omega]
theorem enumL_len (xs : List α) : (enumL xs).length = xs.length := enumF_len xs 0
theorem it_enum (h : EvX (rLst r) te Γ Γ1 xs) : ItX (rTup (wC rInt (w1 r))) (iEnum K (tCons te tNil)) Γ Γ1 (enumL xs) := fun A σ H B F R q => h A σ H B F _ fun v H' B' F' s k => by
  obtain ⟨p, o, rfl, hp, vs, rfl, kp⟩ := k
  refine ⟨p, vs, rfl, SqL.of (F'.bh _ _ hp), q _ H' B' F' s ⟨by rw [enumL_len, ← Paired.len kp]; exact F'.sz _ _ (F'.bh _ _ hp), fun H2 B2 s1 s2 => ?_, fun i H2 B2 s1 s2 hi => ?_, fun i x H2 B2 v H3 s1 s2 hx hy A σ Γ F => ?_⟩⟩
  · exact ⟨vs, SqL.of (s2 _ _ (s1 _ _ hp)), by rw [enumL_len, Paired.len kp]; exact Nat.le_refl _⟩
  · rw [enumL_len] at hi
    obtain ⟨y, hy⟩ : ∃ y, vs[i]? = some y := ⟨_, List.getElem?_eq_getElem (by rw [Paired.len kp]; exact hi)⟩
    exact ⟨vs, y, SqL.of (s2 _ _ (s1 _ _ hp)), hy⟩
  · obtain ⟨T, y', rfl, hT, rfl, hv⟩ := hy
    obtain ⟨a, ha, rfl⟩ := enumF_get hx
    obtain ⟨y2, hy', ky⟩ := Paired.getR kp ha
    have e := (hv vs (SqL.of (s2 _ _ (s1 _ _ hp)))).symm
    rw [hy'] at e; obtain rfl := Option.some.inj e
    have hB : B2 T = none := by
      cases q : B2 T with
      | none => rfl
      | some u => have := F.bh T u q; rw [hT] at this; cases this
    have s' : Same B2 (upd B2 T (.tup [.int (i : Nat), y'])) := fun b u e => by rw [upd_ne (ne_of_none e hB)]; exact e
    refine ⟨_, F.plus (o := .tup [.int (i : Nat), y']) hT (by show 2 ≤ sizeLine; decide), s', T, _, rfl, upd_same, _, rfl, .int (i : Nat), [y'], rfl, ?_, y', rfl, r.mono s' (r.mono s1 ky)⟩
    show V.int (i : Nat) = V.int ((0 + i : Nat) : Int)
    rw [Nat.zero_add]
end
end G

set_option maxHeartbeats 4000000
/-! # G: try; classes that are made; methods; data that are compared -/
namespace G
variable [TabL]
open PySem PySem.Spec PyProof.Rows L2
/-! ### try -/
/-- the suite is told where its reading is told -/
def tSui (X : Cx) (st : List Stmt) : Addr → Value → Option Addr → TS := fun a cls d D σ H => ∃ t : TS, (∀ (oe : Obj) (pn : List (Addr × Obj)), Zc cls d oe → (∃ vs, oe.data = .fields vs) → PSs (X.suite a ((a, oe) :: pn)) st t) ∧ t D σ H
def tBod (X : Cx) (st : List Stmt) (W : WX) : TS := fun D σ H => ∃ t : TS, (∀ (pn : List (Addr × Obj)) (xe : Value → Shared → Prop), Takes (X.tr pn xe) W → PassesOwn (model X.prog X.w) X.A X.env xe → PSs (X.tr pn xe) st t) ∧ t D σ H
section
variable {X : Cx} {x n : Str} {c : Value} {i : Nat} {body suite : List Stmt} {b₀ : Stmt} {np pos pos' : Pos} {Wout : WX}
theorem ps_tryG (hs : X.stack = X.env :: X.outer) (hf : X.env.frame = some X.env.locals) (hN : X.N.Nodup) (hi : X.N[i]? = some n) (hln : X.env.kindOf n = some .local) (hc : Names X x c) (tk : Takes X Wout) :
    PS X (.Try body [.ExceptHandler (some (.Name x np)) (some n) (b₀ :: suite) pos'] [] [] pos) (fun D σ H => tBod X body (wAs X.K c i (tSui X (b₀ :: suite)) Wout D) D σ H) :=
  ps_try_as (tb := fun W => tBod X body W) (ts := tSui X (b₀ :: suite)) hs hf hN hi hln hc tk
    (fun W pn xe tk' po => ⟨fun pins s σ H D I ⟨t, ht, q⟩ => (ht pn xe tk' po).run pins s σ H D I q⟩)
    (fun a oe cls d pn hz hf' => ⟨fun pins s σ H D I ⟨t, ht, q⟩ => (ht oe pn hz hf').run pins s σ H D I q⟩)
end
section
variable {α β γ ρ ς ε ε' : Type} {r ra : Rp α} {rb : Rp β} {rc : Rp γ} {te tb : TE} {ta : TA} {Γ Γ1 Γ2 : List Sl} {K : PySem.W.Frag} {a : α} {b : β} {w : Rw α} {C : Addr} {names : List Str} {A : Amb} {D : Ends} {u : TS} {R : ER ε} {i : Nat}
def resX {ε β γ : Type} (x : Res ε β) (k : β → Option γ) (l : ε → Option γ) : Option γ := match x with
  | .ok b => k b
  | .er e => l e
@[simp] theorem resX_ok (b : β) (k : β → Option γ) (l : ε → Option γ) : resX (.ok b) k l = k b := rfl
@[simp] theorem resX_er (e : ε) (k : β → Option γ) (l : ε → Option γ) : resX (.er e) k l = l e := rfl
/-- what goes on with an error -/
def NxE (W : WX) (A : Amb) (Γ : List Sl) (R : ER ε) (e : ε) : Prop := ∀ cls d σ H B, Frm A σ H B Γ → R B cls d e → W cls d σ H
theorem sq_asgR {W : WX} {tf : (L2.St → XK) → TE} {x : Res ε α} {k : α → Option γ} {l : ε → Option γ} {z : γ} (h : EvR R r tf Γ Γ1 x) (e : resX x k l = some z)
    (ko : ∀ y, k y = some z → Nx A (u D) (Γ1.set i (.imm r y))) (ke : ∀ y, l y = some z → NxE W A Γ1 R y) : Nx A (tSeq (tAsg (tf (WE W)) (gName i)) u D) Γ := fun σ H B F =>
  h A σ H B F _ _ (fun b hb v H' B' F' _ q => ko b (by rw [hb] at e; exact e) _ _ _ (F'.set q)) (fun y hy cls d H' B' F' _ q => ke y (by rw [hy] at e; exact e) _ _ _ _ _ F' q)
theorem sq_dropR {W : WX} {tf : (L2.St → XK) → TE} {x : Res ε α} {k : α → Option γ} {l : ε → Option γ} {z : γ} (h : EvR R r tf Γ Γ1 x) (e : resX x k l = some z)
    (ko : ∀ y, k y = some z → Nx A (u D) Γ1) (ke : ∀ y, l y = some z → NxE W A Γ1 R y) : Nx A (tSeq (tDrop (tf (WE W))) u D) Γ := fun σ H B F =>
  h A σ H B F _ _ (fun b hb v H' B' F' _ q => ko b (by rw [hb] at e; exact e) _ _ _ F') (fun y hy cls d H' B' F' _ q => ke y (by rw [hy] at e; exact e) _ _ _ _ _ F' q)
theorem sq_try {X : Cx} {st : List Stmt} {W : Ends → WX} {t : TS} (hb : ∀ (pn : List (Addr × Obj)) (xe : Value → Shared → Prop), Takes (X.tr pn xe) (W { D with nx := u D }) → PassesOwn (model X.prog X.w) X.A X.env xe → PSs (X.tr pn xe) st t)
    (h : Nx A (t { D with nx := u D }) Γ) : Nx A (tSeq (fun D σ H => tBod X st (W D) D σ H) u D) Γ := fun σ H B F => ⟨t, hb, h σ H B F⟩
/-- the error in a suite -/
def rExc (p : Addr) (d : Option Addr) (C : Addr) (names : List Str) (w : Rw α) : Rp α := ⟨fun H v x => v = .ref p ∧ ErAt H (.ref C) d C names w x, fun s ⟨e, h1, dd, fs, vs, h2, h3, h4, h5⟩ => ⟨e, h1, dd, fs, vs, h2, s _ _ h3, w.mono s h4, h5⟩⟩
theorem ev_xf {p : Addr} {d : Option Addr} {k : Nat} {nm : Str} {f : α → β} (h : EvX (rExc p d C names w) te Γ Γ1 a) (g : Acc w k rb f) (hk : names[k]? = some nm) : EvX rb (tXf p (.ref C) d C nm te) Γ Γ1 (f a) := fun A σ H B F Q q =>
  h A σ H B F _ fun v H1 B1 F1 s1 ⟨e, _, dd, fs, vs, h2, h3, h4, h5⟩ => by
    obtain ⟨y, hy, ky⟩ := g B1 vs a h4
    exact ⟨e, rfl, dd, fs, y, h2, F1.bh _ _ h3, by rw [h5 k nm hk, hy], q y H1 B1 F1 s1 ky⟩
theorem Frm.unset {σ : L2.St} {H B : Hp} (F : Frm A σ H B Γ) (i : Nat) : Frm A (σ.set i none) H B (Γ.set i .no) :=
  F.put (List.length_set) (fun j ne => by rw [List.getElem?_set_ne ne]) fun _ _ _ => trivial
theorem nx_unset {P : L2.St → Hp → Prop} (h : Nx A P (Γ.set i .no)) : Nx A (fun σ H => P (σ.set i none) H) Γ := fun σ H B F => h _ _ _ (F.unset i)
theorem nx_unsetE {D : Ends} (h : Nx A D.nx (Γ.set i .no)) : Nx A ({ nx := fun σ' H' => D.nx (σ'.set i none) H', rt := D.rt, bk := fun σ' H' => D.bk (σ'.set i none) H', ct := fun σ' H' => D.ct (σ'.set i none) H' } : Ends).nx Γ := nx_unset h
/-- an error of the class at C reaches «except C as n» -/
theorem nxe_as {X : Cx} {st : List Stmt} {c : Value} {Wout : WX} {e : α} (hx : PySem.W.exmOne K (.ref C) c = some true)
    (k : ∀ (p : Addr) (d : Option Addr), ∃ t : TS, (∀ (oe : Obj) (pn : List (Addr × Obj)), Zc (.ref C) d oe → (∃ vs, oe.data = .fields vs) → PSs (X.suite p ((p, oe) :: pn)) st t) ∧
      Nx A (t { nx := fun σ' H' => D.nx (σ'.set i none) H', rt := D.rt, bk := fun σ' H' => D.bk (σ'.set i none) H', ct := fun σ' H' => D.ct (σ'.set i none) H' }) (Γ.set i (.imm (rExc p d C names w) e))) :
    NxE (wAs K c i (tSui X st) Wout D) A Γ (fun B cls d x => ErAt B cls d C names w x) e := fun cls d σ H B F he => by
  obtain ⟨rfl, h⟩ := id he
  refine ⟨true, hx, fun _ p hp => ?_, fun q => Bool.noConfusion q⟩
  obtain ⟨t, h1, h2⟩ := k p d
  exact ⟨t, h1, h2 _ _ _ (F.set ⟨rfl, he⟩)⟩
abbrev erC (C : Addr) (names : List Str) (w : Rw α) : ER α := fun B cls d x => ErAt B cls d C names w x
/-- one of two kinds of errors -/
abbrev erS (R1 : ER ε) (R2 : ER ε') : ER (ε ⊕ ε') := fun B cls d x => match x with
  | .inl a => R1 B cls d a
  | .inr b => R2 B cls d b
theorem erC_mono {H H' : Hp} {cls : Value} {d : Option Addr} {e : α} (s : Same H H') (h : erC C names w H cls d e) : erC C names w H' cls d e := by
  obtain ⟨h1, dd, fs, vs, h2, h3, h4, h5⟩ := h
  exact ⟨h1, dd, fs, vs, h2, s _ _ h3, w.mono s h4, h5⟩
theorem erS_mono {R1 : ER ε} {R2 : ER ε'} (h1 : ∀ {H H' : Hp} {cls d e}, Same H H' → R1 H cls d e → R1 H' cls d e) (h2 : ∀ {H H' : Hp} {cls d e}, Same H H' → R2 H cls d e → R2 H' cls d e) {H H' : Hp} {cls : Value} {d : Option Addr} {e : ε ⊕ ε'} (s : Same H H') (h : erS R1 R2 H cls d e) : erS R1 R2 H' cls d e := by
  cases e with
  | inl a => exact h1 s h
  | inr b => exact h2 s h
theorem sq_asgMk {W : WX} {wb : Rw β} {m : α → Option (Res ε β)} {x : Res ε β} {k : β → Option γ} {l : ε → Option γ} {z : γ} (hmono : ∀ {H H' : Hp} {cls d e}, Same H H' → R H cls d e → R H' cls d e) (h : EvW w ta Γ Γ1 a) (e : m a = some x) (q : resX x k l = some z)
    (ko : ∀ y, k y = some z → Nx A (u D) (Γ1.set i (.imm (rIns C names wb) y))) (ke : ∀ y, l y = some z → NxE W A Γ1 R y) : Nx A (tSeq (tAsg (tMakeS C (SpI R C w (cIns C names wb) m) (WE W) ta) (gName i)) u D) Γ :=
  sq_asgR (tf := fun E => tMakeS C (SpI R C w (cIns C names wb) m) E ta) (er_make hmono h e) q ko ke
/-! ### a class whose __init__ does not raise -/
def SpJ {α β : Type} (C : Addr) (w : Rw α) (c : Cl β) (m : α → Option β) : Sp := fun vs H Q E => ∃ p dx vs' B a b, vs = .ref p :: vs' ∧ H p = some (.ins C dx []) ∧ HotP B p ∧ SzT H B ∧ Same B H ∧ w.rel B vs' a ∧ m a = some b ∧ RtI (ambS B H p) p c b Q
theorem ev_make {wb : Rw β} {m : α → Option β} {E : XK} (h : EvW w ta Γ Γ1 a) (e : m a = some b) : EvX (rIns C names wb) (tMake C (SpJ C w (cIns C names wb) m) [] E ta) Γ Γ1 b := fun A σ H B F Q q => h A σ H B F _ fun vs H1 B1 F1 s1 k1 => by
  intro y dy hy hd ne
  obtain ⟨p1, p2, p3, p4⟩ := made_pre (C := C) F1 hy hd ne
  refine ⟨y, dy, vs, upd B1 dy (.own y), a, b, by rw [List.append_nil], upd_same, p3, p1, p2, w.mono p4 k1, e, fun H2 B2 P ⟨o, ho, k⟩ => ⟨rfl, ?_⟩⟩
  have F2 := made_frame (A := A) F1 hy hd ne P ho
  have F3 := F2.adopt (F1.H0none hy) F1.sub F1.mh
  have hB2 : B2 y = none := P.out y (by show upd (upd H1 dy (.own y)) y (.ins C dy []) y ≠ none; rw [upd_same]; simp) p3.1
  have s3 : Same B2 (upd B2 y o) := fun q u e => by rw [upd_ne (ne_of_none e hB2)]; exact e
  exact q _ _ _ F3 (s1.trans (p4.trans (P.b0.trans s3))) ⟨y, o, rfl, upd_same, (cIns C names wb).mono s3 k⟩
/-! ### methods -/
theorem ins_no {vs : List V} {nm : Str} (hn : nm ∉ names) : (names.zip vs).lookup nm = none := zip_none hn
theorem ev_meth {w' : Rw β} {m : α × β → Option γ} {E : XK} {nm : Str} {z : γ} (h : EvX (rIns C names w) te Γ Γ1 a) (hb : EvW w' ta Γ1 Γ2 b) (e : m (a, b) = some z) (hn : nm ∉ names) :
    EvX rc (tMeth C nm (SpP (wC (rIns C names w) w') rc m) [] E te ta) Γ Γ2 z := fun A σ H B F Q q => h A σ H B F _ fun v H1 B1 F1 s1 k1 => by
  obtain ⟨p, dx, vs, rfl, hp, l, kw⟩ := ob_ins F1.bh k1
  refine ⟨p, dx, _, rfl, hp, ins_no hn, hb A σ H1 B1 F1 _ fun us H2 B2 F2 s2 k2 => ?_⟩
  rw [List.append_nil]
  exact ⟨B2, (a, b), z, F2.szt, F2.bh, ⟨_, us, rfl, (rIns C names w).mono s2 k1, k2⟩, e, fun H3 B3 v3 P k3 => q v3 H3 B3 (F2.after P) ((s1.trans s2).trans P.b0) k3⟩
theorem ec_meth {w' : Rw β} {c : Cl γ} {m : α × β → Option γ} {E : XK} {nm : Str} {z : γ} (h : EvX (rIns C names w) te Γ Γ1 a) (hb : EvW w' ta Γ1 Γ2 b) (e : m (a, b) = some z) (hn : nm ∉ names) :
    EvC c (tMeth C nm (SpC (wC (rIns C names w) w') c m) [] E te ta) Γ Γ2 z := fun A σ H B F Q q => h A σ H B F _ fun v H1 B1 F1 s1 k1 => by
  obtain ⟨p, dx, vs, rfl, hp, l, kw⟩ := ob_ins F1.bh k1
  refine ⟨p, dx, _, rfl, hp, ins_no hn, hb A σ H1 B1 F1 _ fun us H2 B2 F2 s2 k2 => ?_⟩
  rw [List.append_nil]
  exact ⟨B2, (a, b), z, F2.szt, F2.bh, ⟨_, us, rfl, (rIns C names w).mono s2 k1, k2⟩, e, fun q2 o H3 B3 P hq k3 => q q2 o H3 B3 (F2.afterC P hq) (F2.H0none hq) ((s1.trans s2).trans P.b0) k3⟩
theorem ev_meth0 {m : α → Option γ} {E : XK} {nm : Str} {z : γ} (h : EvX (rIns C names w) te Γ Γ1 a) (e : m a = some z) (hn : nm ∉ names) :
    EvX rc (tMeth C nm (SpP (w1 (rIns C names w)) rc m) [] E te tNil) Γ Γ1 z := fun A σ H B F Q q => h A σ H B F _ fun v H1 B1 F1 s1 k1 => by
  obtain ⟨p, dx, vs, rfl, hp, l, kw⟩ := ob_ins F1.bh k1
  exact ⟨p, dx, _, rfl, hp, ins_no hn, B1, a, z, F1.szt, F1.bh, ⟨_, rfl, k1⟩, e, fun H3 B3 v3 P k3 => q v3 H3 B3 (F1.after P) (s1.trans P.b0) k3⟩
theorem ec_meth0 {c : Cl γ} {m : α → Option γ} {E : XK} {nm : Str} {z : γ} (h : EvX (rIns C names w) te Γ Γ1 a) (e : m a = some z) (hn : nm ∉ names) :
    EvC c (tMeth C nm (SpC (w1 (rIns C names w)) c m) [] E te tNil) Γ Γ1 z := fun A σ H B F Q q => h A σ H B F _ fun v H1 B1 F1 s1 k1 => by
  obtain ⟨p, dx, vs, rfl, hp, l, kw⟩ := ob_ins F1.bh k1
  exact ⟨p, dx, _, rfl, hp, ins_no hn, B1, a, z, F1.szt, F1.bh, ⟨_, rfl, k1⟩, e, fun q2 o H3 B3 P hq k3 => q q2 o H3 B3 (F1.afterC P hq) (F1.H0none hq) (s1.trans P.b0) k3⟩
/-! ### isinstance, the answer known -/
def TyR (K : PySem.W.Frag) (r : Rp α) (t : Value) : Prop := ∀ H v a, r.rel H v a → TyX K H v t
theorem ev_isi {t v : Value} {c : V} {k : Bool} (h : EvX r te Γ Γ1 a) (ty : TyR K r t) (hc : ClsV c v) (kit : PySem.W.kitOne K t v = some k) : EvX rBool (tCB (rIsi K) (tCons te (tCons (tC c) tNil))) Γ Γ1 k := fun A σ H B F Q q =>
  h A σ H B F _ fun x H1 B1 F1 s1 k1 => ⟨x, c, t, v, k, rfl, hc, ty _ _ _ (r.mono F1.bh k1), kit, q _ _ _ F1 s1 rfl⟩
theorem ty_bool : TyR K rBool (.type "bool") := fun H v a h => by rw [show v = _ from h]; exact .base (.bl _)
theorem ty_int : TyR K rInt (.type "int") := fun H v a h => by rw [show v = _ from h]; exact .base (.int _)
theorem ty_str : TyR K rStr (.type "str") := fun H v a h => by rw [show v = _ from h]; exact .base (.str _)
theorem ty_non : TyR K rNon (.type "NoneType") := fun H v a h => by rw [show v = _ from h]; exact .base .non
theorem ty_lst : TyR K (rOb (cLst r)) (.type "list") := fun H v a ⟨p, o, e, hp, vs, eo, k⟩ => by subst e; subst eo; exact .base (.lst hp)
theorem ty_hls : TyR K (rOb (cHls w)) (.type "list") := fun H v a ⟨p, o, e, hp, vs, eo, k⟩ => by subst e; subst eo; exact .base (.lst hp)
theorem ty_tpl : TyR K (rOb (cTpl r)) (.type "tuple") := fun H v a ⟨p, o, e, hp, vs, eo, k⟩ => by subst e; subst eo; exact .base (.tup hp)
theorem ty_tup : TyR K (rOb (cTup w)) (.type "tuple") := fun H v a ⟨p, o, e, hp, vs, eo, k⟩ => by subst e; subst eo; exact .base (.tup hp)
theorem nn_ins : NN (rIns C names w) := nn_ob
end
/-! ### data of any shape -/
theorem Same.seqT {K : PySem.W.Frag} {H H' : Hp} {a : Addr} {xs : List V} (e : Same H H') (h : SqT K H a xs) : SqT K H' a xs := by
  rcases h with (h | ⟨o, h⟩) | h
  · exact .inl (.inl (e _ _ h))
  · exact .inl (.inr ⟨o, e _ _ h⟩)
  · exact .inr h
mutual
theorem dp_mono {K : PySem.W.Frag} {H H' : Hp} (s : Same H H') : ∀ (d : PyData) (v : V), Dp K H v d → Dp K H' v d
  | .none, _, h => by cases h; exact .non
  | .bool b, _, h => by cases h; exact .bl b
  | .int i, _, h => by cases h; exact .int i
  | .str x, _, h => by cases h; exact .str x
  | .list ds, _, h => by
    cases h with
    | lst hs ha => exact .lst (s.seq hs) (dpAll_mono s ds _ ha)
  | .tuple ds, _, h => by
    cases h with
    | tup hs ha => exact .tup (Same.seqT s hs) (dpAll_mono s ds _ ha)
  | .dict _, _, h => by cases h
theorem dpAll_mono {K : PySem.W.Frag} {H H' : Hp} (s : Same H H') : ∀ (ds : List PyData) (vs : List V), DpAll K H vs ds → DpAll K H' vs ds
  | [], _, h => by cases h; exact .nil
  | d :: ds, _, h => by
    cases h with
    | cons h1 h2 => exact .cons (dp_mono s d _ h1) (dpAll_mono s ds _ h2)
end
def rDyn (K : PySem.W.Frag) : Rp PyData := ⟨fun H v d => Dp K H v d, fun s h => dp_mono s _ _ h⟩
def Da {α : Type} (K : PySem.W.Frag) (r : Rp α) (f : α → PyData) : Prop := ∀ H v a, r.rel H v a → Dp K H v (f a)
def DaW {α : Type} (K : PySem.W.Frag) (w : Rw α) (f : α → List PyData) : Prop := ∀ H vs a, w.rel H vs a → DpAll K H vs (f a)
def dOpt {α : Type} (f : α → PyData) : Option α → PyData
  | none => .none
  | some a => f a
def dLst {α : Type} (f : α → PyData) (xs : List α) : PyData := .list (xs.map f)
def dTpl {α : Type} (f : α → PyData) (xs : List α) : PyData := .tuple (xs.map f)
def dTup {α : Type} (f : α → List PyData) (a : α) : PyData := .tuple (f a)
def dHls {α : Type} (f : α → List PyData) (a : α) : PyData := .list (f a)
def dw0 : Unit → List PyData := fun _ => []
def dw1 {α : Type} (f : α → PyData) (a : α) : List PyData := [f a]
def dwC {α β : Type} (f : α → PyData) (g : β → List PyData) (a : α × β) : List PyData := f a.1 :: g a.2
def dNon : Unit → PyData := fun _ => .none
def dId : PyData → PyData := fun d => d
section
variable {α β γ : Type} {K : PySem.W.Frag} {r ra : Rp α} {rb : Rp β} {w : Rw α} {wb : Rw β} {f : α → PyData} {g : β → PyData} {fw : α → List PyData} {gw : β → List PyData} {Γ Γ1 Γ2 : List Sl} {te ta tb : TE} {x : α} {y : β}
theorem da_int : Da K rInt PyData.int := fun H v a h => by rw [show v = _ from h]; exact .int a
theorem da_str : Da K rStr PyData.str := fun H v a h => by rw [show v = _ from h]; exact .str a
theorem da_bool : Da K rBool PyData.bool := fun H v a h => by rw [show v = _ from h]; exact .bl a
theorem da_non : Da K rNon dNon := fun H v a h => by rw [show v = _ from h]; exact .non
theorem da_dyn : Da K (rDyn K) dId := fun H v a h => h
theorem da_opt (h : Da K r f) : Da K (rOpt r) (dOpt f) := fun H v a k => by
  cases a with
  | none => rw [show v = _ from k]; exact .non
  | some a => exact h H v a k.1
theorem dp_all (h : Da K r f) {H : Hp} : ∀ {vs : List V} {xs : List α}, Paired (r.rel H) vs xs → DpAll K H vs (xs.map f)
  | _, _, .nil => .nil
  | _, _, .cons q t => .cons (h _ _ _ q) (dp_all h t)
theorem da_lst (h : Da K r f) : Da K (rOb (cLst r)) (dLst f) := fun H v a ⟨p, o, e, hp, vs, eo, k⟩ => by
  subst e; subst eo
  exact .lst (SqL.of hp) (dp_all h k)
theorem da_tpl (h : Da K r f) : Da K (rOb (cTpl r)) (dTpl f) := fun H v a ⟨p, o, e, hp, vs, eo, k⟩ => by
  subst e; subst eo
  exact .tup (SqT.of hp) (dp_all h k)
theorem da_tup (h : DaW K w fw) : Da K (rOb (cTup w)) (dTup fw) := fun H v a ⟨p, o, e, hp, vs, eo, k⟩ => by
  subst e; subst eo
  exact .tup (SqT.of hp) (h _ _ _ k)
theorem da_hls (h : DaW K w fw) : Da K (rOb (cHls w)) (dHls fw) := fun H v a ⟨p, o, e, hp, vs, eo, k⟩ => by
  subst e; subst eo
  exact .lst (SqL.of hp) (h _ _ _ k)
theorem daw_0 : DaW K w0 dw0 := fun H vs a h => by rw [show vs = [] from h]; exact .nil
theorem daw_1 (h : Da K r f) : DaW K (w1 r) (dw1 f) := fun H vs a ⟨v, e, k⟩ => by rw [e]; exact .cons (h _ _ _ k) .nil
theorem daw_C (h : Da K r f) (hw : DaW K wb gw) : DaW K (wC r wb) (dwC f gw) := fun H vs a ⟨v, t, e, k, k2⟩ => by rw [e]; exact .cons (h _ _ _ k) (hw _ _ _ k2)
theorem ev_dyn (d : Da K r f) (h : EvX r te Γ Γ1 x) : EvX (rDyn K) te Γ Γ1 (f x) := fun A σ H B F Q q => h A σ H B F Q fun v H' B' F' s k => q v H' B' F' s (d _ _ _ k)
theorem nn_dyn_tup {K : PySem.W.Frag} : True := trivial
def pyEq (d e : PyData) : Option Bool := if SeqAt.shaped d = true ∧ SeqAt.shaped e = true then some (PyData.eqv d e) else none
theorem ev_eqD {b : Bool} (da : Da K ra f) (db : Da K rb g) (ha : EvX ra ta Γ Γ1 x) (hb : EvX rb tb Γ1 Γ2 y) (e : pyEq (f x) (g y) = some b) : EvX rBool (tOp (rEqD K) ta tb) Γ Γ2 b := by
  unfold pyEq at e
  split at e
  · rename_i hs
    cases e
    exact ev_op ha hb fun H B u v s ku kv Q q => ⟨_, _, dp_mono s _ _ (da _ _ _ ku), dp_mono s _ _ (db _ _ _ kv), hs.1, hs.2, q _ rfl⟩
  · cases e
theorem ev_neD {b : Bool} (da : Da K ra f) (db : Da K rb g) (ha : EvX ra ta Γ Γ1 x) (hb : EvX rb tb Γ1 Γ2 y) (e : pyEq (f x) (g y) = some b) : EvX rBool (tOp (rNeD K) ta tb) Γ Γ2 (!b) := by
  unfold pyEq at e
  split at e
  · rename_i hs
    cases e
    exact ev_op ha hb fun H B u v s ku kv Q q => ⟨_, _, dp_mono s _ _ (da _ _ _ ku), dp_mono s _ _ (db _ _ _ kv), hs.1, hs.2, q _ rfl⟩
  · cases e
end
end G

set_option maxHeartbeats 4000000
/-! # G: len(set(..)) -/
namespace G
variable [TabL]
open PySem PySem.Spec PyProof.Rows L2
/-- the different ones, in the order of coming -/
def dst {α : Type} [DecidableEq α] (xs : List α) : List α := xs.foldl (fun l x => if x ∈ l then l else l ++ [x]) []
section
variable {κ : Type} [DecidableEq κ]
theorem dst_app (xs : List κ) (x : κ) : dst (xs ++ [x]) = if x ∈ dst xs then dst xs else dst xs ++ [x] := by
  unfold dst
  rw [List.foldl_append]
  rfl
theorem mem_dstF {x : κ} : ∀ (xs l : List κ), x ∈ xs.foldl (fun l x => if x ∈ l then l else l ++ [x]) l ↔ x ∈ l ∨ x ∈ xs
  | [], l => by simp
  | y :: ys, l => by
    rw [List.foldl_cons, mem_dstF ys]
    by_cases h : y ∈ l
    · rw [if_pos h, List.mem_cons]
      exact ⟨fun q => q.elim .inl fun q => .inr (.inr q), fun q => q.elim .inl fun q => q.elim (fun e => .inl (e ▸ h)) .inr⟩
    · rw [if_neg h, List.mem_append, List.mem_singleton, List.mem_cons, or_assoc]
theorem mem_dst {x : κ} {xs : List κ} : x ∈ dst xs ↔ x ∈ xs := by
  unfold dst
  rw [mem_dstF]
  simp
theorem dst_le : ∀ xs : List κ, (dst xs).length ≤ xs.length := fun xs => by
  suffices h : ∀ (ys l : List κ), (ys.foldl (fun l x => if x ∈ l then l else l ++ [x]) l).length ≤ l.length + ys.length by simpa [dst] using h xs []
  intro ys
  induction ys with
  | nil => intro l; simp
  | cons y ys ih =>
    intro l
    rw [List.foldl_cons]
    refine Nat.le_trans (ih _) ?_
    rw [List.length_cons]
    split
    · omega
    · rw [List.length_append, List.length_singleton]; omega
variable {prog : Program} {w : World} {knd : KeyKind prog w κ} {A : Around} {R : Result → Shared → Prop} {E : Value → Shared → Prop} {it : Addr} {fp wr : List Addr} {Gg : Array GenState → Array GenState → Prop} {n : Nat} {P : Nat → Value → Prop} {St : Nat → Shared → Prop} {z : Shared}
/-- what is walked goes into the set at D -/
theorem fill_loop (W : WalksS prog w A.in1 it fp wr Gg n P St) (D : Addr) (hD : D ∉ fp) (ks : List κ) (hn : ks.length = n) (hb : n < 2000)
    (hv : ∀ (i : Nat) (v : Value), P i v → ∃ k, ks[i]? = some k ∧ knd.is k v = true ∧ v.scannable = true) : ∀ (m i : Nat) (z : Shared), n - i = m → i ≤ n → St i z →
      z.heap.SetOf knd D (fun x => decide (x ∈ ks.take i)) (dst (ks.take i)).length →
      (∀ z2, Moved (D :: wr) Gg z z2 → z2.heap.SetOf knd D (fun x => decide (x ∈ ks)) (dst ks).length → R (.ok (.ret .none)) z2) →
      codeAny (model prog w) A (.builtin "set.update.loop" ⟨[.ref D, .ref it], []⟩) R z := by
  have hw : D ∉ wr := fun q => hD (W.sub _ q)
  have up : ∀ b ∈ wr, b ∈ D :: wr := fun b q => List.mem_cons_of_mem D q
  have mv : ∀ {g g2 : Heap} {S : κ → Bool} {c : Nat}, (∀ o, g.get? D = some o → g2.get? D = some o) → g.SetOf knd D S c → g2.SetOf knd D S c := fun k ⟨o, es, ep, t, ho, r⟩ => ⟨o, es, ep, t, k o ho, r⟩
  intro m
  induction m with
  | zero =>
    intro i z e le st so fin
    have e2 : i = n := by omega
    subst e2
    refine codeAny_builtin PyProof.Rows.F.entry_set_update_loop ?_
    rw [Around.under_plainId (A := A) PyProof.Rows.F.plain_set_update_loop _]
    show wpAny _ A.in1 (pyNext (.ref it) >>= _) _ _ z
    refine wpAny_bind (W.done z _ _ st fun z2 m2 => ?_)
    show wpAny _ A.in1 (ret Value.none) _ _ z2
    have so2 := mv (m2.heap D · hw) so
    rw [List.take_of_length_le (by omega)] at so2
    exact wpAny_pure (fin z2 (m2.mono up) so2)
  | succ m ih =>
    intro i z e le st so fin
    have lt : i < n := by omega
    refine codeAny_builtin PyProof.Rows.F.entry_set_update_loop ?_
    rw [Around.under_plainId (A := A) PyProof.Rows.F.plain_set_update_loop _]
    show wpAny _ A.in1 (pyNext (.ref it) >>= _) _ _ z
    refine wpAny_bind (W.item i z _ _ lt st fun v z2 hP st2 m2 => ?_)
    obtain ⟨k, hk, hkv, hsc⟩ := hv i v hP
    have so2 := mv (m2.heap D · hw) so
    have tk : ks.take (i + 1) = ks.take i ++ [k] := by rw [List.take_add_one, hk]; rfl
    show wpAny _ A.in1 (holding [v] (setAdd D v) >>= _) _ _ z2
    refine wpAny_bind (wpAny_holding ?_)
    unfold setAdd
    refine wpAny_holding (wpAny_bind (knd.pyHash hkv ?_))
    have dl := dst_le (ks.take i)
    have tl : (ks.take i).length ≤ i := by rw [List.length_take]; omega
    refine wpAny_setAddHashed_of (s := { z2 with toks := z2.toks + 1 }) hkv hsc so2 (by unfold scanBound; omega) fun g sb so3 => ?_
    have so4 : g.SetOf knd D (fun x => decide (x ∈ ks.take (i + 1))) (dst (ks.take (i + 1))).length := by
      refine PyProof.Rows.SetOf_congr so3 (fun x => ?_) ?_
      · rw [tk]
        by_cases h1 : x ∈ ks.take i <;> by_cases h2 : x = k <;> simp [h1, h2, List.mem_append]
      · rw [tk, dst_app]
        by_cases h1 : k ∈ ks.take i
        · rw [if_pos (decide_eq_true h1), if_pos (mem_dst.mpr h1)]
        · rw [if_neg (by simpa using h1), if_neg (fun q => h1 (mem_dst.mp q)), List.length_append, List.length_singleton]
    refine wpAny_pure (And.intro (plainId_quiet PyProof.Rows.F.plain_set_update_loop _) (ih (i + 1) _ (by omega) lt (W.frame _ z2 _ _ st2 (Nat.le_succ _) fun b q o ho => (sb.2 b (fun h => hD (h ▸ q))).trans ho) so4 fun z3 m3 so5 => fin z3 ?_ so5))
    exact Moved.trans W.gtrans ((m2.mono up).then_heap (Nat.le_succ _) fun b o q ho => (sb.2 b (fun h => q (h ▸ List.mem_cons_self))).trans ho) m3

set_option maxHeartbeats 8000000 in
theorem set_of_list {p : Addr} {its : Array Value} {ks : List κ} {G : Value → Shared → Prop} (hd : A.handled = none) (hp : z.heap.IsList p its) (hn : ks.length = its.size) (hb : its.size < 2000)
    (hv : ∀ (i : Nat) (v : Value), its[i]? = some v → ∃ k, ks[i]? = some k ∧ knd.is k v = true ∧ v.scannable = true)
    (fin : ∀ (g : Heap) (tk : Nat), g.SetOf knd z.heap.objs.size (fun x => decide (x ∈ ks)) (dst ks).length → (∀ b o, z.heap.get? b = some o → g.get? b = some o) → G (.ref z.heap.objs.size) { z with heap := g, toks := tk }) :
    wpAny (model prog w) A (call (.type "set") [.ref p]) G E z := by
  obtain ⟨mc, mt, m0⟩ := PySem.F.called_set.mro
  have m1 := PySem.F.called_set.made
  have m2 := PySem.F.called_set.sub
  refine wpAny_call (codeAny_of_tree ?_)
  show wpAny _ _ (callAny (.type "set") (_ : Args)) _ _ z
  refine wpAny_pure (And.intro (Code.quiet_builtin _ (by decide +kernel)) (codeAny_builtin PySem.F.entry_type_call ?_))
  rw [Around.under_plain (weight_type_call_type "set" [Value.ref p] ([] : List (Str × Value))) (by rfl)]
  have m3 := PySem.F.called_set.notType
  have m4 := PySem.F.called_set.canCreate
  have m5 := PySem.F.typeCall_set_1 (Value.ref p)
  repeat (any_goals (first | assumption | wp_step))
  let ob : Bool → Obj := fun led => { cls := .type "set", dict := none, data := .set #[] 0 (.fresh 0 0 led) }
  refine codeAny_mono (code_set_new_1 (Value.ref p) (E := E) (Q₁ := fun v z1 => ∃ led : Bool, v = Value.ref z.heap.objs.size ∧ z1 = { z with heap := z.heap.push (ob led) }) fun led => ⟨led, rfl, rfl⟩) fun r0 z1 q0 => ?_
  cases r0 with
  | error e => exact q0
  | ok fl0 =>
    cases fl0 with
    | next => exact q0.elim
    | brk => exact q0.elim
    | cont => exact q0.elim
    | ret v0 =>
      obtain ⟨led, rfl, rfl⟩ := q0
      have at0 : (z.heap.push (ob led)).get? z.heap.objs.size = some (ob led) := Heap.get?_push_size _ rfl
      have ty0 : Shared.TypeIs { z with heap := z.heap.push (ob led) } (.ref z.heap.objs.size) "set" := ⟨_, at0, rfl⟩
      have i1 := PySem.F.called_set.init.lookup
      have i2 := PySem.F.called_set.init.bind (Value.ref z.heap.objs.size)
      repeat (any_goals (first | assumption | wp_step))
      refine codeAny_mono (codeAny_call_builtin (R := wants (fun v z2 => v = .none ∧ ∃ g tk, z2 = { z with heap := g, toks := tk } ∧ g.SetOf knd z.heap.objs.size (fun x => decide (x ∈ ks)) (dst ks).length ∧
          (∀ b o, z.heap.get? b = some o → g.get? b = some o)) E) PySem.F.called_set.init.plain PySem.F.entry_set_init (check_set_init_1 ty0 ?_)) fun r2 z2 q2 => ?_
      · obtain ⟨u0, a0, c0, n0, d0⟩ := hp
        obtain ⟨uc, ud, ux, us⟩ := u0
        simp only at c0 d0
        subst c0; subst d0
        have a1 : (z.heap.push (ob led)).get? p = some { cls := .type "list", dict := ud, data := .seq its n0, slots := us } := Heap.get?_push_of_some _ a0
        have s1 := PySem.F.sub_list_set
        have s2 := PySem.F.sub_list_frozenset
        have s3 : (Value.type "list" == Value.type "dict") = false := by decide
        have l1 : (z.heap.push (ob led)).IsList p its := ⟨_, a1, rfl, n0, rfl⟩
        unfold Builtin.«set.__init__» noKeywords Builtin.Frozenset.updateFrom
        generalize hit : pyIter = itf
        wp_walk
        subst hit
        refine wpAny_pyIter_list l1 (wpAny_bind (wpAny_runValue ?_))
        have pl : p < z.heap.objs.size := Heap.lt_size a0
        have h3 : A.in1.in1.in1.handled = none := by simp [hd]
        have sz1 : (z.heap.push (ob led)).objs.size = z.heap.objs.size + 1 := Heap.size_push ..
        have ne1 : p ≠ (z.heap.push (ob led)).objs.size := by rw [sz1]; exact Nat.ne_of_lt (Nat.lt_succ_of_lt pl)
        have sf : z.heap.objs.size ∉ [(z.heap.push (ob led)).objs.size, p] := fun hm => by
          rw [sz1] at hm
          rcases List.mem_cons.mp hm with e | hm
          · exact Nat.ne_of_lt (Nat.lt_succ_self _) e
          · exact Nat.ne_of_gt pl (List.mem_singleton.mp hm)
        refine fill_loop ((Walks.list h3 _ p ne1 its).toS) z.heap.objs.size sf ks hn hb hv (its.size - 0) 0 _ (by omega) (Nat.zero_le _) ⟨⟨_, Heap.get?_push_size _ rfl, rfl, rfl⟩, l1.push _⟩ ?w0 ?w1
        case w0 =>
          exact PyProof.Rows.SetOf_congr ((PyProof.Rows.setObjOf_fresh (knd := knd) led).setOf (Heap.get?_push_of_some _ at0) (by unfold scanBound; omega)) (fun x => by simp) (by simp [dst])
        case w1 =>
          intro z3 mv st3
          obtain ⟨g3, e3, d3, t3, o3⟩ := z3
          obtain rfl : e3 = z.gens := mv.gens
          obtain rfl : d3 = z.drawn := mv.drawn
          obtain rfl : o3 = z.os := mv.os
          show wpAny _ _ _ _ _ (_ : Shared)
          refine wpAny_pure ?_
          show wpAny _ _ (ret Value.none) _ _ (_ : Shared)
          refine wpAny_pure ⟨rfl, g3, t3, rfl, st3, fun b o hbo => mv.heap b o (fun hm => ?_) (Heap.get?_push_of_some _ (Heap.get?_push_of_some _ hbo))⟩
          have bl := Heap.lt_size hbo
          rcases List.mem_cons.mp hm with e | hm
          · exact Nat.ne_of_lt bl e
          · rw [List.mem_singleton, sz1] at hm; exact Nat.ne_of_lt (Nat.lt_succ_of_lt bl) hm
      · cases r2 with
        | error e => exact q2
        | ok fl2 =>
          cases fl2 with
          | next => exact q2.elim
          | brk => exact q2.elim
          | cont => exact q2.elim
          | ret v2 =>
            obtain ⟨rfl, g2, t2, rfl, st2, kp2⟩ := q2
            repeat (any_goals (first | assumption | wp_step))
            exact fin _ _ st2 kp2

set_option maxHeartbeats 8000000 in
theorem set_of_tuple {p : Addr} {its : Array Value} {ks : List κ} {G : Value → Shared → Prop} (hd : A.handled = none) (hp : z.heap.IsTuple p its) (hn : ks.length = its.size) (hb : its.size < 2000)
    (hv : ∀ (i : Nat) (v : Value), its[i]? = some v → ∃ k, ks[i]? = some k ∧ knd.is k v = true ∧ v.scannable = true)
    (fin : ∀ (g : Heap) (tk : Nat), g.SetOf knd z.heap.objs.size (fun x => decide (x ∈ ks)) (dst ks).length → (∀ b o, z.heap.get? b = some o → g.get? b = some o) → G (.ref z.heap.objs.size) { z with heap := g, toks := tk }) :
    wpAny (model prog w) A (call (.type "set") [.ref p]) G E z := by
  obtain ⟨mc, mt, m0⟩ := PySem.F.called_set.mro
  have m1 := PySem.F.called_set.made
  have m2 := PySem.F.called_set.sub
  refine wpAny_call (codeAny_of_tree ?_)
  show wpAny _ _ (callAny (.type "set") (_ : Args)) _ _ z
  refine wpAny_pure (And.intro (Code.quiet_builtin _ (by decide +kernel)) (codeAny_builtin PySem.F.entry_type_call ?_))
  rw [Around.under_plain (weight_type_call_type "set" [Value.ref p] ([] : List (Str × Value))) (by rfl)]
  have m3 := PySem.F.called_set.notType
  have m4 := PySem.F.called_set.canCreate
  have m5 := PySem.F.typeCall_set_1 (Value.ref p)
  repeat (any_goals (first | assumption | wp_step))
  let ob : Bool → Obj := fun led => { cls := .type "set", dict := none, data := .set #[] 0 (.fresh 0 0 led) }
  refine codeAny_mono (code_set_new_1 (Value.ref p) (E := E) (Q₁ := fun v z1 => ∃ led : Bool, v = Value.ref z.heap.objs.size ∧ z1 = { z with heap := z.heap.push (ob led) }) fun led => ⟨led, rfl, rfl⟩) fun r0 z1 q0 => ?_
  cases r0 with
  | error e => exact q0
  | ok fl0 =>
    cases fl0 with
    | next => exact q0.elim
    | brk => exact q0.elim
    | cont => exact q0.elim
    | ret v0 =>
      obtain ⟨led, rfl, rfl⟩ := q0
      have at0 : (z.heap.push (ob led)).get? z.heap.objs.size = some (ob led) := Heap.get?_push_size _ rfl
      have ty0 : Shared.TypeIs { z with heap := z.heap.push (ob led) } (.ref z.heap.objs.size) "set" := ⟨_, at0, rfl⟩
      have i1 := PySem.F.called_set.init.lookup
      have i2 := PySem.F.called_set.init.bind (Value.ref z.heap.objs.size)
      repeat (any_goals (first | assumption | wp_step))
      refine codeAny_mono (codeAny_call_builtin (R := wants (fun v z2 => v = .none ∧ ∃ g tk, z2 = { z with heap := g, toks := tk } ∧ g.SetOf knd z.heap.objs.size (fun x => decide (x ∈ ks)) (dst ks).length ∧
          (∀ b o, z.heap.get? b = some o → g.get? b = some o)) E) PySem.F.called_set.init.plain PySem.F.entry_set_init (check_set_init_1 ty0 ?_)) fun r2 z2 q2 => ?_
      · obtain ⟨u0, a0, c0, n0, d0⟩ := hp
        obtain ⟨uc, ud, ux, us⟩ := u0
        simp only at c0 d0
        subst c0; subst d0
        have a1 : (z.heap.push (ob led)).get? p = some { cls := .type "tuple", dict := ud, data := .seq its n0, slots := us } := Heap.get?_push_of_some _ a0
        have s1 := PySem.F.sub_tuple_set
        have s2 := PySem.F.sub_tuple_frozenset
        have s3 : (Value.type "tuple" == Value.type "dict") = false := by decide
        have l1 : (z.heap.push (ob led)).IsTuple p its := ⟨_, a1, rfl, n0, rfl⟩
        unfold Builtin.«set.__init__» noKeywords Builtin.Frozenset.updateFrom
        generalize hit : pyIter = itf
        wp_walk
        subst hit
        refine wpAny_pyIter_tuple l1 (wpAny_bind (wpAny_runValue ?_))
        have pl : p < z.heap.objs.size := Heap.lt_size a0
        have h3 : A.in1.in1.in1.handled = none := by simp [hd]
        have sz1 : (z.heap.push (ob led)).objs.size = z.heap.objs.size + 1 := Heap.size_push ..
        have ne1 : p ≠ (z.heap.push (ob led)).objs.size := by rw [sz1]; exact Nat.ne_of_lt (Nat.lt_succ_of_lt pl)
        have sf : z.heap.objs.size ∉ [(z.heap.push (ob led)).objs.size, p] := fun hm => by
          rw [sz1] at hm
          rcases List.mem_cons.mp hm with e | hm
          · exact Nat.ne_of_lt (Nat.lt_succ_self _) e
          · exact Nat.ne_of_gt pl (List.mem_singleton.mp hm)
        refine fill_loop ((Walks.tuple h3 _ p ne1 its).toS) z.heap.objs.size sf ks hn hb hv (its.size - 0) 0 _ (by omega) (Nat.zero_le _) ⟨⟨_, Heap.get?_push_size _ rfl, rfl, rfl⟩, l1.push _⟩ ?w0 ?w1
        case w0 =>
          exact PyProof.Rows.SetOf_congr ((PyProof.Rows.setObjOf_fresh (knd := knd) led).setOf (Heap.get?_push_of_some _ at0) (by unfold scanBound; omega)) (fun x => by simp) (by simp [dst])
        case w1 =>
          intro z3 mv st3
          obtain ⟨g3, e3, d3, t3, o3⟩ := z3
          obtain rfl : e3 = z.gens := mv.gens
          obtain rfl : d3 = z.drawn := mv.drawn
          obtain rfl : o3 = z.os := mv.os
          show wpAny _ _ _ _ _ (_ : Shared)
          refine wpAny_pure ?_
          show wpAny _ _ (ret Value.none) _ _ (_ : Shared)
          refine wpAny_pure ⟨rfl, g3, t3, rfl, st3, fun b o hbo => mv.heap b o (fun hm => ?_) (Heap.get?_push_of_some _ (Heap.get?_push_of_some _ hbo))⟩
          have bl := Heap.lt_size hbo
          rcases List.mem_cons.mp hm with e | hm
          · exact Nat.ne_of_lt bl e
          · rw [List.mem_singleton, sz1] at hm; exact Nat.ne_of_lt (Nat.lt_succ_of_lt bl) hm
      · cases r2 with
        | error e => exact q2
        | ok fl2 =>
          cases fl2 with
          | next => exact q2.elim
          | brk => exact q2.elim
          | cont => exact q2.elim
          | ret v2 =>
            obtain ⟨rfl, g2, t2, rfl, st2, kp2⟩ := q2
            repeat (any_goals (first | assumption | wp_step))
            exact fin _ _ st2 kp2

end
theorem val_str : ∀ {xs : List Str} {us : List Value}, Vals (xs.map V.str) us → ∀ (i : Nat) (v : Value), us[i]? = some v → ∃ x t, xs[i]? = some x ∧ v = .str x t
  | [], _, .nil, i, v, h => by simp at h
  | x :: xs, _, .cons ⟨t, e⟩ r, 0, v, h => ⟨x, t, rfl, by simp at h; rw [← h, e]⟩
  | x :: xs, _, .cons _ r, i + 1, v, h => by
    obtain ⟨y, t, h1, h2⟩ := val_str r i v (by simpa using h)
    exact ⟨y, t, by simpa using h1, h2⟩
/-- len(set(texts)), texts a list or a tuple -/
def tLenSt (K : PySem.W.Frag) (ta : TE) : TE := fun σ H Q => ta σ H fun x H1 => ∃ (l : Addr) (xs : List Str), x = .ref l ∧ (SqL K H1 l (xs.map V.str) ∨ SqT K H1 l (xs.map V.str)) ∧ xs.length ≤ 1000 ∧ Q (.int ((dst xs).length : Nat)) H1
theorem pe_lenSt {X : Cx} {a : Expr} {ta : TE} {p p2 q pos : Pos} (hc : X.calm = true) (hg : Gl X "len") (hm : X.mg "len" = none) (hg2 : Gl X "set") (hm2 : X.mg "set" = none) (ha : PE X a ta)
    (na : starEach [a] X.env = (false, eval a X.env) :: starEach [] X.env := by rfl) : PE X (.Call (.Name "len" p) [.Call (.Name "set" p2) [a] [] q] [] pos) (tLenSt X.K ta) := by
  refine ⟨fun pins s σ H Q I h => Call_ (ld_blt I hg hm boot_len ?_)⟩
  refine PyProof.Rows.callWith_builtin1 (PyProof.Rows.args_cons (Call_ (ld_blt I hg2 hm2 boot_set ?_)) rfl) rfl rfl
  refine PyProof.Rows.callWith_type1 (PyProof.Rows.args_cons (thn (ha.run pins s σ H _ I h) fun v s1 ⟨x, H1, I1, r1, q1⟩ => PyProof.Rows.args_nil ?_) na) na rfl
  obtain ⟨l, xs, rfl, hq, hl, q1⟩ := q1
  cases r1
  have fin : ∀ (g : Heap) (tk : Nat), g.SetOf (PySem.strKind X.prog X.w) s1.heap.objs.size (fun x => decide (x ∈ xs)) (dst xs).length → (∀ b o, s1.heap.get? b = some o → g.get? b = some o) →
      wpAny (model X.prog X.w) X.A (spliced (backTo pos (starEach [] X.env))) (fun vs s₂ => wpAny (model X.prog X.w) X.A (call (.builtin "len") (Value.ref s1.heap.objs.size :: vs)) (EP X pins σ Q) X.xe s₂) X.xe { s1 with heap := g, toks := tk } := fun g tk so kp => by
    refine PyProof.Rows.args_nil ?_
    have dl := dst_le xs
    obtain ⟨o, es, ep, t, ho, hex, hd, _, _, _, hf, hn⟩ := so
    have I2 : Inv X pins σ H1 { s1 with heap := g, toks := tk } := I1.kept fun b o e => kp b o e
    exact call_len_set ho hex hd hf (by rw [hn] <;> omega) ⟨.int ((dst xs).length : Nat), H1, I2.tok _, ⟨_, by rw [hn]⟩, q1⟩
  have hv : ∀ {its : List Value}, Vals (xs.map V.str) its → ∀ (i : Nat) (v : Value), its.toArray[i]? = some v → ∃ k, xs[i]? = some k ∧ (PySem.strKind X.prog X.w).is k v = true ∧ v.scannable = true := fun r i v e => by
    obtain ⟨x, t, h1, rfl⟩ := val_str r i v (by simpa using e)
    exact ⟨x, h1, strKind_is _ _ _ _, rfl⟩
  rcases hq with hq | hq
  · obtain ⟨its, r, pl, hz⟩ := I1.list hq
    have hs : its.toArray.size = xs.length := by rw [List.size_toArray, ← r.length, List.length_map]
    exact set_of_list (I1.ok.hd hc) pl.isList hs.symm (by rw [hs]; omega) (hv r) fin
  · obtain ⟨its, r, pl, hz⟩ := I1.tuple hq
    have hs : its.toArray.size = xs.length := by rw [List.size_toArray, ← r.length, List.length_map]
    exact set_of_tuple (I1.ok.hd hc) pl hs.symm (by rw [hs]; omega) (hv r) fin
section
variable {K : PySem.W.Frag} {te : TE} {Γ Γ1 : List Sl} {xs : List Str} {n : Int}
def pyLenSt (xs : List Str) : Option Int := if xs.length ≤ 1000 then some ((dst xs).length : Nat) else none
theorem ev_lenStL (h : EvX (rLst rStr) te Γ Γ1 xs) (e : pyLenSt xs = some n) : EvX rInt (tLenSt K te) Γ Γ1 n := by
  unfold pyLenSt at e
  split at e
  · rename_i hl
    cases e
    intro A σ H B F Q q
    refine h A σ H B F _ fun v H1 B1 F1 s1 k1 => ?_
    obtain ⟨p, vs, rfl, hp, k⟩ := ob_lst F1.bh k1
    exact ⟨p, xs, rfl, .inl (by rw [show xs.map V.str = vs from (fl_str.vals k).symm]; exact SqL.of hp), hl, q _ _ _ F1 s1 rfl⟩
  · cases e
theorem ev_lenStT (h : EvX (rTpl rStr) te Γ Γ1 xs) (e : pyLenSt xs = some n) : EvX rInt (tLenSt K te) Γ Γ1 n := by
  unfold pyLenSt at e
  split at e
  · rename_i hl
    cases e
    intro A σ H B F Q q
    refine h A σ H B F _ fun v H1 B1 F1 s1 k1 => ?_
    obtain ⟨p, vs, rfl, hp, k⟩ := ob_tpl F1.bh k1
    exact ⟨p, xs, rfl, .inr (by rw [show xs.map V.str = vs from (fl_str.vals k).symm]; exact SqT.of hp), hl, q _ _ _ F1 s1 rfl⟩
  · cases e
end
end G

set_option maxHeartbeats 4000000
/-! # G: rules whose reading names K, for use behind binders -/
namespace G
variable [TabL]
open PySem PySem.Spec PyProof.Rows L2
section
variable {X : Cx} {K : PySem.W.Frag}
theorem in_seqK (h : X.K = K) : OpR X (compareOp .In) (rIn K false) := by subst h; exact op_in_seq
theorem notIn_seqK (h : X.K = K) : OpR X (compareOp .NotIn) (rIn K true) := by subst h; exact op_notIn_seq
theorem eqDK (h : X.K = K) (hu : X.A.units + 64 < cLine) : OpR X (compareOp .Eq) (rEqD K) := by subst h; exact op_eqD hu
theorem neDK (h : X.K = K) (hu : X.A.units + 64 < cLine) : OpR X (compareOp .NotEq) (rNeD K) := by subst h; exact op_neD hu
theorem ix_listK (h : X.K = K) : IxR X (rIxL K) := by subst h; exact ix_list
theorem ix_tupK (h : X.K = K) : IxR X (rIxT K) := by subst h; exact ix_tup
theorem sl_listK (h : X.K = K) : SlR X (rSlL K) := by subst h; exact sl_list
theorem len_seqK (h : X.K = K) : CallR X (.builtin "len") (RLen K) := by subst h; exact call_len_seq
theorem list_ofK (h : X.K = K) : CallR X (.type "list") (RList K) := by subst h; exact call_list_of
theorem tuple_ofK (h : X.K = K) : CallR X (.type "tuple") (fun xs H Q => ∃ p ys, xs = [.ref p] ∧ ((SqL K H p ys ∧ ∀ l, H l = none → Q (.ref l) (upd H l (.tup ys))) ∨ (SqT K H p ys ∧ Q (.ref p) H))) := by subst h; exact call_tuple_of
theorem allK (h : X.K = K) (hc : X.calm = true) : CallR X (.builtin "all") (rAll K) := by subst h; exact cr_all hc
theorem isiK (h : X.K = K) : CallR X (.builtin "isinstance") (rIsi K) := by subst h; exact call_isi
theorem fldK {e : Expr} {ta : TE} {f : Str} {pos : Pos} (h : X.K = K) (he : PE X e ta) (hb : attributeBase e f X.env (eval e X.env) = eval e X.env) : PE X (.Attribute e f pos) (tFld K ta f) := by subst h; exact pe_fld he hb
theorem pg_tupK {es : List Expr} {k : Nat} {t : TGs} {pos : Pos} (h : X.K = K) (n : Nat) (hc : X.calm = true) (hp : PGs X es t) (hn : (assignEach es X.env).length = n := by rfl) (hst : (assignEach es X.env).findIdx? (·.1) = none := by rfl) : PG X (.Tuple es k pos) (gTup K n t) := by subst h; exact pg_tup hc hp hn hst
theorem lenStK {a : Expr} {ta : TE} {p p2 q pos : Pos} (h : X.K = K) (hc : X.calm = true) (hg : Gl X "len") (hm : X.mg "len" = none) (hg2 : Gl X "set") (hm2 : X.mg "set" = none) (ha : PE X a ta)
    (na : starEach [a] X.env = (false, eval a X.env) :: starEach [] X.env := by rfl) : PE X (.Call (.Name "len" p) [.Call (.Name "set" p2) [a] [] q] [] pos) (tLenSt K ta) := by subst h; exact pe_lenSt hc hg hm hg2 hm2 ha na
/-- an error of the class at S and «except B» -/
theorem exm_of {S B : Addr} {b : Bool} (h0 : PySem.W.subIn K (.ref B) (.type "BaseException") = some true) (h1 : PySem.W.isClsIn K B = true) (h2 : PySem.W.typeIn K (.ref B) = some (.type "type")) (h3 : PySem.W.subIn K (.ref S) (.ref B) = some b) : PySem.W.exmOne K (.ref S) (.ref B) = some b := by
  unfold PySem.W.exmOne PySem.W.kitCls
  have e1 : (PySem.W.subIn K (.ref B) (.type "BaseException") == some true) = true := by rw [h0]; rfl
  have e2 : ((PySem.W.clsIn K B).isSome && PySem.W.typeIn K (.ref B) == some (.type "type")) = true := by
    rw [h2, show (PySem.W.clsIn K B).isSome = true from h1]; rfl
  rw [if_pos e1]
  show (if ((PySem.W.clsIn K B).isSome && PySem.W.typeIn K (.ref B) == some (.type "type")) = true then PySem.W.subIn K (.ref S) (.ref B) else none) = some b
  rw [if_pos e2]
  exact h3
end
end G

set_option maxHeartbeats 4000000
/-! # G: the operators of own classes -/
namespace G
variable [TabL]
open PySem PySem.Spec PyProof.Rows L2
section
variable {X : Cx} {CX : CXT} {C f : Addr} {fd : FuncData} {ps : List Str} {n : Nat} {sp : Sp} {E : XK} {K : PySem.W.Frag}
theorem room_bool : True := trivial
/-- x in y, y of the class at C -/
def rInO (C : Addr) (sp : Sp) (neg : Bool) (E : XK) : R2 := fun x y H Q => ∃ a dx fs, y = .ref a ∧ H a = some (.ins C dx fs) ∧ sp [y, x] H (fun v H' => ∃ b, v = .bl b ∧ Q (.bl (if neg then !b else b)) H') E
theorem op_inO (hK : X.K = K) (hm : Meth K C "__contains__" f) (F : FnOk X.prog X.w X.K X.mg X.base CX n f fd ps sp) (hr : Room n X.A) (hb : Binds K fd ps []) (hx : Passes CX X E) : OpR X (compareOp .In) (rInO C sp false E) := by
  subst hK
  intro pins s σ H x y v u Q I rx ry h
  obtain ⟨a, dx, fs, rfl, ha, q⟩ := h
  cases (show u = Value.ref a from ry)
  obtain ⟨mA, J, _⟩ := ins_get I.hok ha
  obtain ⟨od, J, _⟩ := J.look
  obtain ⟨m, hF⟩ := I.fr
  refine PySem.W.in_K hF I.ok.mod.kin J hm.at_ hm.fn ?_
  refine wpAny_mono (run_fn (us := [.ref a, v]) (vs := [.ref a, x]) F hr hb .nil hx I (.cons rfl (.cons rx .nil)) (by rw [List.append_nil]; exact q)) (fun w s' z => ?_) fun _ _ e => e
  obtain ⟨z', H', I', rz, b, rfl, qz⟩ := z
  cases (show w = Value.bool b from rz)
  exact wpAny_truthy_bool ⟨.bl b, H', I', rfl, qz⟩
theorem op_ninO (hK : X.K = K) (hm : Meth K C "__contains__" f) (F : FnOk X.prog X.w X.K X.mg X.base CX n f fd ps sp) (hr : Room n X.A) (hb : Binds K fd ps []) (hx : Passes CX X E) : OpR X (compareOp .NotIn) (rInO C sp true E) := by
  subst hK
  intro pins s σ H x y v u Q I rx ry h
  obtain ⟨a, dx, fs, rfl, ha, q⟩ := h
  cases (show u = Value.ref a from ry)
  obtain ⟨mA, J, _⟩ := ins_get I.hok ha
  obtain ⟨od, J, _⟩ := J.look
  obtain ⟨m, hF⟩ := I.fr
  refine PySem.W.notIn_K hF I.ok.mod.kin J hm.at_ hm.fn ?_
  refine wpAny_mono (run_fn (us := [.ref a, v]) (vs := [.ref a, x]) F hr hb .nil hx I (.cons rfl (.cons rx .nil)) (by rw [List.append_nil]; exact q)) (fun w s' z => ?_) fun _ _ e => e
  obtain ⟨z', H', I', rz, b, rfl, qz⟩ := z
  cases (show w = Value.bool b from rz)
  exact wpAny_truthy_bool ⟨.bl (!b), H', I', rfl, qz⟩
/-- x == y, x of the class at C, whose __eq__ gives a bool; y of the type t -/
def rEqO (K : PySem.W.Frag) (C : Addr) (t : Value) (sp : Sp) (E : XK) : R2 := fun x y H Q => ∃ a dx fs, x = .ref a ∧ H a = some (.ins C dx fs) ∧ TyX K H y t ∧ PySem.W.notFirst K C t = true ∧ sp [x, y] H (fun v H' => ∃ b, v = .bl b ∧ Q v H') E
theorem op_eqO {t : Value} (hK : X.K = K) (hm : Meth K C "__eq__" f) (F : FnOk X.prog X.w X.K X.mg X.base CX n f fd ps sp) (hr : Room n X.A) (hb : Binds K fd ps []) (hx : Passes CX X E) : OpR X (compareOp .Eq) (rEqO K C t sp E) := by
  subst hK
  intro pins s σ H x y v u Q I rx ry h
  obtain ⟨a, dx, fs, rfl, ha, ty, nf, q⟩ := h
  cases (show v = Value.ref a from rx)
  obtain ⟨mA, J, _⟩ := ins_get I.hok ha
  obtain ⟨od, J, _⟩ := J.look
  obtain ⟨m, hF⟩ := I.fr
  obtain ⟨P, Z, hP, _⟩ := kit_of I ry ty
  show wpAny _ _ (richCompare .Eq (.ref a) u) _ _ _
  refine PySem.W.cmp_K (op := .Eq) (tb := t) hr.units0 hF I.ok.mod.kin J (Z.ty _ _ I.kIn hP) nf hm.at_ hm.fn ?_
  refine wpAny_mono (run_fn (us := [.ref a, u]) (vs := [.ref a, y]) F hr hb .nil hx I (.cons rfl (.cons ry .nil)) (by rw [List.append_nil]; exact q)) (fun w s' z => ?_) fun _ _ e => e
  obtain ⟨z', H', I', rz, b, rfl, qz⟩ := z
  cases (show w = Value.bool b from rz)
  exact ⟨.bl b, H', I', rfl, qz⟩
/-- x op y, both of the class at C -/
def rBinO (C : Addr) (sp : Sp) (E : XK) : R2 := fun x y H Q => ∃ a dx fs b dy gs, x = .ref a ∧ y = .ref b ∧ H a = some (.ins C dx fs) ∧ H b = some (.ins C dy gs) ∧ sp [x, y] H Q E
theorem op_binO {op : Operator} (hK : X.K = K) (hs : PySem.W.findIn K (.ref C) (PySem.dunder op.info.2) = some (some (.ref f))) (hf : PySem.W.isFn K (.ref f) = true) (sf : PySem.W.selfFirst K C = true) (F : FnOk X.prog X.w X.K X.mg X.base CX n f fd ps sp) (hr : Room n X.A) (hb : Binds K fd ps []) (hx : Passes CX X E) : OpR X (binaryOp op) (rBinO C sp E) := by
  subst hK
  intro pins s σ H x y v u Q I rx ry h
  obtain ⟨a, dx, fs, b, dy, gs, rfl, rfl, ha, hb2, q⟩ := h
  cases (show v = Value.ref a from rx)
  cases (show u = Value.ref b from ry)
  obtain ⟨mA, J, _⟩ := ins_get I.hok ha
  obtain ⟨od, J, _⟩ := J.look
  obtain ⟨mB, J', _⟩ := ins_get I.hok hb2
  obtain ⟨od', J', _⟩ := J'.look
  obtain ⟨m, hF⟩ := I.fr
  refine PySem.W.binop_K hF I.ok.mod.kin J J'.type sf hs hf ?_
  refine wpAny_mono (run_fn (us := [.ref a, .ref b]) (vs := [.ref a, .ref b]) F hr hb .nil hx I (.cons rfl (.cons rfl .nil)) (by rw [List.append_nil]; exact q)) (fun w s' z => ?_) fun _ _ e => e
  obtain ⟨z', H', I', rz, qz⟩ := z
  exact SlX.cmpback rz ⟨z', H', I', rz, qz⟩
end
section
variable {α β γ : Type} {r ra : Rp α} {rb : Rp β} {rc : Rp γ} {te ta tb : TE} {Γ Γ1 Γ2 : List Sl} {K : PySem.W.Frag} {w : Rw α} {C : Addr} {names : List Str} {x : α} {y : β} {E : XK}
theorem ev_inO {m : α × β → Option Bool} {b : Bool} (ha : EvX rb ta Γ Γ1 y) (hb : EvX (rIns C names w) tb Γ1 Γ2 x) (e : m (x, y) = some b) : EvX rBool (tOp (rInO C (SpP (wC (rIns C names w) (w1 rb)) rBool m) false E) ta tb) Γ Γ2 b := fun A σ H B F Q q =>
  ha A σ H B F _ fun u H1 B1 F1 s1 k1 => hb A σ H1 B1 F1 _ fun v H2 B2 F2 s2 k2 => by
    obtain ⟨p, dx, vs, rfl, hp, l, kw⟩ := ob_ins F2.bh k2
    exact ⟨p, dx, _, rfl, hp, B2, (x, y), b, F2.szt, F2.bh, ⟨_, _, rfl, k2, _, rfl, rb.mono s2 k1⟩, e, fun H3 B3 v3 P k3 => ⟨b, k3, q _ H3 B3 (F2.after P) ((s1.trans s2).trans P.b0) rfl⟩⟩
theorem ev_ninO {m : α × β → Option Bool} {b : Bool} (ha : EvX rb ta Γ Γ1 y) (hb : EvX (rIns C names w) tb Γ1 Γ2 x) (e : m (x, y) = some b) : EvX rBool (tOp (rInO C (SpP (wC (rIns C names w) (w1 rb)) rBool m) true E) ta tb) Γ Γ2 (!b) := fun A σ H B F Q q =>
  ha A σ H B F _ fun u H1 B1 F1 s1 k1 => hb A σ H1 B1 F1 _ fun v H2 B2 F2 s2 k2 => by
    obtain ⟨p, dx, vs, rfl, hp, l, kw⟩ := ob_ins F2.bh k2
    exact ⟨p, dx, _, rfl, hp, B2, (x, y), b, F2.szt, F2.bh, ⟨_, _, rfl, k2, _, rfl, rb.mono s2 k1⟩, e, fun H3 B3 v3 P k3 => ⟨b, k3, q _ H3 B3 (F2.after P) ((s1.trans s2).trans P.b0) rfl⟩⟩
theorem ev_eqO {t : Value} {m : α × β → Option Bool} {b : Bool} (ha : EvX (rIns C names w) ta Γ Γ1 x) (hb : EvX rb tb Γ1 Γ2 y) (ty : TyR K rb t) (nf : PySem.W.notFirst K C t = true) (e : m (x, y) = some b) : EvX rBool (tOp (rEqO K C t (SpP (wC (rIns C names w) (w1 rb)) rBool m) E) ta tb) Γ Γ2 b := fun A σ H B F Q q =>
  ha A σ H B F _ fun u H1 B1 F1 s1 k1 => hb A σ H1 B1 F1 _ fun v H2 B2 F2 s2 k2 => by
    have k1' := (rIns C names w).mono s2 k1
    obtain ⟨p, dx, vs, rfl, hp, l, kw⟩ := ob_ins F2.bh k1'
    exact ⟨p, dx, _, rfl, hp, ty _ _ _ (rb.mono F2.bh k2), nf, B2, (x, y), b, F2.szt, F2.bh, ⟨_, _, rfl, k1', _, rfl, k2⟩, e, fun H3 B3 v3 P k3 => ⟨b, k3, q _ H3 B3 (F2.after P) ((s1.trans s2).trans P.b0) k3⟩⟩
theorem ev_binO {m : α × α → Option γ} {z : γ} {x y : α} (ha : EvX (rIns C names w) ta Γ Γ1 x) (hb : EvX (rIns C names w) tb Γ1 Γ2 y) (e : m (x, y) = some z) : EvX rc (tOp (rBinO C (SpP (wC (rIns C names w) (w1 (rIns C names w))) rc m) E) ta tb) Γ Γ2 z := fun A σ H B F Q q =>
  ha A σ H B F _ fun u H1 B1 F1 s1 k1 => hb A σ H1 B1 F1 _ fun v H2 B2 F2 s2 k2 => by
    have k1' := (rIns C names w).mono s2 k1
    obtain ⟨p, dx, vs, rfl, hp, l, kw⟩ := ob_ins F2.bh k1'
    obtain ⟨p2, dx2, vs2, rfl, hp2, l2, kw2⟩ := ob_ins F2.bh k2
    exact ⟨p, dx, _, p2, dx2, _, rfl, rfl, hp, hp2, B2, (x, y), z, F2.szt, F2.bh, ⟨_, _, rfl, k1', _, rfl, k2⟩, e, fun H3 B3 v3 P k3 => q _ H3 B3 (F2.after P) ((s1.trans s2).trans P.b0) k3⟩
end
end G

set_option maxHeartbeats 4000000
/-! # G: sorted(set(..)) of ints -/
namespace G
variable [TabL]
open PySem PySem.Spec PyProof.Rows L2
section
variable {prog : Program} {w : World} {A : Around} {E : Value → Shared → Prop} {z : Shared}
set_option maxHeartbeats 8000000 in
theorem seti_of_list {p : Addr} {its : Array Value} {ks : List Int} {G : Value → Shared → Prop} (hd : A.handled = none) (hp : z.heap.IsList p its) (hn : its.size = ks.length) (hb : ks.length < 2000)
    (hv : ∀ (i : Nat) (v : Value), its[i]? = some v → ∃ k t, ks[i]? = some k ∧ v = .int k t)
    (fin : ∀ (g : Heap) (tk c : Nat), SetR w g z.heap.objs.size (fun x => decide (x ∈ ks)) c → c ≤ ks.length → (∀ b o, z.heap.get? b = some o → g.get? b = some o) → G (.ref z.heap.objs.size) { z with heap := g, toks := tk }) :
    wpAny (model prog w) A (call (.type "set") [.ref p]) G E z := by
  obtain ⟨mc, mt, m0⟩ := PySem.F.called_set.mro
  have m1 := PySem.F.called_set.made
  have m2 := PySem.F.called_set.sub
  refine wpAny_call (codeAny_of_tree ?_)
  show wpAny _ _ (callAny (.type "set") (_ : Args)) _ _ z
  refine wpAny_pure (And.intro (Code.quiet_builtin _ (by decide +kernel)) (codeAny_builtin PySem.F.entry_type_call ?_))
  rw [Around.under_plain (weight_type_call_type "set" [Value.ref p] ([] : List (Str × Value))) (by rfl)]
  have m3 := PySem.F.called_set.notType
  have m4 := PySem.F.called_set.canCreate
  have m5 := PySem.F.typeCall_set_1 (Value.ref p)
  repeat (any_goals (first | assumption | wp_step))
  let ob : Obj := { cls := .type "set", dict := none, data := .set #[] 0 (.fresh 0 0 (!w.params.followText "set-order")) }
  refine codeAny_mono (code_set_led1 (Value.ref p) (E := E) (Q₁ := fun v z1 => v = Value.ref z.heap.objs.size ∧ z1 = { z with heap := z.heap.push ob }) (And.intro rfl rfl)) fun r0 z1 q0 => ?_
  cases r0 with
  | error e => exact q0
  | ok fl0 =>
    cases fl0 with
    | next => exact q0.elim
    | brk => exact q0.elim
    | cont => exact q0.elim
    | ret v0 =>
      obtain ⟨rfl, rfl⟩ := q0
      have at0 : (z.heap.push ob).get? z.heap.objs.size = some ob := Heap.get?_push_size _ rfl
      have ty0 : Shared.TypeIs { z with heap := z.heap.push ob } (.ref z.heap.objs.size) "set" := ⟨_, at0, rfl⟩
      have i1 := PySem.F.called_set.init.lookup
      have i2 := PySem.F.called_set.init.bind (Value.ref z.heap.objs.size)
      repeat (any_goals (first | assumption | wp_step))
      refine codeAny_mono (codeAny_call_builtin (R := wants (fun v z2 => v = .none ∧ ∃ g tk c, z2 = { z with heap := g, toks := tk } ∧ SetR w g z.heap.objs.size (fun x => decide (x ∈ ks)) c ∧ c ≤ ks.length ∧
          (∀ b o, z.heap.get? b = some o → g.get? b = some o)) E) PySem.F.called_set.init.plain PySem.F.entry_set_init (check_set_init_1 ty0 ?_)) fun r2 z2 q2 => ?_
      · obtain ⟨u0, a0, c0, n0, d0⟩ := hp
        obtain ⟨uc, ud, ux, us⟩ := u0
        simp only at c0 d0
        subst c0; subst d0
        have a1 : (z.heap.push ob).get? p = some { cls := .type "list", dict := ud, data := .seq its n0, slots := us } := Heap.get?_push_of_some _ a0
        have s1 := PySem.F.sub_list_set
        have s2 := PySem.F.sub_list_frozenset
        have s3 : (Value.type "list" == Value.type "dict") = false := by decide
        have l1 : (z.heap.push ob).IsList p its := ⟨_, a1, rfl, n0, rfl⟩
        unfold Builtin.«set.__init__» noKeywords Builtin.Frozenset.updateFrom
        generalize hit : pyIter = itf
        wp_walk
        subst hit
        refine wpAny_pyIter_list l1 (wpAny_bind (wpAny_runValue ?_))
        have pl : p < z.heap.objs.size := Heap.lt_size a0
        have h3 : A.in1.in1.in1.handled = none := by simp [hd]
        have sz1 : (z.heap.push ob).objs.size = z.heap.objs.size + 1 := Heap.size_push ..
        have ne1 : p ≠ (z.heap.push ob).objs.size := by rw [sz1]; exact Nat.ne_of_lt (Nat.lt_succ_of_lt pl)
        have sf : z.heap.objs.size ∉ [(z.heap.push ob).objs.size, p] := fun hm => by
          rw [sz1] at hm
          rcases List.mem_cons.mp hm with e | hm
          · exact Nat.ne_of_lt (Nat.lt_succ_self _) e
          · exact Nat.ne_of_gt pl (List.mem_singleton.mp hm)
        refine set_update_ints ((Walks.list h3 _ p ne1 its).toS) z.heap.objs.size sf ks hn (by unfold scanBound; omega) hv (its.size - 0) 0 _ (by omega) (Nat.zero_le _) ⟨⟨_, Heap.get?_push_size _ rfl, rfl, rfl⟩, l1.push _⟩ ?w0 ?w1
        case w0 =>
          exact ⟨0, Nat.le_refl 0, setR_new_at (Heap.get?_push_of_some _ at0)⟩
        case w1 =>
          intro z3 c3 mv le3 st3
          obtain ⟨g3, e3, d3, t3, o3⟩ := z3
          obtain rfl : e3 = z.gens := mv.gens
          obtain rfl : d3 = z.drawn := mv.drawn
          obtain rfl : o3 = z.os := mv.os
          show wpAny _ _ _ _ _ (_ : Shared)
          refine wpAny_pure ?_
          show wpAny _ _ (ret Value.none) _ _ (_ : Shared)
          rw [hn] at le3
          refine wpAny_pure ⟨rfl, g3, t3, c3, rfl, st3, le3, fun b o hbo => mv.heap b o (fun hm => ?_) (Heap.get?_push_of_some _ (Heap.get?_push_of_some _ hbo))⟩
          have bl := Heap.lt_size hbo
          rcases List.mem_cons.mp hm with e | hm
          · exact Nat.ne_of_lt bl e
          · rw [List.mem_singleton, sz1] at hm; exact Nat.ne_of_lt (Nat.lt_succ_of_lt bl) hm
      · cases r2 with
        | error e => exact q2
        | ok fl2 =>
          cases fl2 with
          | next => exact q2.elim
          | brk => exact q2.elim
          | cont => exact q2.elim
          | ret v2 =>
            obtain ⟨rfl, g2, t2, c2, rfl, st2, le2, kp2⟩ := q2
            repeat (any_goals (first | assumption | wp_step))
            exact fin _ _ _ st2 le2 kp2

end
end G

set_option maxHeartbeats 4000000
/-! # G: sorted(set(ints)) as an expression -/
namespace G
variable [TabL]
open PySem PySem.Spec PyProof.Rows L2
/-- ascending, each once -/
def insI (x : Int) : List Int → List Int
  | [] => [x]
  | y :: ys => if x < y then x :: y :: ys else if x = y then y :: ys else y :: insI x ys
def sset : List Int → List Int
  | [] => []
  | x :: xs => insI x (sset xs)
theorem mem_insI {x z : Int} : ∀ {l : List Int}, z ∈ insI x l ↔ z = x ∨ z ∈ l
  | [] => by simp [insI]
  | y :: ys => by
    unfold insI
    split
    · simp
    · split
      · rename_i h; subst h; simp
      · rw [List.mem_cons, mem_insI, List.mem_cons]
        exact ⟨fun h => h.elim (fun h => .inr (.inl h)) fun h => h.elim .inl fun h => .inr (.inr h), fun h => h.elim (fun h => .inr (.inl h)) fun h => h.elim .inl fun h => .inr (.inr h)⟩
theorem sset_mem {z : Int} : ∀ {l : List Int}, z ∈ sset l ↔ z ∈ l
  | [] => by simp [sset]
  | x :: xs => by
    unfold sset
    rw [mem_insI, sset_mem, List.mem_cons]
theorem insI_asc {x : Int} : ∀ {l : List Int}, l.Pairwise (· < ·) → (insI x l).Pairwise (· < ·)
  | [], _ => by simp [insI]
  | y :: ys, h => by
    have h' := List.pairwise_cons.mp h
    unfold insI
    split
    · rename_i hx
      exact List.pairwise_cons.mpr ⟨fun z hz => (List.mem_cons.mp hz).elim (fun e => e ▸ hx) fun hz => Int.lt_trans hx (h'.1 z hz), h⟩
    · split
      · exact h
      · rename_i h1 h2
        refine List.pairwise_cons.mpr ⟨fun z hz => ?_, insI_asc h'.2⟩
        rcases mem_insI.mp hz with e | hz
        · subst e; omega
        · exact h'.1 z hz
theorem sset_asc : ∀ l : List Int, (sset l).Pairwise (· < ·)
  | [] => .nil
  | x :: xs => insI_asc (sset_asc xs)
theorem asc_eq : ∀ {a b : List Int}, a.Pairwise (· < ·) → b.Pairwise (· < ·) → (∀ z, z ∈ a ↔ z ∈ b) → a = b
  | [], [], _, _, _ => rfl
  | [], y :: ys, _, _, h => by have := (h y).mpr List.mem_cons_self; cases this
  | x :: xs, [], _, _, h => by have := (h x).mp List.mem_cons_self; cases this
  | x :: xs, y :: ys, ha, hb, h => by
    have ha' := List.pairwise_cons.mp ha
    have hb' := List.pairwise_cons.mp hb
    have e : x = y := by
      rcases List.mem_cons.mp ((h x).mp List.mem_cons_self) with e | hx
      · exact e
      · rcases List.mem_cons.mp ((h y).mpr List.mem_cons_self) with e | hy
        · exact e.symm
        · have h1 := hb'.1 x hx
          have h2 := ha'.1 y hy
          omega
    subst e
    refine congrArg _ (asc_eq ha'.2 hb'.2 fun z => ⟨fun hz => ?_, fun hz => ?_⟩)
    · rcases List.mem_cons.mp ((h z).mp (List.mem_cons_of_mem _ hz)) with e | q
      · subst e; exact absurd (ha'.1 z hz) (by omega)
      · exact q
    · rcases List.mem_cons.mp ((h z).mpr (List.mem_cons_of_mem _ hz)) with e | q
      · subst e; exact absurd (hb'.1 z hz) (by omega)
      · exact q
theorem sset_nil : sset [] = [] := rfl
def pySS (xs : List Int) : Option (List Int) := if xs.length < 64 then some (sset xs) else none
theorem val_int : ∀ {xs : List Int} {us : List Value}, Vals (xs.map V.int) us → ∀ (i : Nat) (v : Value), us[i]? = some v → ∃ x t, xs[i]? = some x ∧ v = .int x t
  | [], _, .nil, i, v, h => by simp at h
  | x :: xs, _, .cons ⟨t, e⟩ r, 0, v, h => ⟨x, t, rfl, by simp at h; rw [← h, e]⟩
  | x :: xs, _, .cons _ r, i + 1, v, h => by
    obtain ⟨y, t, h1, h2⟩ := val_int r i v (by simpa using h)
    exact ⟨y, t, by simpa using h1, h2⟩
/-- set(xs) -/
def rSetI (K : PySem.W.Frag) (w : World) : List V → Hp → VK → Prop := fun vs H Q => ∃ (a : Addr) (ns : List Int), vs = [V.ref a] ∧ SqL K H a (ns.map V.int) ∧ ns.length < 1000 ∧ ∀ (n : Nat) (p : Addr), n ≤ ns.length → H p = none → Q (.ref p) (upd H p (SetO w p (fun x => decide (x ∈ ns)) n))
theorem cr_setI {X : Cx} {K : PySem.W.Frag} (hK : X.K = K) (hc : X.calm = true) : CallR X (.type "set") (rSetI K X.w) := by
  subst hK
  intro pins s σ H vs us Q I r h
  obtain ⟨a, ns, rfl, hs, hl, q⟩ := h
  obtain ⟨its, rv, pl, hz⟩ := I.list hs
  rw [Vals.ref1 r]
  have hsz : its.toArray.size = ns.length := by rw [List.size_toArray, ← rv.length, List.length_map]
  refine seti_of_list (I.ok.hd hc) pl.isList hsz (by omega) (fun i v e => by
    obtain ⟨x, t, h1, h2⟩ := val_int rv i v (by simpa using e)
    exact ⟨x, t, h1, h2⟩) fun g tk c R le kp => ?_
  have J : Inv X pins σ (upd H s.heap.objs.size (SetO X.w s.heap.objs.size (fun x => decide (x ∈ ns)) c)) { s with heap := g, toks := tk } :=
    I.laid (t' := tk) kp (Nat.le_refl _) (setO_new R)
  exact ⟨.ref s.heap.objs.size, _, J, rfl, q c _ le (I.hok.fresh (Nat.le_refl _))⟩
section
variable {te : TE} {Γ Γ1 : List Sl} {K : PySem.W.Frag} {xs ys : List Int} {wd : World}
theorem ec_sortSet (h : EvX (rLst rInt) te Γ Γ1 xs) (e : pySS xs = some ys) : EvC (cLst rInt) (tCB (rSortedSet wd) (tCons (tCB (rSetI K wd) (tCons te tNil)) tNil)) Γ Γ1 ys := fun A σ H B F Q q => by
  unfold pySS at e
  split at e
  · rename_i hl
    cases e
    refine h A σ H B F _ fun v H1 B1 F1 s1 k1 => ?_
    obtain ⟨p, vs, rfl, hp, k⟩ := ob_lst F1.bh k1
    refine ⟨p, xs, rfl, ?_, by omega, fun n p0 hn h0 => ?_⟩
    · rw [show xs.map V.int = vs from (fl_int.vals k).symm]; exact SqL.of hp
    · have F2 := (F1.fresh h0 (o := SetO wd p0 (fun x => decide (x ∈ xs)) n) trivial).drop (F1.H0none h0) F1.sub F1.mh
      refine ⟨p0, _, n, rfl, upd_same, by omega, fun ns p1 asc mem len h1 => ?_⟩
      have en : ns = sset xs := asc_eq asc (sset_asc xs) fun z => by rw [mem z, sset_mem, decide_eq_true_eq]
      subst en
      refine ec_fresh (c := cLst rInt) (o := .lst ((sset xs).map V.int)) F2 h1 ?_ (fun p o H' B' F' n' s' k' => q p o H' B' F' n' (s1.trans s') k') ⟨_, rfl, paired_ints _ _⟩
      show ((sset xs).map V.int).length ≤ sizeLine
      rw [List.length_map, len]
      exact Nat.le_trans (show n ≤ 64 by omega) (by decide)
  · cases e
end
end G

set_option maxHeartbeats 4000000
/-! # G: attributes as targets -/
namespace G
variable [TabL]
open PySem PySem.Spec PyProof.Rows L2
/-- the target e.f -/
def gFld (K : PySem.W.Frag) (ta : TE) (f : Str) : TG := fun y σ H Q => ta σ H fun x H1 => ∃ a C dx fs, x = .ref a ∧ H1 a = some (.ins C dx fs) ∧ Cls K C ∧ NoAttr K C f ∧ fs.length < 1000 ∧ Q σ (upd H1 a (.ins C dx (putF f y fs)))
theorem pg_fld {X : Cx} {K : PySem.W.Frag} {o : Expr} {ta : TE} {f : Str} {pos : Pos} (hK : X.K = K) (ho : PE X o ta) : PG X (.Attribute o f pos) (gFld K ta f) := by
  subst hK
  refine ⟨fun pins s σ H v u Q I r h => ?_⟩
  rw [arm_assign_Attribute]
  refine wpAny_bind (wpAny_holding (thn (ho.run pins s σ H _ I h) fun ov s1 ⟨x, H1, I1, rx, a, C, dx, fs, ex, ea, c, n, l, q⟩ => ?_))
  subst ex
  obtain rfl : ov = Value.ref a := rx
  refine wpAny_bind (wpAny_standAt (wpAny_bind (wpAny_holding (setattr_ok I1 ea c n l r fun s3 I3 => ?_))))
  exact wpAny_release ⟨σ, _, I3, q⟩
/-- a target that may change the frame's own objects -/
def TgH {α : Type} (g : TG) (r : Rp α) (Γ : List Sl) (Γf : α → List Sl) : Prop := ∀ (A : Amb) (σ : L2.St) (H B : Hp) (v : V) (x : α), Frm A σ H B Γ → r.rel B v x → ∀ Q : L2.St → Hp → Prop, (∀ σ' H', Frm A σ' H' B (Γf x) → Q σ' H') → g v σ H Q
def ThW {α : Type} (g : TGs) (w : Rw α) (Γ : List Sl) (Γf : α → List Sl) : Prop := ∀ (A : Amb) (σ : L2.St) (H B : Hp) (us : List V) (x : α), Frm A σ H B Γ → w.rel B us x → ∀ Q : L2.St → Hp → Prop, (∀ σ' H', Frm A σ' H' B (Γf x) → Q σ' H') → g us σ H Q
section
variable {α β γ : Type} {r : Rp α} {w : Rw β} {w' : Rw γ} {K : PySem.W.Frag} {C : Addr} {names : List Str} {Γ Γ1 : List Sl} {a : β} {i : Nat} {p : Addr} {nm : Str} {te : TE} {A : Amb} {D : Ends} {u : TS}
theorem th_name {j : Nat} : TgH (gName j) r Γ (fun x => Γ.set j (.imm r x)) := fun A σ H B v x F k Q q => q _ _ (F.set k)
theorem th_fld {f : β → α → γ} (hi : Γ[i]? = some (.cel p (cIns C names w) a)) (sn : Snoc w r w' f) (nn : nm ∉ names) (hl : names.length < 900) (c : Cls K C) (na : NoAttr K C nm) : TgH (gFld K (tVar i) nm) r Γ (fun x => Γ.set i (.cel p (cIns C (names ++ [nm]) w') (f a x))) := fun A σ H B v x F k Q q => by
  obtain ⟨e, o, ho, dx, vs, rfl, l, kw⟩ := cel_at F hi
  refine ⟨_, e, p, C, dx, _, rfl, ho, c, na, by rw [List.length_zip]; omega, ?_⟩
  exact q σ _ (F.write hi (c' := cIns C (names ++ [nm]) w') (o' := .ins C dx (putF nm v (names.zip vs))) ⟨dx, vs ++ [v], by rw [putF_zip nn l], by rw [List.length_append, List.length_append, l]; rfl, sn B vs a v x kw k⟩ trivial)
theorem th_1 {g : TG} {Γf : α → List Sl} (h : TgH g r Γ Γf) : ThW (gCons g gNil) (w1 r) Γ Γf := fun A σ H B us x F k Q q => by
  obtain ⟨v, rfl, kv⟩ := k
  exact ⟨v, [], rfl, h A σ H B v x F kv _ fun σ' H' F' => ⟨rfl, q σ' H' F'⟩⟩
theorem th_C {g : TG} {gs : TGs} {w : Rw β} {Γf : α → List Sl} {Γg : α → β → List Sl} (h : TgH g r Γ Γf) (hr : ∀ x, ThW gs w (Γf x) (Γg x)) : ThW (gCons g gs) (wC r w) Γ (fun x => Γg x.1 x.2) := fun A σ H B us x F k Q q => by
  obtain ⟨v, t, rfl, kv, kt⟩ := k
  exact ⟨v, t, rfl, h A σ H B v x.1 F kv _ fun σ' H' F' => hr x.1 A σ' H' B t x.2 F' kt _ fun σ2 H2 F2 => q σ2 H2 F2⟩
theorem th_tup {g : TGs} {n m : Nat} {w : Rw α} [k : WLen w m] {Γf : α → List Sl} (h : ThW g w Γ Γf) (e : m = n := by rfl) : TgH (gTup K n g) (rTup w) Γ Γf := fun A σ H B v x F kv Q q => by
  obtain ⟨p, vs, rfl, hp, kw⟩ := ob_tup F.bh kv
  exact ⟨p, vs, rfl, SqT.of hp, by rw [k.len kw, e], h A σ H B vs x F kw Q q⟩
theorem sq_asgH {g : TG} {x : α} {Γf : α → List Sl} (h : EvX r te Γ Γ1 x) (hg : TgH g r Γ1 Γf) (k : Nx A (u D) (Γf x)) : Nx A (tSeq (tAsg te g) u D) Γ := fun σ H B F => h A σ H B F _ fun v H' B' F' _ q =>
  hg A σ H' B' v x F' q _ fun σ2 H2 F2 => k σ2 H2 B' F2
end
end G

set_option maxHeartbeats 4000000
/-! # G: static methods -/
namespace G
variable [TabL]
open PySem PySem.Spec PyProof.Rows L2
/-- C.m is a staticmethod: its record at p, its def at g -/
structure SMet (K : PySem.W.Frag) (C : Addr) (mc : Value) (m : Str) (p g : Addr) : Prop where
  at_ : PySem.W.findCls K (.ref C) mc m = some (.get (.builtin "staticmethod.__get__") (.ref p) .none (.ref C))
  rc : ∃ rest, PySem.W.recIn K p "staticmethod" = some (.ref g :: rest)
  kp : PySem.W.keepIn K (.ref g) = true
/-- C.m(..), m a staticmethod -/
def tSm (sp : Sp) (E : L2.St → XK) (t : TA) : TE := fun σ H Q => t σ H fun vs H1 => sp vs H1 Q (E σ)
section
variable {X : Cx} {CX : CXT} {k : Nat} {C p g : Addr} {mc : Value} {sp : Sp} {E : L2.St → XK} {fd : FuncData} {ps : List Str} {e : Expr} {es : List Expr} {x m : Str} {pos apos px : Pos} {t : TA} {pl : Sem Bool}
theorem getsm_ok {pins : List (Addr × Obj)} {σ : L2.St} {H : Hp} {s : Shared} {Q : Value × List Value → Shared → Prop} {A : Around} {Ee : Value → Shared → Prop} (I : Inv X pins σ H s) (r : ClX.CRead X.K C mc) (c : SMet X.K C mc m p g)
    (h : ∀ s', Inv X pins σ H s' → Q (.ref g, []) s') : wpAny (model X.prog X.w) A (getMethod (.ref C) m pl) Q Ee s := by
  obtain ⟨rest, hp⟩ := c.rc
  refine PySem.W.method_cls I.kIn r.ga (PySem.W.cls_bind I.kIn r.rd c.at_ (wpAny_call (PySem.W.sm_get (s := { s with toks := s.toks + 1 }) I.kIn hp (PySem.W.handed_on rfl ?_))))
  exact h _ (I.tok _)
theorem pe_smeth (hg : Gl X x) (hm : X.mg x = some (.ref C)) (r : ClX.CRead X.K C mc) (c : SMet X.K C mc m p g) (F : FnOk X.prog X.w X.K X.mg X.base CX k g fd ps sp) (hr : Room k X.A) (hb : Binds X.K fd ps []) (hx : ∀ σ, PassesAt CX X σ (E σ)) (ha : PA X (e :: es) t)
    (hdb : (x == ("__debug__" : Str)) = false := by decide) (hst : starEach (e :: es) X.env = (false, eval e X.env) :: starEach es X.env := by rfl) (hpl : (backTo pos (starEach es X.env)).any (·.1) = false := by rfl)
    (ht : eval (.Call (.Attribute (.Name x px) m apos) (e :: es) [] pos) X.env = (do
      let ov ← eval (.Name x px) X.env
      standAt apos.atName
      let (f, first) ← holding [ov] (getMethod ov m pl)
      callWith pos f first (backTo pos (starEach (e :: es) X.env)) (backToKw pos (keywordEach [] X.env))) := by rfl) :
    PE X (.Call (.Attribute (.Name x px) m apos) (e :: es) [] pos) (tSm sp E t) := by
  refine ⟨fun pins s σ H Q I h => ?_⟩
  refine PySem.W.methodCall_KW (pl := pl) (ld_glob I hg hm ?_ hdb) ht
  refine getsm_ok I r c fun s2 I2 => ?_
  refine PySem.W.callWith_K (first := []) (h₀ := X.base) I2.ok.mod.kin c.kp (thn (ha.run pos pins s2 σ H _ I2 h) fun us s3 ⟨vs, H2, I3, rv, q2⟩ => ⟨I3.kIn, ?_⟩) hst hpl
  exact run_fnS F hr hb (hx σ) I3 rv q2
end
section
variable {α β γ ε : Type} {w : Rw α} {r : Rp β} {Γ Γ1 : List Sl} {ta : TA} {a : α} {b : β} {R : ER ε} {C : Addr} {names : List Str}
theorem ev_sm {m : α → Option β} {E : L2.St → XK} (h : EvW w ta Γ Γ1 a) (e : m a = some b) : EvX r (tSm (SpP w r m) E ta) Γ Γ1 b := fun A σ H B F Q q => h A σ H B F _ fun vs H1 B1 F1 s1 k1 =>
  ⟨B1, a, b, F1.szt, F1.bh, k1, e, fun H2 B2 v P k2 => q v H2 B2 (F1.after P) (s1.trans P.b0) k2⟩
/-- a def that may raise is called: both ways -/
theorem er_sm {m : α → Option (Res ε β)} {x : Res ε β} (h : EvW w ta Γ Γ1 a) (e : m a = some x) : EvR R r (fun E => tSm (SpX R w r m) E ta) Γ Γ1 x := fun A σ H B F E Q qo qe => h A σ H B F _ fun vs H1 B1 F1 s1 k1 =>
  ⟨B1, a, x, F1.szt, F1.bh, k1, e, fun b hb H2 B2 v P k2 => qo b hb v H2 B2 (F1.after P) (s1.trans P.b0) k2, fun y hy cls d H2 B2 P k2 => qe y hy cls d H2 B2 (F1.after P) (s1.trans P.b0) k2⟩
/-- .. where it does not raise -/
theorem ev_ok {tf : (L2.St → XK) → TE} {x : Res ε β} (h : EvR R r tf Γ Γ1 x) (e : x = .ok b) (E : L2.St → XK) : EvX r (tf E) Γ Γ1 b := fun A σ H B F Q q =>
  h A σ H B F E Q (fun y hy v H' B' F' s k => by rw [e] at hy; cases hy; exact q v H' B' F' s k) fun y hy => by rw [e] at hy; cases hy
end
end G

set_option maxHeartbeats 4000000
/-! # G: dicts -/
namespace G
variable [TabL]
open PySem PySem.Spec PyProof.Rows L2
/-- a key that is a value without the heap -/
structure Ky {κ : Type} [DecidableEq κ] (r : Rp κ) where
  key : κ → L2.Key
  ok : ∀ {H v k}, r.rel H v k → v = L2.kV (key k)
  inj : ∀ {a b}, key a = key b → a = b
  kn : ∀ {B k}, r.rel B (L2.kV (key k)) k
def kyInt : Ky rInt := ⟨.inl, fun h => h, fun h => Sum.inl.inj h, rfl⟩
def kyStr : Ky rStr := ⟨.inr, fun h => h, fun h => Sum.inr.inj h, rfl⟩
section
variable {κ β α γ : Type} [DecidableEq κ] {rk : Rp κ} {rv : Rp β} {r : Rp α} {te ta tb tk tv : TE} {tt : TT} {Γ Γ1 Γ2 : List Sl} {K : PySem.W.Frag} {xs : List α}
def putM (l : List (κ × β)) (k : κ) (v : β) : List (κ × β) := if (l.any fun e => decide (e.1 = k)) = true then l.map (fun e => if e.1 = k then (e.1, v) else e) else l ++ [(k, v)]
def getM (l : List (κ × β)) (k : κ) : Option β := (l.find? fun e => decide (e.1 = k)).map (·.2)
def DRel (ky : Ky rk) (rv : Rp β) (H : Hp) (e : L2.Key × V) (x : κ × β) : Prop := e.1 = ky.key x.1 ∧ rv.rel H e.2 x.2
def cDic (ky : Ky rk) (rv : Rp β) : Cl (List (κ × β)) := ⟨fun H o xs => ∃ kvs, o = .dK kvs ∧ Paired (DRel ky rv H) kvs xs, fun s ⟨kvs, e, h⟩ => ⟨kvs, e, Paired.imp2 (fun _ _ q => ⟨q.1, rv.mono s q.2⟩) h⟩⟩
theorem any_key (ky : Ky rk) {H : Hp} (k : κ) : ∀ {kvs : List (L2.Key × V)} {l : List (κ × β)}, Paired (DRel ky rv H) kvs l → (kvs.any fun e => decide (e.1 = ky.key k)) = l.any fun e => decide (e.1 = k)
  | _, _, .nil => rfl
  | _, _, .cons (a := a) (b := b) q t => by
    rw [List.any_cons, List.any_cons, any_key ky k t]
    congr 1
    by_cases h : b.1 = k
    · rw [decide_eq_true h, decide_eq_true (by rw [q.1, h])]
    · rw [decide_eq_false h, decide_eq_false fun e => h (ky.inj (by rw [← q.1]; exact e))]
theorem map_pair (ky : Ky rk) {H : Hp} {k : κ} {v : V} {b : β} (hv : rv.rel H v b) : ∀ {kvs : List (L2.Key × V)} {l : List (κ × β)}, Paired (DRel ky rv H) kvs l → Paired (DRel ky rv H) (kvs.map fun kv => if kv.1 = ky.key k then (kv.1, v) else kv) (l.map fun e => if e.1 = k then (e.1, b) else e)
  | _, _, .nil => .nil
  | _, _, .cons (a := a) (b := b') q t => by
    rw [List.map_cons, List.map_cons]
    refine .cons ?_ (map_pair ky hv t)
    by_cases e : b'.1 = k
    · rw [if_pos e, if_pos (by rw [q.1, e])]
      exact ⟨q.1, hv⟩
    · rw [if_neg e, if_neg fun z => e (ky.inj (by rw [← q.1]; exact z))]
      exact q
theorem put_pair (ky : Ky rk) {H : Hp} {k : κ} {v : V} {b : β} (hv : rv.rel H v b) {kvs : List (L2.Key × V)} {l : List (κ × β)} (h : Paired (DRel ky rv H) kvs l) : Paired (DRel ky rv H) (putK kvs (ky.key k) v) (putM l k b) := by
  unfold putK putM
  rw [any_key ky k h]
  split
  · exact map_pair ky hv h
  · exact Paired.app h (.cons ⟨rfl, hv⟩ .nil)
theorem putM_len (l : List (κ × β)) (k : κ) (v : β) : (putM l k v).length ≤ l.length + 1 := by
  unfold putM
  split
  · rw [List.length_map]; omega
  · rw [List.length_append, List.length_singleton]; omega
theorem get_pair (ky : Ky rk) {H : Hp} (k : κ) : ∀ {kvs : List (L2.Key × V)} {l : List (κ × β)}, Paired (DRel ky rv H) kvs l → (∀ b, getM l k = some b → ∃ v, valV kvs (ky.key k) = some v ∧ rv.rel H v b) ∧ (getM l k = none → valV kvs (ky.key k) = none)
  | _, _, .nil => ⟨(fun b e => by cases e), fun _ => rfl⟩
  | _, _, .cons (a := a) (b := b) (l₁ := l1) (l₂ := l2) q t => by
    have ih := get_pair ky k t
    by_cases h : b.1 = k
    · have h1 : decide (b.1 = k) = true := decide_eq_true h
      have h2 : decide (a.1 = ky.key k) = true := decide_eq_true (by rw [q.1, h])
      refine ⟨fun c e => ?_, fun e => ?_⟩
      · unfold getM at e
        rw [List.find?_cons_of_pos (by simpa using h)] at e
        have e' : b.2 = c := Option.some.inj e
        refine ⟨a.2, ?_, e' ▸ q.2⟩
        unfold valV
        rw [List.find?_cons_of_pos (by simpa using h2)]
        rfl
      · unfold getM at e
        rw [List.find?_cons_of_pos (by simpa using h)] at e
        cases e
    · have h2 : ¬ a.1 = ky.key k := fun e => h (ky.inj (by rw [← q.1]; exact e))
      have e1 : getM (b :: l2) k = getM l2 k := by
        unfold getM
        rw [List.find?_cons_of_neg (by simpa using h)]
      have e2 : valV (a :: l1) (ky.key k) = valV l1 (ky.key k) := by
        unfold valV
        rw [List.find?_cons_of_neg (by simpa using h2)]
      rw [e1, e2]
      exact ih
/-- {k: v for x in xs if t} -/
def compD {α κ β : Type} [DecidableEq κ] (f : α → Option (Option (κ × β))) : List α → List (κ × β) → Option (List (κ × β))
  | [], l => some l
  | x :: xs, l => match f x with
    | none => none
    | some none => compD f xs l
    | some (some y) => compD f xs (putM l y.1 y.2)
theorem ec_dc (ky : Ky rk) {wi : TI} {g : TG} {ws vs : List Nat} (f : α → Option (Option (κ × β))) {Γf : α → List Sl} {ys : List (κ × β)} (hi : ItX r wi Γ Γ1 xs) (e : compD f xs [] = some ys) (hg : TgX g r ws Γ1 Γf) (hw : ∀ k, k ∈ ws → k ∈ vs) (hv : wipeG Γ1 vs = Γ1) (hm : ∀ x, wipeG (Γf x) vs = Γ1)
    (hb : ∀ (x : α) (o : Option (κ × β)), f x = some o → EvT tt (Γf x) (Γf x) o.isSome ∧ ∀ y, o = some y → EvX rk tk (Γf x) (Γf x) y.1 ∧ EvX rv tv (Γf x) (Γf x) y.2) : EvC (cDic ky rv) (tDc wi g tt tk tv vs) Γ Γ1 ys := fun A σ H B F Q q => by
  refine hi A σ H B F _ fun J H1 B1 F1 sB1 Y => fun D hD => ?_
  have F2 := F1.and (Bx := B1) (Same.refl _)
  have h0D : A.H0 D = none := F1.H0none hD
  have hmD : ¬ A.m D := fun m => F.mh.al D m h0D
  have F3 := F2.wipe vs
  rw [hv] at F3
  have F4 := F3.fresh (o := .dK []) hD (Nat.zero_le _)
  refine ⟨fun i m H => m = xs.length - i ∧ i ≤ xs.length ∧ ∃ B acc l, Frm ((A.and B1).add D (.dK acc)) (L2.wipe σ vs) H B Γ1 ∧ Paired (DRel ky rv B) acc l ∧ acc.length ≤ i ∧ compD f (xs.drop i) l = some ys, ?_, ?_⟩
  · exact ⟨_, rfl, Nat.zero_le _, B1, [], [], F4, .nil, Nat.le_refl _, by rw [List.drop_zero]; exact e⟩
  · rintro i m H2 ⟨rfl, hil, B3, acc, l, F5, pa, hacc, e2⟩
    by_cases hlt : i < xs.length
    · right
      have hx : xs[i]? = some xs[i] := List.getElem?_eq_getElem hlt
      rw [List.drop_eq_getElem_cons hlt] at e2
      refine ⟨Y.go i H2 B3 F5.ph.2 F5.bh hlt, fun H3 => ∃ B acc l, Frm ((A.and B1).add D (.dK acc)) (L2.wipe σ vs) H3 B Γ1 ∧ Paired (DRel ky rv B) acc l ∧ acc.length ≤ i + 1 ∧ compD f (xs.drop (i + 1)) l = some ys, fun H3 h3 => ⟨_, by omega, rfl, by omega, h3⟩, fun v H3 hy => ?_⟩
      obtain ⟨B4, F6, sB4, k4⟩ := Y.yld i _ H2 B3 v H3 F5.ph.2 F5.bh hx hy _ _ _ F5
      refine hg _ _ H3 B4 v xs[i] F6 k4 _ fun σ4 F7 hl4 d4 => ⟨wipe_wipe hl4 fun k hk => d4 k fun z => hk (hw k z), ?_⟩
      have hwp := wipe_wipe hl4 fun k hk => d4 k fun z => hk (hw k z)
      have mono : ∀ {B B' : Hp}, Same B B' → Paired (DRel ky rv B) acc l → Paired (DRel ky rv B') acc l := fun s h => Paired.imp2 (fun _ _ q => ⟨q.1, rv.mono s q.2⟩) h
      unfold compD at e2
      cases q2 : f xs[i] with
      | none => rw [q2] at e2; cases e2
      | some o =>
        rw [q2] at e2
        obtain ⟨hT, hE⟩ := hb _ _ q2
        refine hT _ _ _ _ F7 _ fun H5 B5 F8 sB5 => ?_
        cases o with
        | none =>
          have F9 := F8.wipe vs
          rw [hm, hwp] at F9
          exact ⟨B5, acc, l, F9, mono (sB4.trans sB5) pa, by omega, e2⟩
        | some y =>
          obtain ⟨hK, hV⟩ := hE y rfl
          refine hK _ _ _ _ F8 _ fun u H6 B6 F9 sB6 k6 => hV _ _ _ _ F9 _ fun u2 H7 B7 F10 sB7 k7 => ?_
          have hid := F10.hid (A := A.and B1) h0D F.mh.and
          refine ⟨acc, ky.key y.1, ky.ok k6, hid, Nat.lt_of_lt_of_le (Nat.lt_of_le_of_lt hacc hlt) Y.len, ?_⟩
          have F11 := F10.wipe vs
          rw [hm, hwp] at F11
          have pa2 := put_pair ky (k := y.1) k7 (mono (((sB4.trans sB5).trans sB6).trans sB7) pa)
          have len2 : (putK acc (ky.key y.1) u2).length ≤ i + 1 := by
            rw [Paired.len pa2]
            have h1 := putM_len l y.1 y.2
            have h2 := Paired.len pa
            omega
          have F12 := F11.hidset (A := A.and B1) (o' := .dK (putK acc (ky.key y.1) u2)) h0D F.mh.and F.sub (Nat.le_trans len2 (Nat.le_trans hlt Y.len))
          exact ⟨B7, _, _, F12, pa2, len2, e2⟩
    · left
      have hil : i = xs.length := by omega
      subst hil
      refine ⟨Y.stop H2 B3 F5.ph.2 F5.bh, ?_⟩
      rw [List.drop_length] at e2
      unfold compD at e2
      cases e2
      have F6 := F5.unwipe hv
      have F7 : Frm ((A.add D (.dK acc)).and B1) σ H2 B3 _ := F6
      exact q D (.dK acc) H2 B3 F7.unand h0D (sB1.trans F5.ph.2) ⟨acc, rfl, pa⟩
/-! ### what is in a dict -/
theorem ob_dic (ky : Ky rk) {B H : Hp} {u : V} {l : List (κ × β)} (s : Same B H) (h : (rOb (cDic ky rv)).rel B u l) : ∃ p kvs, u = .ref p ∧ H p = some (.dK kvs) ∧ Paired (DRel ky rv B) kvs l := by
  obtain ⟨p, o, e, hp, kvs, rfl, k⟩ := h
  exact ⟨p, kvs, e, s _ _ hp, k⟩
theorem some_get (ky : Ky rk) {H : Hp} {k : κ} {kvs : List (L2.Key × V)} {l : List (κ × β)} (h : Paired (DRel ky rv H) kvs l) : (valV kvs (ky.key k)).isSome = (getM l k).isSome := by
  obtain ⟨h1, h2⟩ := get_pair ky k h
  cases q : getM l k with
  | none => rw [h2 q]; rfl
  | some b => obtain ⟨v, e, _⟩ := h1 b q; rw [e]; rfl
theorem ev_din (ky : Ky rk) {k : κ} {l : List (κ × β)} (hk : EvX rk tk Γ Γ1 k) (hd : EvX (rOb (cDic ky rv)) ta Γ1 Γ2 l) : EvX rBool (tDIn tk ta) Γ Γ2 ((getM l k).isSome) := fun A σ H B F Q q =>
  hk A σ H B F _ fun y H1 B1 F1 s1 k1 => hd A σ H1 B1 F1 _ fun x H2 B2 F2 s2 k2 => by
    obtain ⟨p, kvs, rfl, hp, kp⟩ := ob_dic ky F2.bh k2
    refine ⟨p, _, rfl, ?_, q _ _ _ F2 (s1.trans s2) (by show V.bl _ = V.bl _; rw [some_get ky kp])⟩
    rw [ky.ok k1]
    exact DGet.k hp
theorem ev_dnin (ky : Ky rk) {k : κ} {l : List (κ × β)} (hk : EvX rk tk Γ Γ1 k) (hd : EvX (rOb (cDic ky rv)) ta Γ1 Γ2 l) : EvX rBool (tDNotIn tk ta) Γ Γ2 (!(getM l k).isSome) := fun A σ H B F Q q =>
  hk A σ H B F _ fun y H1 B1 F1 s1 k1 => hd A σ H1 B1 F1 _ fun x H2 B2 F2 s2 k2 => by
    obtain ⟨p, kvs, rfl, hp, kp⟩ := ob_dic ky F2.bh k2
    refine ⟨p, _, rfl, ?_, q _ _ _ F2 (s1.trans s2) (by show V.bl _ = V.bl _; rw [some_get ky kp])⟩
    rw [ky.ok k1]
    exact DGet.k hp
theorem ev_dget (ky : Ky rk) {k : κ} {l : List (κ × β)} {b : β} (hd : EvX (rOb (cDic ky rv)) ta Γ Γ1 l) (hk : EvX rk tk Γ1 Γ2 k) (e : getM l k = some b) : EvX rv (tDGet ta tk) Γ Γ2 b := fun A σ H B F Q q =>
  hd A σ H B F _ fun x H1 B1 F1 s1 k1 => hk A σ H1 B1 F1 _ fun y H2 B2 F2 s2 k2 => by
    obtain ⟨p, kvs, rfl, hp, kp⟩ := ob_dic ky F2.bh ((rOb (cDic ky rv)).mono s2 k1)
    obtain ⟨v, ev, kv⟩ := (get_pair ky k kp).1 b e
    refine ⟨p, v, rfl, ?_, q _ _ _ F2 (s1.trans s2) kv⟩
    rw [ky.ok k2, ← ev]
    exact DGet.k hp
end
end G

set_option maxHeartbeats 4000000
/-! # G: while with more behind it; small rules by K -/
namespace G
variable [TabL]
open PySem PySem.Spec PyProof.Rows L2
section
variable {ρ ς : Type} {Γ : List Sl} {A : Amb} {ψ : ρ → Hp → Hp → V → Prop} {tt : TT} {tb u : TS} {D : Ends} {X : Cx} {K : PySem.W.Frag} {wd : World}
theorem sq_while (c : ς → Option Bool) (f : ς → Option (Step ρ ς)) (mk : ς → List Sl) {s0 : ς} {R0 : Step ρ ς} {n : Nat}
    (e : whL c f n s0 = some R0) (h0 : Nx A (Fin A (mk s0)) Γ) (ht : ∀ s b, c s = some b → EvT tt (mk s) (mk s) b)
    (hb : ∀ (D' : Ends) (s : ς) (st : Step ρ ς), f s = some st → Conts A ψ D' mk st → Nx A (tb D') (mk s))
    (hr : ∀ b, R0 = .ret b → Rt A ψ b D.rt) (hd : ∀ s, R0 = .nx s → Nx A (u D) (mk s)) : Nx A (tSeq (tWhile tt tb) u D) Γ := nx_while (D := { D with nx := u D }) c f mk e h0 ht (fun D' s st _ h k => hb D' s st h k) hr hd
theorem sortedSetK (hw : X.w = wd) (hc : X.calm = true) : CallR X (.builtin "sorted") (rSortedSet wd) := by subst hw; exact cr_sortedSet hc
end
end G

set_option maxHeartbeats 4000000
/-! # G: defaults; tuples that may be the text's own -/
namespace G
variable [TabL]
open PySem PySem.Spec PyProof.Rows L2
theorem _root_.L2.Room.units1 {k : Nat} {A : Around} (r : L2.Room k A) : A.units + 1 < cLine := by have := r.units; omega
def rTK {α : Type} (K : PySem.W.Frag) (r : Rp α) : Rp (List α) := ⟨fun H v xs => ∃ p vs, v = .ref p ∧ SqT K H p vs ∧ vs.length ≤ sizeLine ∧ Paired (r.rel H) vs xs, fun s ⟨p, vs, e, h, l, k⟩ => ⟨p, vs, e, Same.seqT s h, l, Paired.monoR s k⟩⟩
/-- what the defaults add to the written arguments -/
def DApp {α γ : Type} (w0 : Rw α) (dvs : List V) (w : Rw γ) (f : α → γ) : Prop := ∀ B vs a, w0.rel B vs a → w.rel B (vs ++ dvs) (f a)
section
variable {α β γ δ : Type} {r : Rp α} {rb : Rp β} {w0 : Rw α} {w : Rw γ} {wd : Rw δ} {dvs : List V} {Γ Γ1 : List Sl} {te : TE} {ta : TA} {K : PySem.W.Frag} {xs : List α} {a : α} {b : β} {C : Addr} {names : List Str}
theorem dapp_0 {d : δ} (h : ∀ B, wd.rel B dvs d) : DApp G.w0 dvs wd (fun _ => d) := fun B vs a e => by
  rw [show vs = [] from e]; exact h B
theorem dapp_1 {d : δ} (h : ∀ B, wd.rel B dvs d) : DApp (w1 r) dvs (wC r wd) (fun a => (a, d)) := fun B vs a ⟨v, e, k⟩ => ⟨v, dvs, by rw [e]; rfl, k, h B⟩
theorem dapp_C {f : α → γ} {rr : Rp β} (h : DApp w0 dvs w f) : DApp (wC rr w0) dvs (wC rr w) (fun a => (a.1, f a.2)) := fun B vs a ⟨v, t, e, k, k2⟩ => ⟨v, t ++ dvs, by rw [e]; rfl, k, h B t a.2 k2⟩
theorem tk_nil {e : Addr} {o : Obj} {n : Nat} (h : K.lookup e = some o) (hc : o.cls = .type "tuple") (hd : o.data = .seq #[] n) (B : Hp) : (w1 (rTK K r)).rel B [V.ref e] [] := ⟨_, rfl, e, [], rfl, .inr ⟨o, #[], n, h, hc, hd, Nat.zero_le _, .nil⟩, Nat.zero_le _, .nil⟩
/-- the text's empty tuple -/
def EmpT (K : PySem.W.Frag) (e : Addr) : Prop := ∃ (o : Obj) (n : Nat), K.lookup e = some o ∧ o.cls = .type "tuple" ∧ o.data = .seq #[] n
theorem tkE {e : Addr} (h : EmpT K e) (B : Hp) : (w1 (rTK K r)).rel B [V.ref e] [] := by
  obtain ⟨o, n, h1, h2, h3⟩ := h
  exact tk_nil h1 h2 h3 B
theorem ev_tk (h : EvX (rTpl r) te Γ Γ1 xs) : EvX (rTK K r) te Γ Γ1 xs := fun A σ H B F Q q => h A σ H B F Q fun v H' B' F' s k => q v H' B' F' s (by
  obtain ⟨p, o, rfl, hp, vs, rfl, kp⟩ := k
  exact ⟨p, vs, rfl, SqT.of hp, F'.sz _ _ (F'.bh _ _ hp), kp⟩)
theorem it_tk (h : EvX (rTK K r) te Γ Γ1 xs) : ItX r (iTup K te) Γ Γ1 xs := fun A σ H B F R q => h A σ H B F _ fun v H' B' F' s k => by
  obtain ⟨p, vs, rfl, hp, hl, kp⟩ := k
  refine ⟨p, rfl, ⟨vs, Same.seqT F'.bh hp⟩, q _ H' B' F' s ⟨by rw [← Paired.len kp]; exact hl, fun H2 B2 s1 s2 => ?_, fun i H2 B2 s1 s2 hi => ?_, fun i x H2 B2 v H3 s1 s2 hx hy A σ Γ F => ?_⟩⟩
  · exact ⟨vs, Same.seqT s2 (Same.seqT s1 hp), by rw [Paired.len kp]; exact Nat.le_refl _⟩
  · obtain ⟨y, hy⟩ : ∃ y, vs[i]? = some y := ⟨_, List.getElem?_eq_getElem (by rw [Paired.len kp]; exact hi)⟩
    exact ⟨vs, y, Same.seqT s2 (Same.seqT s1 hp), hy⟩
  · obtain ⟨rfl, hv⟩ := hy
    obtain ⟨y, hy, ky⟩ := Paired.getR kp hx
    have e := hv vs (Same.seqT s2 (Same.seqT s1 hp))
    rw [hy] at e; cases e
    exact ⟨B2, F, Same.refl _, r.mono s1 ky⟩
/-- a class is called, some parameters by their defaults -/
theorem ev_makeD {wb : Rw β} {f : α → γ} {m : γ → Option β} {E : XK} (h : EvW w0 ta Γ Γ1 a) (d : DApp w0 dvs w f) (e : m (f a) = some b) : EvX (rIns C names wb) (tMake C (SpJ C w (cIns C names wb) m) dvs E ta) Γ Γ1 b := fun A σ H B F Q q => h A σ H B F _ fun vs H1 B1 F1 s1 k1 => by
  intro y dy hy hd ne
  obtain ⟨p1, p2, p3, p4⟩ := made_pre (C := C) F1 hy hd ne
  refine ⟨y, dy, vs ++ dvs, upd B1 dy (.own y), f a, b, rfl, upd_same, p3, p1, p2, w.mono p4 (d B1 vs a k1), e, fun H2 B2 P ⟨o, ho, k⟩ => ⟨rfl, ?_⟩⟩
  have F2 := made_frame (A := A) F1 hy hd ne P ho
  have F3 := F2.adopt (F1.H0none hy) F1.sub F1.mh
  have hB2 : B2 y = none := P.out y (by show upd (upd H1 dy (.own y)) y (.ins C dy []) y ≠ none; rw [upd_same]; simp) p3.1
  have s3 : Same B2 (upd B2 y o) := fun q u e => by rw [upd_ne (ne_of_none e hB2)]; exact e
  exact q _ _ _ F3 (s1.trans (p4.trans (P.b0.trans s3))) ⟨y, o, rfl, upd_same, (cIns C names wb).mono s3 k⟩
end
section
variable {P : Program} {w : World} {K : PySem.W.Frag} {mg : Str → Option Value} {base : Heap} {x qual : Str} {params : Arguments} {body : List Stmt} {scope : Scope} {dvs : List V} {kws : List (Str × V)} {f : Addr} {fd : FuncData}
theorem funD_okN {N ps : List Str} {k : Nat} {sp : Sp} (F : FunD K x qual params body scope dvs kws f fd) (S : FnScope N ps scope) (len : ∀ vs H Q E, sp vs H Q E → vs.length = ps.length)
    (hbody : ∀ (cdv : Value) (A : Around) (outer : List Env) (s : Shared) (H : Hp) (vs : List V) (Q : VK) (E : XK), Room k (A.deeper (envOfC qual scope s.heap.objs.size f cdv)) → sp vs H Q E →
      ∃ t, PSs (cxOf CX0 P w K mg base N qual scope f cdv A outer s H E).nox body t ∧ t { nx := fun _ H' => Q .non H', rt := Q } (start N vs) H) : FnOk P w K mg base CX0 (k + 1) f fd ps sp :=
  F.ok S len fun cdv A outer s H vs Q E hr h => by
    obtain ⟨t, h1, h2⟩ := hbody cdv A outer s H vs Q E hr h
    exact ⟨t, h1.nox, h2⟩
end
end G

set_option maxHeartbeats 4000000
/-! # G: isinstance of a caught error; calls that may raise as statements; join -/
namespace G
variable [TabL]
open PySem PySem.Spec PyProof.Rows L2
/-- isinstance(e, c), e the error that the suite holds, its fields in the dict d -/
def rIsX (K : PySem.W.Frag) (C a : Addr) (d : Option Addr) : List V → Hp → VK → Prop := fun xs H Q => ∃ (c : V) (cv : Value) (b : Bool) (dd : Addr) (fs : List (Str × V)), xs = [.ref a, c] ∧ ClsV c cv ∧ PySem.W.kitOne K (.ref C) cv = some b ∧ d = some dd ∧ H dd = some (.xd fs) ∧ Q (.bl b) H
theorem call_isX {X : Cx} {K : PySem.W.Frag} {a D : Addr} {d : Option Addr} {oe : Obj} {pn : List (Addr × Obj)} (hK : X.K = K) (C : ExcC K D) (hz : Zc (.ref D) d oe) (hf : ∃ vs, oe.data = .fields vs) : CallR (X.suite a ((a, oe) :: pn)) (.builtin "isinstance") (rIsX K D a d) := by
  subst hK
  intro pins s σ H xs us Q I r h
  obtain ⟨c, cv, b, dd, fs, rfl, hcv, e, rfl, hdd, q⟩ := h
  cases r with
  | cons rx rr =>
    cases rr with
    | cons rt rr =>
      cases rr
      cases rx
      obtain rfl := ClsV.eq hcv rt
      obtain ⟨hget, _⟩ := I.pin (a, oe) (List.mem_append.mpr (.inl List.mem_cons_self))
      obtain ⟨vs, hv⟩ := hf
      have hx : ObjOk X.prog X.w H s.heap dd (.xd fs) := I.hok dd _ hdd
      obtain ⟨mA, hns, hr⟩ := hx
      obtain ⟨od, ho, hl⟩ := lookIn_ns hns
      have J : PySem.W.InstAt s.heap a oe D (some od) := ⟨hget, hz.1, by unfold PySem.W.notCls; rw [hv] <;> rfl, by rw [hz.2]; exact ho⟩
      have hcl : (PySem.W.clsIn X.K D).isSome = true := by
        have h1 := C.hd
        unfold PySem.W.hasDictIn at h1
        cases q : PySem.W.clsIn X.K D with
        | none => rw [q] at h1; cases h1
        | some cd => rfl
      exact PySem.W.kia_one (PySem.W.kitx_exc hcl C.hg C.hk C.hs C.ha C.hn C.ht C.hm) I.kIn J e (fun z => nomatch z) fun tk => ⟨.bl b, H, I.kept (t' := tk) fun _ _ z => z, rfl, q⟩
section
variable {α β γ ε : Type} {r : Rp β} {w : Rw α} {Γ Γ1 : List Sl} {te : TE} {ta : TA} {K : PySem.W.Frag} {a : α} {b : β} {C : Addr} {names : List Str} {A : Amb} {D : Ends} {u : TS} {R : ER ε} {i : Nat}
theorem ev_isX {p : Addr} {d : Option Addr} {c : V} {cv : Value} {k : Bool} (h : EvX (rExc p d C names w) te Γ Γ1 a) (hc : ClsV c cv) (kit : PySem.W.kitOne K (.ref C) cv = some k) : EvX rBool (tCB (rIsX K C p d) (tCons te (tCons (tC c) tNil))) Γ Γ1 k := fun A σ H B F Q q =>
  h A σ H B F _ fun v H1 B1 F1 s1 ⟨e, _, dd, fs, vs, h2, h3, h4, h5⟩ => by
    subst e
    exact ⟨c, cv, k, dd, fs, rfl, hc, kit, h2, F1.bh _ _ h3, q _ H1 B1 F1 s1 rfl⟩
theorem sq_dropSm {W : WX} {m : α → Option (Res ε β)} {x : Res ε β} {k : β → Option γ} {l : ε → Option γ} {z : γ} (h : EvW w ta Γ Γ1 a) (e : m a = some x) (q : resX x k l = some z)
    (ko : ∀ y, k y = some z → Nx A (u D) Γ1) (ke : ∀ y, l y = some z → NxE W A Γ1 R y) : Nx A (tSeq (tDrop (tSm (SpX R w r m) (WE W) ta)) u D) Γ :=
  sq_dropR (tf := fun E => tSm (SpX R w r m) E ta) (er_sm h e) q ko ke
theorem sq_asgSm {W : WX} {m : α → Option (Res ε β)} {x : Res ε β} {k : β → Option γ} {l : ε → Option γ} {z : γ} (h : EvW w ta Γ Γ1 a) (e : m a = some x) (q : resX x k l = some z)
    (ko : ∀ y, k y = some z → Nx A (u D) (Γ1.set i (.imm r y))) (ke : ∀ y, l y = some z → NxE W A Γ1 R y) : Nx A (tSeq (tAsg (tSm (SpX R w r m) (WE W) ta) (gName i)) u D) Γ :=
  sq_asgR (tf := fun E => tSm (SpX R w r m) E ta) (er_sm h e) q ko ke
def okR (x : Res ε β) : Option β := match x with
  | .ok b => some b
  | .er _ => none
@[simp] theorem okR_ok (b : β) : okR (.ok b : Res ε β) = some b := rfl
theorem okR_eq {x : Res ε β} {b : β} (h : okR x = some b) : x = .ok b := by
  cases x with
  | ok y => cases h; rfl
  | er e => cases h
theorem ev_smOk {m : α → Option (Res ε β)} {x : Res ε β} {E : L2.St → XK} (h : EvW w ta Γ Γ1 a) (e : m a = some x) (o : okR x = some b) : EvX r (tSm (SpX R w r m) E ta) Γ Γ1 b := ev_ok (tf := fun E => tSm (SpX R w r m) E ta) (er_sm h e) (okR_eq o) E
/-! ### join -/
def pyJoin (z : Str) (ys : List Str) : Option Str := if (ys.map (·.length)).sum + ys.length * z.length ≤ 16777216 then some (Txt.join z ys) else none
theorem ev_join {z o : Str} {ys : List Str} {tz : TE} {Γ2 : List Sl} (hz : EvX rStr tz Γ Γ1 z) (hy : EvX (rLst rStr) te Γ1 Γ2 ys) (e : pyJoin z ys = some o) :
    EvX rStr (tM1 (fun x xs H Q => ∃ a p, ∃ ys : List Str, x = .str a ∧ xs = [.ref p] ∧ (SqL K H p (ys.map V.str) ∨ SqT K H p (ys.map V.str)) ∧ (ys.map (·.length)).sum + ys.length * a.length ≤ 16777216 ∧ Q (.str (Txt.join a ys)) H) tz te) Γ Γ2 o := fun A σ H B F Q q => by
  unfold pyJoin at e
  split at e
  · rename_i hl
    cases e
    refine hz A σ H B F _ fun v H1 B1 F1 s1 k1 => ⟨⟨z, k1⟩, hy A σ H1 B1 F1 _ fun v2 H2 B2 F2 s2 k2 => ?_⟩
    obtain ⟨p, vs, rfl, hp, k⟩ := ob_lst F2.bh k2
    exact ⟨z, p, ys, k1, rfl, .inl (by rw [show ys.map V.str = vs from (fl_str.vals k).symm]; exact SqL.of hp), hl, q _ _ _ F2 (s1.trans s2) rfl⟩
  · cases e
theorem pe_joinK {X : Cx} {o e : Expr} {to te : TE} {apos pos : Pos} (hK : X.K = K) (h : PE X (.Call (.Attribute o "join" apos) [e] [] pos) (tM1 (fun x xs H Q => ∃ a p, ∃ ys : List Str, x = .str a ∧ xs = [.ref p] ∧ (SqL X.K H p (ys.map V.str) ∨ SqT X.K H p (ys.map V.str)) ∧ (ys.map (·.length)).sum + ys.length * a.length ≤ 16777216 ∧ Q (.str (Txt.join a ys)) H) to te)) :
    PE X (.Call (.Attribute o "join" apos) [e] [] pos) (tM1 (fun x xs H Q => ∃ a p, ∃ ys : List Str, x = .str a ∧ xs = [.ref p] ∧ (SqL K H p (ys.map V.str) ∨ SqT K H p (ys.map V.str)) ∧ (ys.map (·.length)).sum + ys.length * a.length ≤ 16777216 ∧ Q (.str (Txt.join a ys)) H) to te) := by subst hK; exact h
end
end G

set_option maxHeartbeats 4000000
/-! # G: range with ends of any size, two comparisons, the type of an instance, max and min with default=None -/
namespace G
variable [TabL]
open PySem PySem.Spec PyProof.Rows L2
section
variable {X : Cx} {K : PySem.W.Frag} {tg : Expr}
theorem turn_lng {P : Program} {w : World} (it : Addr) (lo : Int) (n : Nat) : Turn P w K tg (Itr lo n) [it] it (fun i h => IsLongIter h it (lo + (i : Nat) * 1) ((n : Int) - (i : Nat)) 1) where
  mem := List.mem_singleton.mpr rfl
  obj := fun i h st b hb => by
    cases List.mem_singleton.mp hb
    exact ⟨_, st, fun v z => by
      have y : Data.fields _ = Data.cell v := z
      cases y⟩
  keep := fun i h h' st k => k it (List.mem_singleton.mpr rfl) _ st
  item := by
    intro Y hP hw hK hc i pins s σ H E I hf st hg
    subst hP hw hK
    obtain ⟨f0, f1, _, f3, f4, f5⟩ := hf it (List.mem_singleton.mpr rfl)
    have W := Walks.longrange (prog := Y.prog) (w := Y.w) (I.ok.hd hc) it lo 1 n
    refine W.item i s _ _ hg st fun v h' tk hv st2 kk => ?_
    obtain ⟨t, rfl⟩ := hv
    have I1 : Inv Y pins σ H { s with heap := h', toks := tk } := I.turned (fun b o hb e => kk b o (by simpa using hb) e) f0 f1 f3 f4 f5
    refine ⟨_, rfl, go_of (s := { s with heap := h', toks := tk }) (n := "longrange_iterator") st2 rfl rfl (by decide) ⟨.int (lo + i), H, I1, ⟨t, ?_⟩, ⟨rfl, rfl⟩, st2, fun b hb => (hf b hb).1⟩⟩
    rw [Int.mul_one]
  done := by
    intro Y hP hw hK hc i pins s σ H E I hf st hg
    subst hP hw hK
    obtain ⟨f0, f1, _, f3, f4, f5⟩ := hf it (List.mem_singleton.mpr rfl)
    exact wpAny_pyNext_long_end (I.ok.hd hc) st (by have : n ≤ i := hg; omega) fun h' eb => ⟨rfl, I.turned (t' := s.toks) (fun b o hb e => eb b o hb e) f0 f1 f3 f4 f5⟩
  self := fun _ _ _ _ _ st h => wpAny_pyIter_longiter st h
theorem rng_any {pins : List (Addr × Obj)} {σ : L2.St} {H : Hp} {s : Shared} {R : It → Hp → Prop} {E : Value → Shared → Prop} {lo hi : Int} {t u v : Tok} {tk : Nat} (I : Inv X pins σ H s)
    (q : R (Itr lo (hi - lo).toNat) H) : wpAny (model X.prog X.w) X.A (pyIter (.ref s.heap.objs.size)) (PIE X pins σ tg R) E { s with heap := s.heap.push { cls := .type "range", data := .fields #[.int lo t, .int hi u, .int 1 v] }, toks := tk } := by
  have I1 : Inv X pins σ H { s with heap := s.heap.push { cls := .type "range", data := .fields #[.int lo t, .int hi u, .int 1 v] }, toks := tk } := I.kept fun b o e => Heap.get?_push_of_some _ e
  have e1 : lo + ((0 : Nat) : Int) * 1 = lo := by simp
  have e2 : (((hi - lo).toNat : Nat) : Int) - ((0 : Nat) : Int) = Builtin.Range.rangeSize lo hi 1 := by rw [rangeSize_one]; split <;> omega
  cases hs : Builtin.Range.small lo hi 1 with
  | true =>
    refine wpAny_pyIter_range (IsRange.new ..) hs ?_
    refine ⟨(s.heap.push { cls := .type "range", data := .fields #[.int lo t, .int hi u, .int 1 v] }).objs.size, [(s.heap.push { cls := .type "range", data := .fields #[.int lo t, .int hi u, .int 1 v] }).objs.size], _, _, H, rfl, I1.kept (t' := tk) fun b o e => Heap.get?_push_of_some _ e, turn_range _ lo (hi - lo).toNat, ?_, fun b hb => ?_, q⟩
    · show IsRangeIter _ _ (lo + ((0 : Nat) : Int) * 1) ((((hi - lo).toNat : Nat) : Int) - ((0 : Nat) : Int)) 1
      rw [e1, e2]; exact Heap.get?_push_size _ rfl
    · cases List.mem_singleton.mp hb
      exact I1.fpOk (Nat.le_refl _) (I1.hok.fresh (Nat.le_refl _))
  | false =>
    refine wpAny_pyIter_longrange (IsRange.new ..) hs ?_
    refine ⟨(s.heap.push { cls := .type "range", data := .fields #[.int lo t, .int hi u, .int 1 v] }).objs.size, [(s.heap.push { cls := .type "range", data := .fields #[.int lo t, .int hi u, .int 1 v] }).objs.size], _, _, H, rfl, I1.kept (t' := tk) fun b o e => Heap.get?_push_of_some _ e, turn_lng _ lo (hi - lo).toNat, ?_, fun b hb => ?_, q⟩
    · show IsLongIter _ _ (lo + ((0 : Nat) : Int) * 1) ((((hi - lo).toNat : Nat) : Int) - ((0 : Nat) : Int)) 1
      rw [e1, e2]; exact Heap.get?_push_size _ rfl
    · cases List.mem_singleton.mp hb
      exact I1.fpOk (Nat.le_refl _) (I1.hok.fresh (Nat.le_refl _))
theorem pi_listK {l : Expr} {tl : TE} (h : X.K = K) (hl : PE X l tl) : PI X tg l (iList K tl) := by subst h; exact pi_list hl
theorem pi_tupK {l : Expr} {tl : TE} (h : X.K = K) (hl : PE X l tl) : PI X tg l (iTup K tl) := by subst h; exact pi_tup hl
def iRng3 (ta : TA) : TI := fun σ H R => ta σ H fun vs H1 => ∃ i j : Int, vs = [.int i, .int j] ∧ R (Itr i (j - i).toNat) H1
theorem pi_range3 {a b : Expr} {ta : TA} {p pos : Pos} (hg : Gl X "range") (hm : X.mg "range" = none) (ha : PA X [a, b] ta) (hs : starEach [a, b] X.env = [(false, eval a X.env), (false, eval b X.env)] := by rfl) (hs2 : starEach [b] X.env = [(false, eval b X.env)] := by rfl) : PI X tg (.Call (.Name "range" p) [a, b] [] pos) (iRng3 ta) := by
  refine ⟨fun pins s σ H R I h => ?_⟩
  refine Call_ (ld_blt I hg hm boot_range (PyProof.Rows.callWith_type1 (thn (ha.run pos pins s σ H _ I h) fun us s1 ⟨vs, H1, I1, r1, q1⟩ => ?_) (by rw [hs, hs2]) (by rw [hs2]; rfl)))
  obtain ⟨i, j, e, q⟩ := q1
  subst e
  cases r1 with
  | cons r rr =>
    cases rr with
    | cons r2 rr =>
      cases rr
      obtain ⟨t, rfl⟩ := r
      obtain ⟨u, rfl⟩ := r2
      exact call_range_2 (rng_any I1 q)
end
section
variable {α β γ : Type} {r ra : Rp α} {rb : Rp β} {te ta tb tc : TE} {Γ Γ1 Γ2 : List Sl} {K : PySem.W.Frag} {w : Rw α} {C : Addr} {names : List Str}
def pyRng3 (i j : Int) : Option (List Int) := if j - i ≤ 1000000 then some (rng i (j - i).toNat) else none
theorem it_rng3 {ta : TA} {i j : Int} {l : List Int} (h : EvW (wC rInt (w1 rInt)) ta Γ Γ1 (i, j)) (e : pyRng3 i j = some l) : ItX rInt (iRng3 ta) Γ Γ1 l := fun A σ H B F R q => h A σ H B F _ fun vs H' B' F' s k => by
  obtain ⟨v, t, rfl, rfl, u, rfl, rfl⟩ := k
  unfold pyRng3 at e
  split at e
  · rename_i hj
    cases e
    exact ⟨i, j, rfl, q _ H' B' F' s (yl_rng (by omega))⟩
  · cases e
/-! ### two comparisons of whole numbers -/
theorem nomark2 {op op' : CmpOp} (b c : Expr) (h : op' ≠ .In := by decide) (h2 : op' ≠ .NotIn := by decide) : lastMarks [op, op'] [b, c] = false := nomark c h h2
theorem ch_I {f : Int → Int → Bool} {i j : Int} {H B : Hp} {u v : V} (ku : rInt.rel B u i) (kv : rInt.rel B v j) {Q : VK} (q : Q (.bl (f i j)) H) : rI0 (fun i j => .bl (f i j)) u v H Q := ⟨i, j, ku, kv, q⟩
theorem ev_chI {f g : Int → Int → Bool} {i j k : Int} (ha : EvX rInt ta Γ Γ1 i) (hb : EvX rInt tb Γ1 Γ2 j) (hc : EvX rInt tc Γ2 Γ2 k) : EvX rBool (tChain (rI0 (fun i j => .bl (f i j))) (rI0 (fun i j => .bl (g i j))) ta tb tc) Γ Γ2 (f i j && g j k) :=
  ev_chain ha hb (fun _ => hc) (fun H B u v _ ku kv Q q => ch_I ku kv q) fun _ H B u v _ ku kv Q q => ch_I ku kv q
theorem ev_chO {f g : Int → Int → Bool} {i j : Int} {b1 b : Bool} (ha : EvX rInt ta Γ Γ1 i) (hb : EvX rInt tb Γ1 Γ2 j) (e1 : f i j = b1) (hc : b1 = true → ∃ k, EvX rInt tc Γ2 Γ2 k ∧ b = g j k) (hf : b1 = false → b = false) : EvX rBool (tChain (rI0 (fun i j => .bl (f i j))) (rI0 (fun i j => .bl (g i j))) ta tb tc) Γ Γ2 b := by
  cases b1 with
  | true =>
    obtain ⟨k, hk, rfl⟩ := hc rfl
    have h := ev_chI (f := f) (g := g) ha hb hk
    rw [e1, Bool.true_and] at h
    exact h
  | false =>
    rw [hf rfl]
    exact ev_chain (b1 := false) (b2 := false) (rc := rInt) (z := 0) ha hb (fun h => nomatch h) (fun H B u v _ ku kv Q q => ch_I (f := f) ku kv (by rw [e1]; exact q)) (fun h => nomatch h)
/-! ### the type of an instance -/
structure ClsT (K : PySem.W.Frag) (C : Addr) : Prop where
  cl : Cls K C
  ca : PySem.W.findIn K (.ref C) "__class__" = some (some (.builtin "object.__class__"))
  cn : PySem.W.specialIn K (.builtin "object.__class__") "__get__" = some (some (.builtin "getset_descriptor.__get__"))
  ct : PySem.W.takesIn K (.builtin "object.__class__") = some true
  cm : PySem.W.mroIn K C (.type "object") = some true
theorem ty_ins (k : ClsT K C) : TyR K (rIns C names w) (.ref C) := fun H v a h => by
  obtain ⟨p, dx, vs, rfl, hp, _, _⟩ := ob_ins (Same.refl H) h
  exact .base (.ins hp k.cl k.ca k.cn k.ct k.cm)
/-! ### max(xs, default=None), min -/
def pyMaxN : List Int → Option Int
  | [] => none
  | n :: t => some (t.foldl max n)
def pyMinN : List Int → Option Int
  | [] => none
  | n :: t => some (t.foldl min n)
def oInt : Option Int → V
  | none => .non
  | some n => .int n
def rMxN (K : PySem.W.Frag) (f : List Int → Option Int) : List V → List V → Hp → VK → Prop := fun xs zs H Q => ∃ a ns, xs = [V.ref a] ∧ zs = [V.non] ∧ SqL K H a (ns.map V.int) ∧ Q (oInt (f ns)) H
theorem max_of (n : Int) (ns : List Int) : PySem.W.maxOf n ns = ns.foldl max n := by
  unfold PySem.W.maxOf
  congr 1
  funext a y
  show (if decide (a < y) = true then y else a) = max a y
  by_cases h : a < y
  · rw [if_pos (by simpa using h)]; omega
  · rw [if_neg (by simpa using h)]; omega
theorem min_of (n : Int) (ns : List Int) : PySem.W.minOf n ns = ns.foldl min n := by
  unfold PySem.W.minOf
  congr 1
  funext a y
  show (if decide (y < a) = true then y else a) = min a y
  by_cases h : y < a
  · rw [if_pos (by simpa using h)]; omega
  · rw [if_neg (by simpa using h)]; omega
theorem holds_ints {h : Heap} : ∀ {ns : List Int} {us : List Value}, Vals (ns.map V.int) us → PySem.W.HoldAll h us ns
  | [], _, .nil => ⟨[], .nil⟩
  | n :: _, _, .cons ⟨t, e⟩ k => by
    subst e
    obtain ⟨as, q⟩ := holds_ints (h := h) k
    exact ⟨_, .cons (.int n t) q⟩
theorem holds_int {h : Heap} {v : Value} {n : Int} (k : PySem.W.Holds h v n) : ∃ t, v = .int n t := by
  obtain ⟨as, q⟩ := k
  cases q
  exact ⟨_, rfl⟩
theorem crk_max {X : Cx} (hK : X.K = K) (hc : X.calm = true) (hu : X.A.units + 64 < cLine) : CallRK X (.builtin "max") ["default"] (rMxN K pyMaxN) := by
  subst hK
  intro pins s σ H xs zs us ws Q I q z h
  obtain ⟨a, ns, rfl, rfl, hs, k⟩ := h
  obtain ⟨its, rv, hl, _⟩ := I.list hs
  rw [Vals.ref1 q]
  have ew : ws = [Value.none] := by
    cases z with
    | cons z1 z2 => cases z2; cases (show _ = Value.none from z1); rfl
  subst ew
  refine PySem.W.max_list_datum_default (α := Int) (I.ok.hd hc) hl.isList (holds_ints rv) (by show X.A.units + 1 + 0 < cLine; omega) (fun e h2 tk hk => ?_) fun y ys i v h2 tk e hi hv hk => ?_
  · subst e
    exact ⟨.non, H, I.kept hk, rfl, k⟩
  · subst e
    obtain ⟨t, rfl⟩ := holds_int hv
    exact ⟨.int _, H, I.kept hk, ⟨t, rfl⟩, by rw [max_of]; exact k⟩
theorem crk_min {X : Cx} (hK : X.K = K) (hc : X.calm = true) (hu : X.A.units + 64 < cLine) : CallRK X (.builtin "min") ["default"] (rMxN K pyMinN) := by
  subst hK
  intro pins s σ H xs zs us ws Q I q z h
  obtain ⟨a, ns, rfl, rfl, hs, k⟩ := h
  obtain ⟨its, rv, hl, _⟩ := I.list hs
  rw [Vals.ref1 q]
  have ew : ws = [Value.none] := by
    cases z with
    | cons z1 z2 => cases z2; cases (show _ = Value.none from z1); rfl
  subst ew
  refine PySem.W.min_list_datum_default (α := Int) (I.ok.hd hc) hl.isList (holds_ints rv) (by show X.A.units + 1 + 0 < cLine; omega) (fun e h2 tk hk => ?_) fun y ys i v h2 tk e hi hv hk => ?_
  · subst e
    exact ⟨.non, H, I.kept hk, rfl, k⟩
  · subst e
    obtain ⟨t, rfl⟩ := holds_int hv
    exact ⟨.int _, H, I.kept hk, ⟨t, rfl⟩, by rw [min_of]; exact k⟩
theorem ev_mxN {f : List Int → Option Int} {ns : List Int} (h : EvX (rLst rInt) te Γ Γ1 ns) : EvX (rOpt rInt) (tCKw (rMxN K f) (tCons te tNil) (tCons (tC .non) tNil)) Γ Γ1 (f ns) := fun A σ H B F Q q =>
  h A σ H B F _ fun v H1 B1 F1 s1 k1 => by
    obtain ⟨p, vs, rfl, hp, kv⟩ := ob_lst F1.bh k1
    refine ⟨p, ns, rfl, rfl, by rw [← Paired.mapEq (fun a b h => h) kv]; exact SqL.of hp, ?_⟩
    refine q _ H1 B1 F1 s1 ?_
    cases f ns with
    | none => rfl
    | some n => exact ⟨rfl, fun z => V.noConfusion z⟩
end
end G

set_option maxHeartbeats 4000000
/-! # G: comprehensions with two fors -/
namespace G
variable [TabL]
open PySem PySem.Spec PyProof.Rows L2
section
variable {α β γ δ : Type} {r : Rp α} {r1 : Rp δ} {rb : Rp β} {Γ Γ1 : List Sl} {xs : List α}
def compL2 (fi : α → Option (List δ)) (g : α → δ → Option (Option β)) : List α → Option (List β)
  | [] => some []
  | x :: xs => bindO (fi x) fun l => bindO (compL (g x) l) fun ys => bindO (compL2 fi g xs) fun zs => some (ys ++ zs)
def comp2 (fi : α → Option (List δ)) (g : α → δ → Option (Option β)) (xs : List α) : Option (List β) := bindO (compL2 fi g xs) fun ys => if ys.length ≤ 1000000 then some ys else none
theorem it_to {wi : TI} {l l2 : List α} (h : ItX r wi Γ Γ1 l) (e : l = l2) : ItX r wi Γ Γ1 l2 := by subst e; exact h
theorem dr_C {w : Rw β} {B : Hp} {v : V} {vs : List V} {a : α} {b : β} (h : r.rel B v a) (k : w.rel B vs b) : (wC r w).rel B (v :: vs) (a, b) := ⟨v, vs, rfl, h, k⟩
theorem rl_none {B : Hp} : (rOpt r).rel B .non none := rfl
theorem line_big {n : Nat} (h : n ≤ 1000000) : n ≤ sizeLine := Nat.le_trans h (by decide)
theorem ec_lc2 {wi wi1 : TI} {g g1 : TG} {tt tt1 : TT} {te : TE} {ws ws1 vs vs1 : List Nat} (fi : α → Option (List δ)) (f : α → δ → Option (Option β)) {Γf : α → List Sl} {Γg : α → δ → List Sl} {ys : List β}
    (hi : ItX r wi Γ Γ1 xs) (e : comp2 fi f xs = some ys) (hg : TgX g r ws (wipeG Γ1 vs) Γf) (hw : ∀ k, k ∈ ws → k ∈ vs) (hv : wipeG Γ1 vs = Γ1) (hm : ∀ x, wipeG (Γf x) vs = Γ1) (ht : ∀ x, EvT tt (Γf x) (Γf x) true)
    (hi1 : ∀ x l, fi x = some l → ItX r1 wi1 (Γf x) (Γf x) l) (hv1 : ∀ x, wipeG (Γf x) vs1 = Γf x) (hg1 : ∀ x, TgX g1 r1 ws1 (wipeG (Γf x) vs1) (Γg x)) (hw1 : ∀ k, k ∈ ws1 → k ∈ vs1) (hm1 : ∀ x y, wipeG (Γg x y) vs1 = Γf x)
    (hb : ∀ (x : α) (y : δ) (o : Option β), f x y = some o → EvT tt1 (Γg x y) (Γg x y) o.isSome ∧ (∀ z, o = some z → EvX rb te (Γg x y) (Γg x y) z)) : EvC (cLst rb) (tLc2 wi g tt wi1 g1 tt1 te vs vs1) Γ Γ1 ys := fun A σ H B F Q q => by
  obtain ⟨ys0, e0, e⟩ := bindO_some e
  split at e
  case isFalse => cases e
  rename_i hlim
  cases e
  refine hi A σ H B F _ fun J H1 B1 F1 sB1 Y => fun D hD => ?_
  have F2 := F1.and (Same.refl B1)
  have h0D : A.H0 D = none := F1.H0none hD
  have hmD : ¬ A.m D := fun m => F.mh.al D m h0D
  have F3 := F2.wipe vs
  rw [hv] at F3
  have F4 := F3.fresh (o := .lst []) hD (Nat.zero_le _)
  refine ⟨fun i m H => m = xs.length - i ∧ i ≤ xs.length ∧ ∃ B acc dn rest, Frm ((A.and B1).add D (.lst acc)) (L2.wipe σ vs) H B Γ1 ∧ Paired (rb.rel B) acc dn ∧ compL2 fi f (xs.drop i) = some rest ∧ dn ++ rest = ys, ?_, ?_⟩
  · exact ⟨_, rfl, Nat.zero_le _, B1, [], [], ys, F4, .nil, by rw [List.drop_zero]; exact e0, rfl⟩
  · rintro i m H2 ⟨rfl, hil, B3, acc, dn, rest, F5, pa, e2, ed⟩
    by_cases hlt : i < xs.length
    · right
      have hx : xs[i]? = some xs[i] := List.getElem?_eq_getElem hlt
      rw [List.drop_eq_getElem_cons hlt] at e2
      unfold compL2 at e2
      obtain ⟨l, el, e2⟩ := bindO_some e2
      obtain ⟨ys1, ey, e2⟩ := bindO_some e2
      obtain ⟨zs, ez, e2⟩ := bindO_some e2
      cases e2
      refine ⟨Y.go i H2 B3 F5.ph.2 F5.bh hlt, fun H3 => ∃ B acc dn rest, Frm ((A.and B1).add D (.lst acc)) (L2.wipe σ vs) H3 B Γ1 ∧ Paired (rb.rel B) acc dn ∧ compL2 fi f (xs.drop (i + 1)) = some rest ∧ dn ++ rest = ys, fun H3 h3 => ⟨_, by omega, rfl, by omega, h3⟩, fun v H3 hy => ?_⟩
      obtain ⟨B4, F6, sB4, k4⟩ := Y.yld i _ H2 B3 v H3 F5.ph.2 F5.bh hx hy _ _ _ F5
      rw [hv] at hg
      refine hg _ _ H3 B4 v xs[i] F6 k4 _ fun σ4 F7 hl4 d4 => ?_
      have hwp := wipe_wipe hl4 fun k hk => d4 k fun z => hk (hw k z)
      refine ⟨hwp, ?_⟩
      refine ht _ _ _ _ _ F7 _ fun H5 B5 F8 sB5 => ?_
      show wi1 _ _ _
      refine hi1 _ l el _ _ _ _ F8 _ fun J1 H6 B6 F9 sB6 Y1 => ?_
      have G1 : Frm (((A.and B1).add D (.lst acc)).and B6) σ4 H6 B6 (Γf xs[i]) := F9.and (Same.refl _)
      have G2 : Frm (((A.and B1).and B6).add D (.lst acc)) σ4 H6 B6 (Γf xs[i]) := G1
      have G3 := G2.wipe vs1
      rw [hv1] at G3
      refine ⟨fun j k H => k = l.length - j ∧ j ≤ l.length ∧ ∃ B acc dn rest, Frm (((A.and B1).and B6).add D (.lst acc)) (L2.wipe σ4 vs1) H B (Γf xs[i]) ∧ Paired (rb.rel B) acc dn ∧ compL (f xs[i]) (l.drop j) = some rest ∧ dn ++ (rest ++ zs) = ys, ?_, ?_⟩
      · exact ⟨_, rfl, Nat.zero_le _, B6, acc, dn, ys1, G3, Paired.monoR ((sB4.trans sB5).trans sB6) pa, by rw [List.drop_zero]; exact ey, ed⟩
      · rintro j k H7 ⟨rfl, hjl, B7, acc, dn, rest, G4, pa, e3, ed⟩
        by_cases hlj : j < l.length
        · right
          have hy : l[j]? = some l[j] := List.getElem?_eq_getElem hlj
          rw [List.drop_eq_getElem_cons hlj] at e3
          refine ⟨Y1.go j H7 B7 G4.ph.2 G4.bh hlj, fun H8 => ∃ B acc dn rest, Frm (((A.and B1).and B6).add D (.lst acc)) (L2.wipe σ4 vs1) H8 B (Γf xs[i]) ∧ Paired (rb.rel B) acc dn ∧ compL (f xs[i]) (l.drop (j + 1)) = some rest ∧ dn ++ (rest ++ zs) = ys, fun H8 h8 => ⟨_, by omega, rfl, by omega, h8⟩, fun v H8 hyy => ?_⟩
          obtain ⟨B8, G5, sB8, k8⟩ := Y1.yld j _ H7 B7 v H8 G4.ph.2 G4.bh hy hyy _ _ _ G4
          have hg1' := hg1 xs[i]
          rw [hv1] at hg1'
          refine hg1' _ _ H8 B8 v l[j] G5 k8 _ fun σ9 G6 hl9 d9 => ?_
          have hwp1 := wipe_wipe hl9 fun k hk => d9 k fun z => hk (hw1 k z)
          refine ⟨hwp1, ?_⟩
          unfold compL at e3
          cases q2 : f xs[i] l[j] with
          | none => rw [q2] at e3; cases e3
          | some o =>
            rw [q2] at e3
            obtain ⟨hT, hE⟩ := hb _ _ _ q2
            refine hT _ _ _ _ G6 _ fun H10 B10 G7 sB10 => ?_
            cases o with
            | none =>
              have G8 := G7.wipe vs1
              rw [hm1, hwp1] at G8
              exact ⟨B10, acc, dn, rest, G8, Paired.monoR (sB8.trans sB10) pa, e3, ed⟩
            | some y =>
              refine hE y rfl _ _ _ _ G7 _ fun u H11 B11 G8 sB11 k11 => ?_
              have hid := G8.hid (A := (A.and B1).and B6) h0D F.mh.and.and
              dsimp only at e3
              cases q3 : compL (f xs[i]) (l.drop (j + 1)) with
              | none => rw [q3] at e3; cases e3
              | some r3 =>
                rw [q3] at e3
                cases e3
                have hlen0 : acc.length + 1 ≤ ys.length := by
                  rw [← ed, Paired.len pa, List.length_append, List.length_append, List.length_cons]; omega
                refine ⟨acc, hid, Nat.lt_of_lt_of_le (Nat.lt_of_succ_le hlen0) (line_big hlim), ?_⟩
                have G9 := G8.wipe vs1
                rw [hm1, hwp1] at G9
                have hlen : (acc ++ [u]).length ≤ sizeLine := by rw [List.length_append, List.length_singleton]; exact Nat.le_trans hlen0 (line_big hlim)
                have G10 := G9.hidset (A := (A.and B1).and B6) (o' := .lst (acc ++ [u])) h0D F.mh.and.and F.sub hlen
                exact ⟨B11, acc ++ [u], dn ++ [y], r3, G10, Paired.app (Paired.monoR ((sB8.trans sB10).trans sB11) pa) (.cons k11 .nil), by first | exact q3 | rfl, by rw [← ed, List.append_assoc]; rfl⟩
        · left
          have hjl : j = l.length := by omega
          subst hjl
          refine ⟨Y1.stop H7 B7 G4.ph.2 G4.bh, ?_⟩
          rw [List.drop_length] at e3
          unfold compL at e3
          cases e3
          have G5 := G4.unwipe (hv1 _)
          have G6 : Frm (((A.and B1).add D (.lst acc)).and B6) σ4 H7 B7 (Γf xs[i]) := G5
          have G7 := G6.unand.wipe vs
          rw [hm, hwp] at G7
          exact ⟨B7, acc, dn, zs, G7, pa, ez, ed⟩
    · left
      have hil : i = xs.length := by omega
      subst hil
      refine ⟨Y.stop H2 B3 F5.ph.2 F5.bh, ?_⟩
      rw [List.drop_length] at e2
      unfold compL2 at e2
      cases e2
      have F6 := F5.unwipe hv
      have F7 : Frm ((A.add D (.lst acc)).and B1) σ H2 B3 _ := F6
      refine q D (.lst acc) H2 B3 F7.unand h0D (sB1.trans F5.ph.2) ⟨acc, rfl, ?_⟩
      rw [List.append_nil] at ed
      rw [← ed]; exact pa
end
end G

set_option maxHeartbeats 4000000
/-! # G: bool of an instance, the frame's own list handed to a def, classes called with keywords -/
namespace G
variable [TabL]
open PySem PySem.Spec PyProof.Rows L2
/-! ### bool(x) -/
section
variable {prog : Program} {w : World} {A : Around} {E : Value → Shared → Prop} {s : Shared} {K : PySem.W.Frag} {x C f : Addr} {ox : Obj} {odd : Option Obj}
theorem truth_own {Q : Bool → Shared → Prop} (X : K.In s.heap) (I : PySem.W.InstAt s.heap x ox C odd) (hs : PySem.W.findIn K (.ref C) "__bool__" = some (some (.ref f))) (hf : PySem.W.isFn K (.ref f) = true)
    (h : wpAny (model prog w) A (call (.ref f) [.ref x]) (PySem.W.BoolBack Q) E s) : wpAny (model prog w) A (truthy (.ref x)) Q E s := by
  unfold truthy
  refine wpAny_bind (m := callSpecial? (.ref x) (Str.ofString "__bool__")) (PySem.W.special_fn X I hs (beq_iff_eq.mp hf) (wpAny_mono h (fun r s' hr => ?_) fun _ _ y => y))
  cases r <;> first | exact hr.elim | skip
  exact wpAny_pure hr
theorem bool_own {Q : Bool → Shared → Prop} (X : K.In s.heap) (I : PySem.W.InstAt s.heap x ox C odd) (hs : PySem.W.findIn K (.ref C) "__bool__" = some (some (.ref f))) (hf : PySem.W.isFn K (.ref f) = true)
    (h : wpAny (model prog w) A.in1.in1 (call (.ref f) [.ref x]) (PySem.W.BoolBack Q) E s) : wpAny (model prog w) A (call (.type "bool") [.ref x]) (fun v s' => ∃ b, v = .bool b ∧ Q b s') E s := by
  refine callType_codes (T := "bool") (Bi := Builtin.«object.__init__») (Q₁ := fun r s₁ => ∃ b, r = Value.bool b ∧ Q b s₁) PySem.F.called_bool (PySem.F.typeCall_bool_1 _) PySem.F.entry_object_init ?_ ?_
  · refine codeAny_of_tree ?_
    show wpAny _ A.in1.in1 (do checkBuiltinCall "bool.__new__" ⟨[.type "bool", .ref x], []⟩; again (.builtin "bool.__new__" ⟨[.type "bool", .ref x], []⟩)) _ _ s
    refine wpAny_bind (wpAny_of_eq (PySem.F.newCall_bool_1 _) (wpAny_pure ⟨plainId_quiet (by decide +kernel) _, codeAny_builtin PySem.F.entry_bool_new ?_⟩))
    rw [Around.under_plainId (by decide +kernel) _]
    unfold Builtin.«bool.__new__»
    refine wpAny_bind (wpAny_of_eq (a := true) (by first | rfl | kernel_rfl | (unfold isType; rw [isSubtype_type]; kernel_rfl)) ?_)
    refine PySem.W.KFB.if_not rfl ?_
    refine wpAny_bind (wpAny_of_eq (a := true) PySem.F.conv_sub_bool ?_)
    refine PySem.W.KFB.if_not rfl ?_
    refine wpAny_bind (wpAny_of_eq (a := [.ref x]) rfl ?_)
    show wpAny _ _ (do let b ← truthy (.ref x); ret (.bool b)) _ _ s
    refine wpAny_bind (truth_own X I hs hf (wpAny_mono h (fun r s₁ hr => ?_) fun _ _ y => y))
    cases r <;> first | exact hr.elim | skip
    exact wpAny_pure ⟨_, rfl, hr⟩
  · rintro obj s₁ ⟨b, rfl, hq⟩
    exact ⟨rfl, PySem.F.args_object_init_2 _ _, object_init_meets PySem.F.called_bool.init.lookup PySem.F.called_bool.made (by decide) prog w A.in1 _ s₁ ⟨rfl, rfl, b, rfl, hq⟩⟩
end
section
variable {X : Cx} {CX : CXT} {C f : Addr} {fd : FuncData} {ps : List Str} {n : Nat} {sp : Sp} {E : XK} {K : PySem.W.Frag}
theorem run_fnA {A : Around} {pins : List (Addr × Obj)} {σ : L2.St} {H : Hp} {s : Shared} {Q : VK} {us : List Value} {vs : List V} (F : FnOk X.prog X.w X.K X.mg X.base CX n f fd ps sp) (hr : Room n A) (e0 : Env0 X.prog X.w X.K X.mg X.base A X.stack s H) (hb : Binds X.K fd ps []) (hx : Passes CX X E)
    (I : Inv X pins σ H s) (r : Vals vs us) (h : sp vs H Q E) : wpAny (model X.prog X.w) A (call (.ref f) us) (EP X pins σ Q) X.xe s := by
  have hl : us.length = ps.length := by rw [← r.length]; exact F.len _ _ _ _ h
  refine wpAny_call (codeAny_mono (F.run A X.stack s H ⟨us, []⟩ us vs Q E hr e0 (by have := hb s us I.kIn (by rw [List.append_nil]; exact hl); rw [List.append_nil] at this; exact this) r h) fun r s' hq => ?_)
  cases r with
  | error e => exact hx pins σ H s e s' I hq
  | ok fl =>
    cases fl with
    | ret u => exact I.after hq
    | next => exact False.elim hq
    | brk => exact False.elim hq
    | cont => exact False.elim hq
def rBoolO (C : Addr) (sp : Sp) (E : XK) : List V → Hp → VK → Prop := fun xs H Q => ∃ a dx fs, xs = [V.ref a] ∧ H a = some (.ins C dx fs) ∧ sp [.ref a] H (fun z H' => ∃ b, z = .bl b ∧ Q z H') E
theorem call_boolO (hm : Meth X.K C "__bool__" f) (F : FnOk X.prog X.w X.K X.mg X.base CX n f fd ps sp) (hr : Room (n + 2) X.A) (hb : Binds X.K fd ps []) (hx : Passes CX X E) : CallR X (.type "bool") (rBoolO C sp E) := by
  intro pins s σ H xs us Q I r h
  obtain ⟨a, dx, fs, rfl, ha, q⟩ := h
  rw [Vals.ref1 r]
  obtain ⟨mA, J, _⟩ := ins_get I.hok ha
  obtain ⟨od, J, _⟩ := J.look
  have hr2 : Room n X.A.in1.in1 := (show Room (n + 1) X.A.in1 from Room.in1 hr).in1
  refine wpAny_mono (bool_own (Q := fun b s' => EP X pins σ Q (.bool b) s') I.kIn J hm.at_ hm.fn (wpAny_mono (run_fnA (us := [.ref a]) (vs := [.ref a]) F hr2 I.env0.in1.in1 hb hx I (.cons rfl .nil) q) (fun w s' z => ?_) fun _ _ y => y)) (fun w s' z => ?_) fun _ _ y => y
  · obtain ⟨z', H', I', rz, b, rfl, qz⟩ := z
    cases (show w = Value.bool b from rz)
    exact ⟨.bl b, H', I', rfl, qz⟩
  · obtain ⟨b, rfl, z⟩ := z
    exact z
end
section
variable {α β γ : Type} {r ra : Rp α} {rb : Rp β} {te : TE} {ta tk : TA} {Γ Γ1 : List Sl} {K : PySem.W.Frag} {w : Rw α} {C : Addr} {names : List Str} {x : α} {E : XK}
theorem ev_boolO {m : α → Option Bool} {b : Bool} (h : EvX (rIns C names w) te Γ Γ1 x) (e : m x = some b) : EvX rBool (tCB (rBoolO C (SpP (w1 (rIns C names w)) rBool m) E) (tCons te tNil)) Γ Γ1 b := fun A σ H B F Q q => h A σ H B F _ fun v H1 B1 F1 s1 k1 => by
  obtain ⟨p, dx, vs, rfl, hp, l, kw⟩ := ob_ins F1.bh k1
  exact ⟨p, dx, _, rfl, hp, B1, x, b, F1.szt, F1.bh, ⟨_, rfl, k1⟩, e, fun H3 B3 v3 P k3 => ⟨b, k3, q _ H3 B3 (F1.after P) (s1.trans P.b0) k3⟩⟩
/-! ### the frame's own list, handed over -/
def ers (B : Hp) (p : Addr) : Hp := fun q => if q = p then none else B q
theorem ers_ne {B : Hp} {p q : Addr} (h : q ≠ p) : ers B p q = B q := if_neg h
theorem ers_self {B : Hp} {p : Addr} : ers B p p = none := if_pos rfl
/-- what stands for it never holds a list -/
class NoL {α : Type} (r : Rp α) : Prop where
  no : ∀ {B : Hp} {p : Addr} {vs : List V} {v : V} {a : α}, B p = some (.lst vs) → r.rel B v a → r.rel (ers B p) v a
class NoLW {α : Type} (w : Rw α) : Prop where
  no : ∀ {B : Hp} {p : Addr} {vs us : List V} {a : α}, B p = some (.lst vs) → w.rel B us a → w.rel (ers B p) us a
instance : NoL rInt := ⟨fun _ h => h⟩
instance : NoL rBool := ⟨fun _ h => h⟩
instance : NoL rStr := ⟨fun _ h => h⟩
instance : NoL rNon := ⟨fun _ h => h⟩
instance (r : Rp α) [NoL r] : NoL (rOpt r) := ⟨fun {B p vs v a} hp h => by
  cases a with
  | none => exact h
  | some a => exact ⟨NoL.no hp h.1, h.2⟩⟩
instance : NoLW w0 := ⟨fun _ h => h⟩
instance (r : Rp α) [NoL r] : NoLW (w1 r) := ⟨fun hp ⟨v, e, h⟩ => ⟨v, e, NoL.no hp h⟩⟩
instance (r : Rp α) (w : Rw β) [NoL r] [NoLW w] : NoLW (wC r w) := ⟨fun hp ⟨v, t, e, h, k⟩ => ⟨v, t, e, NoL.no hp h, NoLW.no hp k⟩⟩
theorem paired_no {r : Rp α} [NoL r] {B : Hp} {p : Addr} {vs : List V} (hp : B p = some (.lst vs)) : ∀ {us : List V} {xs : List α}, Paired (r.rel B) us xs → Paired (r.rel (ers B p)) us xs
  | _, _, .nil => .nil
  | _, _, .cons h t => .cons (NoL.no hp h) (paired_no hp t)
instance (r : Rp α) [NoL r] : NoL (rOb (cTpl r)) := ⟨fun {B p vs v a} hp ⟨q, o, e, hq, us, eo, k⟩ => ⟨q, o, e, by
  rw [ers_ne fun z => by rw [z, hp] at hq; cases hq; cases eo]; exact hq, us, eo, paired_no hp k⟩⟩
instance (w : Rw α) [NoLW w] : NoL (rOb (cTup w)) := ⟨fun {B p vs v a} hp ⟨q, o, e, hq, us, eo, k⟩ => ⟨q, o, e, by
  rw [ers_ne fun z => by rw [z, hp] at hq; cases hq; cases eo]; exact hq, us, eo, NoLW.no hp k⟩⟩
instance (C : Addr) (names : List Str) (w : Rw α) [NoLW w] : NoL (rOb (cIns C names w)) := ⟨fun {B p vs v a} hp ⟨q, o, e, hq, dx, us, eo, l, k⟩ => ⟨q, o, e, by
  rw [ers_ne fun z => by rw [z, hp] at hq; cases hq; cases eo]; exact hq, dx, us, eo, l, NoLW.no hp k⟩⟩
instance (C : Addr) (names : List Str) (w : Rw α) [NoLW w] : NoL (rIns C names w) := inferInstanceAs (NoL (rOb (cIns C names w)))
instance (r : Rp α) [NoL r] : NoL (rTpl r) := inferInstanceAs (NoL (rOb (cTpl r)))
instance (w : Rw α) [NoLW w] : NoL (rTup w) := inferInstanceAs (NoL (rOb (cTup w)))
theorem paired_dic {κ : Type} [DecidableEq κ] {rk : Rp κ} {ky : Ky rk} {rv : Rp β} [NoL rv] {B : Hp} {p : Addr} {vs : List V} (hp : B p = some (.lst vs)) : ∀ {us : List (L2.Key × V)} {xs : List (κ × β)}, Paired (DRel ky rv B) us xs → Paired (DRel ky rv (ers B p)) us xs
  | _, _, .nil => .nil
  | _, _, .cons h t => .cons ⟨h.1, NoL.no hp h.2⟩ (paired_dic hp t)
instance {κ : Type} [DecidableEq κ] {rk : Rp κ} (ky : Ky rk) (rv : Rp β) [NoL rv] : NoL (rOb (cDic ky rv)) := ⟨fun {B p vs v a} hp ⟨q, o, e, hq, us, eo, k⟩ => ⟨q, o, e, by
  rw [ers_ne fun z => by rw [z, hp] at hq; cases hq; cases eo]; exact hq, us, eo, paired_dic hp k⟩⟩
/-- the slots as the callee's frame may know them: one own list at a value, no other own object -/
def frz (Γ : List Sl) (i : Nat) (s : Sl) : List Sl := (Γ.map fun x => match x with
  | .imm r a => .imm r a
  | _ => .no).set i s
theorem frz_get {Γ : List Sl} {i j : Nat} {s t : Sl} (h : (frz Γ i s)[j]? = some t) : (i = j ∧ t = s) ∨ (i ≠ j ∧ ∃ u, Γ[j]? = some u ∧ (t = u ∨ t = .no) ∧ plain t) := by
  unfold frz at h
  rcases getset h with ⟨e, e2, _⟩ | ⟨ne, e⟩
  · exact .inl ⟨e, e2⟩
  · right
    refine ⟨ne, ?_⟩
    rw [List.getElem?_map] at e
    cases q : Γ[j]? with
    | none => rw [q] at e; cases e
    | some u =>
      rw [q] at e
      refine ⟨u, rfl, ?_⟩
      cases u with
      | no => cases e; exact ⟨.inr rfl, trivial⟩
      | imm r a => cases e; exact ⟨.inl rfl, trivial⟩
      | cel p c a => cases e; exact ⟨.inr rfl, trivial⟩
      | tre v c a => cases e; exact ⟨.inr rfl, trivial⟩
theorem frz_in {A : Amb} {σ : L2.St} {H B : Hp} {i : Nat} {p : Addr} {xs : List α} (F : Frm A σ H B Γ) (hi : Γ[i]? = some (.cel p (cLst r) xs)) : ∃ vs, B p = none ∧ H p = some (.lst vs) ∧
    Frm ⟨upd B p (.lst vs), H, fun _ => False, fun _ => True, fun _ _ _ _ => trivial⟩ σ H (upd B p (.lst vs)) (frz Γ i (.imm (rLst r) xs)) := by
  obtain ⟨ev, hBp, hm, o, ho, vs, rfl, kv⟩ := F.sl i _ hi
  have hB : Same B (upd B p (.lst vs)) := fun b u e => by rw [upd_ne (ne_of_none e hBp)]; exact e
  refine ⟨vs, hBp, ho, ?_⟩
  have hs : Same (upd B p (.lst vs)) H := fun b u e => by
    by_cases hb : b = p
    · subst hb; rw [upd_same] at e; cases e; exact ho
    · rw [upd_ne hb] at e; exact F.bh b u e
  refine ⟨⟨hs, Same.refl _, fun _ _ _ _ e => e, fun _ _ e => e, fun _ e => e, hs, ⟨fun _ z => z.elim, fun _ z => z.elim, fun _ m n => F.tb.ne n m⟩, trivial, F.sz, F.tb.fix hB (F.tb.nt ho fun _ z => nomatch z)⟩, by unfold frz; rw [List.length_set, List.length_map]; exact F.len, fun _ _ => False, fun j s e => ?_, fun _ _ _ z => z.elim, fun _ _ z => z.elim⟩
  · rcases frz_get e with ⟨rfl, rfl⟩ | ⟨ne, u, hu, ht, hc⟩
    · exact ⟨_, ev, p, _, rfl, upd_same, vs, rfl, Paired.monoR hB kv⟩
    · rcases ht with rfl | rfl
      · have hs := F.sl j _ hu
        cases s with
        | no => trivial
        | imm r a => obtain ⟨v, e1, e2⟩ := hs; exact ⟨v, e1, r.mono hB e2⟩
        | cel q c a => cases hc
        | tre q c a => cases hc
      · trivial
theorem TabOk.ers {H B : Hp} {p : Addr} {vs : List V} (t : TabOk H B) (hp : B p = some (.lst vs)) : TabOk H (G.ers B p) := ⟨fun a q m => by
  obtain ⟨ps, e, k, z⟩ := t.at_ a q m
  exact ⟨ps, e, k, fun pos cv hc => by
    obtain ⟨c, e1, e2⟩ := z pos cv hc
    have hb : c ≠ p := fun z => by
      rw [z, hp] at e2
      unfold LamX.CodeO at e2
      cases e2
    exact ⟨c, e1, by rw [ers_ne hb]; exact e2⟩⟩, fun a m => by
  by_cases hb : a = p
  · rw [hb]; exact ers_self
  · rw [ers_ne hb]; exact t.no a m⟩
theorem frz_out {A : Amb} {σ : L2.St} {H B H2 B2 : Hp} {p : Addr} {vs : List V} {Γ' : List Sl} {φ : Hp → Prop} {up : ∀ B B', Same B B' → φ B → φ B'} (F : Frm A σ H B Γ) (hBp : B p = none) (F2 : Frm ⟨upd B p (.lst vs), H, fun _ => False, φ, up⟩ σ H2 B2 Γ') (s2 : Same (upd B p (.lst vs)) B2) :
    B2 p = some (.lst vs) ∧ Same B (ers B2 p) ∧ Frm A σ H2 (ers B2 p) Γ := by
  have hB : Same B (upd B p (.lst vs)) := fun b u e => by rw [upd_ne (ne_of_none e hBp)]; exact e
  have hp2 : B2 p = some (.lst vs) := s2 _ _ upd_same
  have kp : ∀ b u, ¬ isTab b → H b = some u → H2 b = some u := fun b u nt e => F2.keep b u (fun z => z) nt e
  have s3 : Same B (ers B2 p) := fun b u e => by rw [ers_ne (ne_of_none e hBp)]; exact s2 _ _ (hB _ _ e)
  have out : ∀ b, B b = none → H b ≠ none → ers B2 p b = none := fun b e n => by
    by_cases hb : b = p
    · rw [hb]; exact ers_self
    · rw [ers_ne hb]; exact F2.out b n (by show upd B p (.lst vs) b = none; rw [upd_ne hb]; exact e)
  refine ⟨hp2, s3, F.move ⟨fun b u e => ?_, fun b u e => s3 _ _ (F.b0 b u e), fun b u m nt e => kp b u nt (F.keep b u m nt e), fun b n z => out b (F.out b n z) (F.alive b n), fun b n => F2.alive b (F.alive b n), F.sub, F.mh, A.up _ _ s3 F.ph, F2.sz, F2.tb.ers hp2⟩ s3 fun q h => ⟨out q h.1 h.2.1, h.2.2, fun u => kp q u (h.nt F.mh)⟩⟩
  · by_cases hb : b = p
    · rw [hb, ers_self] at e; cases e
    · rw [ers_ne hb] at e; exact F2.bh b u e
theorem ev_frz {i : Nat} {p : Addr} {xs : List α} {b : β} [NoL rb] (hi : Γ[i]? = some (.cel p (cLst r) xs)) (h : EvX rb te (frz Γ i (.imm (rLst r) xs)) (frz Γ i (.imm (rLst r) xs)) b) : EvX rb te Γ Γ b := fun A σ H B F Q q => by
  obtain ⟨vs, hBp, _, F'⟩ := frz_in F hi
  refine h _ σ H _ F' _ fun v H2 B2 F2 s2 k2 => ?_
  obtain ⟨h1, h2, h3⟩ := frz_out F hBp F2 s2
  exact q v H2 _ h3 h2 (NoL.no h1 k2)
theorem et_frz {tt : TT} {i : Nat} {p : Addr} {xs : List α} {b : Bool} (hi : Γ[i]? = some (.cel p (cLst r) xs)) (h : EvT tt (frz Γ i (.imm (rLst r) xs)) (frz Γ i (.imm (rLst r) xs)) b) : EvT tt Γ Γ b := fun A σ H B F Q q => by
  obtain ⟨vs, hBp, _, F'⟩ := frz_in F hi
  refine h _ σ H _ F' _ fun H2 B2 F2 s2 => ?_
  obtain ⟨h1, h2, h3⟩ := frz_out F hBp F2 s2
  exact q H2 _ h3 h2
theorem ev_bool1 {b : Bool} (h : EvX rBool te Γ Γ1 b) : EvX rBool (tCB (fun xs H Q => (∃ i, xs = [.int i] ∧ Q (.bl (i != 0)) H) ∨ ∃ k, xs = [.bl k] ∧ Q (.bl k) H) (tCons te tNil)) Γ Γ1 b := ev_B1 h fun H B u _ s k Q q => .inr ⟨b, by rw [show u = _ from k], q _ rfl⟩
/-- isinstance of a number that may be missing -/
theorem ev_isiO {t v : Value} {c : V} {k : Bool} {o : Option α} (h : EvX (rOpt r) te Γ Γ1 o) (ty : TyR K r t) (hc : ClsV c v) (kit : PySem.W.kitOne K t v = some k) (kn : PySem.W.kitOne K (.type "NoneType") v = some false) : EvX rBool (tCB (rIsi K) (tCons te (tCons (tC c) tNil))) Γ Γ1 (o.isSome && k) := fun A σ H B F Q q =>
  h A σ H B F _ fun x H1 B1 F1 s1 k1 => by
    cases o with
    | none => exact ⟨x, c, _, v, false, rfl, hc, ty_non _ _ () (show x = V.non from k1), kn, q _ _ _ F1 s1 rfl⟩
    | some a => exact ⟨x, c, t, v, k, rfl, hc, ty _ _ _ (r.mono F1.bh k1.1), kit, q _ _ _ F1 s1 rfl⟩
/-! ### classes called with keywords alone -/
def gP (idx : List Nat) {α : Type} (us _ds ws : List α) : List α := us ++ idx.filterMap fun i => ws[i]?
theorem vals_get {vs : List V} {us : List Value} (h : Vals vs us) (i : Nat) : (∃ v u, vs[i]? = some v ∧ us[i]? = some u ∧ RelV v u) ∨ (vs[i]? = none ∧ us[i]? = none) := by
  induction h generalizing i with
  | nil => right; simp
  | cons hd tl ih =>
    cases i with
    | zero => left; exact ⟨_, _, rfl, rfl, hd⟩
    | succ i => simpa using ih i
theorem gP_rel (idx : List Nat) {vs ds zs : List V} {us its ws : List Value} (h : Vals vs us) (_ : Vals ds its) (k : Vals zs ws) : Vals (gP idx vs ds zs) (gP idx us its ws) := by
  unfold gP
  refine Paired.app h ?_
  induction idx with
  | nil => exact .nil
  | cons i l ih =>
    rcases vals_get k i with ⟨v, u, e1, e2, q⟩ | ⟨e1, e2⟩
    · rw [List.filterMap_cons_some e1, List.filterMap_cons_some e2]; exact .cons q ih
    · rw [List.filterMap_cons_none e1, List.filterMap_cons_none e2]; exact ih
def KApp (n : Nat) (idx : List Nat) {γ : Type} (wk : Rw α) (w : Rw γ) (f : α → γ) : Prop := ∀ B zs a, wk.rel B zs a → zs.length = n ∧ w.rel B (idx.filterMap fun i => zs[i]?) (f a)
theorem ev_makeK {n : Nat} {idx : List Nat} {wk : Rw α} {w : Rw γ} {wb : Rw β} {dvs : List V} {f : α → γ} {m : γ → Option β} {a : α} {b : β} (h : EvW wk tk Γ Γ1 a) (d : KApp n idx wk w f) (e : m (f a) = some b) : EvX (rIns C names wb) (tMakeK C 0 n (SpJ C w (cIns C names wb) m) (fun vs zs => gP idx vs dvs zs) E tNil tk) Γ Γ1 b := fun A σ H B F Q q => by
  refine h A σ H B F _ fun vs H1 B1 F1 s1 k1 => ?_
  obtain ⟨d1, d2⟩ := d B1 vs a k1
  refine ⟨rfl, d1, fun y dy hy hd ne => ?_⟩
  obtain ⟨p1, p2, p3, p4⟩ := made_pre (C := C) F1 hy hd ne
  refine ⟨y, dy, idx.filterMap fun i => vs[i]?, upd B1 dy (.own y), f a, b, rfl, upd_same, p3, p1, p2, w.mono p4 d2, e, fun H2 B2 P ⟨o, ho, k⟩ => ⟨rfl, ?_⟩⟩
  have F2 := made_frame (A := A) F1 hy hd ne P ho
  have F3 := F2.adopt (F1.H0none hy) F1.sub F1.mh
  have hB2 : B2 y = none := P.out y (by show upd (upd H1 dy (.own y)) y (.ins C dy []) y ≠ none; rw [upd_same]; simp) p3.1
  have s3 : Same B2 (upd B2 y o) := fun q u e => by rw [upd_ne (ne_of_none e hB2)]; exact e
  exact q _ _ _ F3 (s1.trans (p4.trans (P.b0.trans s3))) ⟨y, o, rfl, upd_same, (cIns C names wb).mono s3 k⟩
end
end G

set_option maxHeartbeats 4000000
/-! # G: texts of numbers and of instances, f-strings, stars in displays -/
namespace G
variable [TabL]
open PySem PySem.Spec PyProof.Rows L2
section
variable {X : Cx} {CX : CXT} {C f : Addr} {fd : FuncData} {ps : List Str} {n : Nat} {sp : Sp} {E : XK} {K : PySem.W.Frag}
def rStrO (C : Addr) (sp : Sp) (E : XK) : List V → Hp → VK → Prop := fun xs H Q => ∃ a dx fs, xs = [V.ref a] ∧ H a = some (.ins C dx fs) ∧ sp [.ref a] H (fun z H' => ∃ b, z = .str b ∧ Q z H') E
theorem call_strO (hm : Meth X.K C "__str__" f) (F : FnOk X.prog X.w X.K X.mg X.base CX n f fd ps sp) (hr : Room (n + 2) X.A) (hb : Binds X.K fd ps []) (hx : Passes CX X E) : CallR X (.type "str") (rStrO C sp E) := by
  intro pins s σ H xs us Q I r h
  obtain ⟨a, dx, fs, rfl, ha, q⟩ := h
  rw [Vals.ref1 r]
  obtain ⟨mA, J, _⟩ := ins_get I.hok ha
  obtain ⟨od, J, _⟩ := J.look
  have hr2 : Room n X.A.in1.in1 := (show Room (n + 1) X.A.in1 from Room.in1 hr).in1
  refine PySem.W.kso_call hr2.units0 I.kIn J hm.at_ hm.fn (wpAny_mono (run_fnA (us := [.ref a]) (vs := [.ref a]) F hr2 I.env0.in1.in1 hb hx I (.cons rfl .nil) q) (fun w s' z => ?_) fun _ _ y => y)
  obtain ⟨z', H', I', rz, b, rfl, qz⟩ := z
  obtain ⟨t, rfl⟩ := (show ∃ t, w = Value.str b t from rz)
  exact ⟨.str b, H', I', ⟨t, rfl⟩, qz⟩
end
section
variable {α β γ : Type} {r ra : Rp α} {rb : Rp β} {te : TE} {ta tr : TA} {Γ Γ1 Γ2 : List Sl} {K : PySem.W.Frag} {w : Rw α} {C : Addr} {names : List Str} {x : α} {E : XK}
theorem ev_strO {m : α → Option Str} {b : Str} (h : EvX (rIns C names w) te Γ Γ1 x) (e : m x = some b) : EvX rStr (tCB (rStrO C (SpP (w1 (rIns C names w)) rStr m) E) (tCons te tNil)) Γ Γ1 b := fun A σ H B F Q q => h A σ H B F _ fun v H1 B1 F1 s1 k1 => by
  obtain ⟨p, dx, vs, rfl, hp, l, kw⟩ := ob_ins F1.bh k1
  exact ⟨p, dx, _, rfl, hp, B1, x, b, F1.szt, F1.bh, ⟨_, rfl, k1⟩, e, fun H3 B3 v3 P k3 => ⟨b, k3, q _ H3 B3 (F1.after P) (s1.trans P.b0) k3⟩⟩
def pyStrI (i : Int) : Option Str := if i.natAbs.log2 < 1920 then some (toString i : String) else none
theorem ev_strI {i : Int} {z : Str} (h : EvX rInt te Γ Γ1 i) (e : pyStrI i = some z) : EvX rStr (tCB (fun xs H Q => ∃ i, xs = [.int i] ∧ i.natAbs.log2 < 1920 ∧ Q (.str (toString i)) H) (tCons te tNil)) Γ Γ1 z := by
  unfold pyStrI at e; split at e <;> cases e
  exact ev_B1 h fun H B u _ s k Q q => ⟨i, by rw [show u = _ from k], by assumption, q _ rfl⟩
def pyFmt (z : Str) : Option Str := if z.length ≤ 1000000 then some z else none
theorem ev_fmt {z y : Str} (h : EvX rStr te Γ Γ1 z) (e : pyFmt z = some y) : EvX rStr (tFmt te) Γ Γ1 y := by
  unfold pyFmt at e; split at e <;> cases e
  exact fun A σ H B F Q q => h A σ H B F _ fun v H1 B1 F1 s1 k1 => .inl ⟨z, k1, line_big (by assumption), q _ H1 B1 F1 s1 rfl⟩
theorem eh_S {xs ys : List α} (h : EvX (rLst r) te Γ Γ1 xs) (hr : EvH r tr Γ1 Γ2 ys) : EvH r (StX.tStar K te tr) Γ Γ2 (xs ++ ys) := fun A σ H B F Q q =>
  h A σ H B F _ fun v H1 B1 F1 s1 k1 => by
    obtain ⟨p, vs, rfl, hp, kv⟩ := ob_lst F1.bh k1
    exact ⟨p, vs, rfl, .inr (SqL.of hp), hr A σ H1 B1 F1 _ fun us H2 B2 F2 s2 k2 => q _ H2 B2 F2 (s1.trans s2) (Paired.app (Paired.monoR s2 kv) k2)⟩
def lim4 (xs : List α) : Option (List α) := if xs.length ≤ 1000 then some xs else none
theorem ec_lstS {xs ys : List α} (h : EvH r ta Γ Γ1 xs) (e : lim4 xs = some ys) : EvC (cLst r) (tLst ta) Γ Γ1 ys := by
  unfold lim4 at e; split at e <;> cases e
  exact ec_lst h (by assumption)
end
end G

set_option maxHeartbeats 4000000
/-! # G: lists turned round, parts of the script, sorted numbers, max, min, own lists returned -/
namespace G
variable [TabL]
open PySem PySem.Spec PyProof.Rows L2
section
variable {α β γ : Type} {r ra : Rp α} {rb : Rp β} {c : Cl α} {cc : Cl γ} {te : TE} {ta : TA} {Γ Γ1 Γ2 Γ3 : List Sl} {K : PySem.W.Frag} {xs : List α} {i j : Nat} {p p0 : Addr} {A : Amb} {D : Ends} {u : TS} {a : α} {b : α} {st : γ}
theorem paired_rev {R : V → α → Prop} : ∀ {vs : List V} {xs : List α}, Paired R vs xs → Paired R vs.reverse xs.reverse
  | _, _, .nil => .nil
  | _, _, .cons h t => by rw [List.reverse_cons, List.reverse_cons]; exact Paired.app (paired_rev t) (.cons h .nil)
theorem ec_revL (h : EvX (rLst r) te Γ Γ1 xs) : EvC (cLst r) (tRevL K te) Γ Γ1 xs.reverse := fun A σ H B F Q q => h A σ H B F _ fun v H1 B1 F1 s1 k1 => by
  obtain ⟨p, vs, rfl, hp, kv⟩ := ob_lst F1.bh k1
  exact ⟨p, vs, rfl, SqL.of hp, fun l hl => ec_fresh (c := cLst r) (o := .lst vs.reverse) F1 hl (by show vs.reverse.length ≤ _; rw [List.length_reverse]; exact F1.sz _ _ hp) (fun p o H2 B2 F2 n2 s4 k2 => q p o H2 B2 F2 n2 (s1.trans s4) k2) ⟨_, rfl, paired_rev kv⟩⟩
def pyCutC (ns : List Int) (lo hi : Option Int) : Option (List Int) := if ns.length ≤ 100000 then some (cut ns lo hi) else none
theorem ec_slC {lo hi : Option Int} {tl th : TO} {ns l : List Int} (h : EvX (rScr K) te Γ Γ1 ns) (hl : EvO tl Γ1 Γ2 lo) (hh : EvO th Γ2 Γ3 hi) (e : pyCutC ns lo hi = some l) : EvC (cLst rInt) (L2.tSl (rSlL K) te tl th) Γ Γ3 l := by
  unfold pyCutC at e; split at e <;> cases e
  rename_i hn
  exact fun A σ H B F Q q => h A σ H B F _ fun v H1 B1 F1 s1 k1 => hl A σ H1 B1 F1 _ fun H2 B2 F2 s2 => hh A σ H2 B2 F2 _ fun H3 B3 F3 s3 => by
    obtain ⟨a, rfl, ha⟩ := k1
    have hq := Same.seq F3.bh (Same.seq (s2.trans s3) ha)
    refine ⟨a, _, rfl, hq, fun l hl => ec_fresh (c := cLst rInt) (o := .lst (cutV (ns.map V.int) lo hi)) F3 hl ?_ (fun p o H2 B2 F2 n2 s4 k2 => q p o H2 B2 F2 n2 (((s1.trans s2).trans s3).trans s4) k2) ⟨_, rfl, paired_cut (paired_ints ns B3)⟩⟩
    refine Nat.le_trans (cut_len lo hi _) ?_
    rw [List.length_map]
    exact Nat.le_trans hn (by decide)
def isortI (xs : List Int) : List Int := xs.mergeSort (fun a b => decide (a ≤ b))
theorem isortI_perm (xs : List Int) : (isortI xs).Perm xs := List.mergeSort_perm _ _
theorem isortI_asc (xs : List Int) : (isortI xs).Pairwise (· ≤ ·) := by
  have h := List.pairwise_mergeSort (le := fun a b : Int => decide (a ≤ b)) (fun a b c h1 h2 => by simp at *; omega) (fun a b => by simp; omega) xs
  exact h.imp fun q => by simpa using q
theorem isort_eq {xs ys : List Int} (h1 : ys.Perm xs) (h2 : ys.Pairwise (· ≤ ·)) : ys = isortI xs :=
  List.Perm.eq_of_pairwise (fun a b _ _ h1 h2 => by omega) h2 (isortI_asc xs) (h1.trans (isortI_perm xs).symm)
theorem ec_sortI {xs : List Int} (h : EvX (rLst rInt) te Γ Γ1 xs) : EvC (cLst rInt) (tCB (rSortedI K) (tCons te tNil)) Γ Γ1 (isortI xs) := ec_B1 h fun H B u z s k Q q => by
  obtain ⟨p, vs, rfl, hp, kv⟩ := ob_lst s k
  have ev : vs = xs.map V.int := Paired.mapEq (fun a b h => h) kv
  refine ⟨p, xs, rfl, by rw [← ev]; exact SqL.of hp, fun ns l h1 h2 hl => ?_⟩
  rw [isort_eq h1 h2]
  refine q l _ hl ?_ ⟨_, rfl, paired_ints _ B⟩
  show ((isortI xs).map V.int).length ≤ _
  rw [List.length_map, (isortI_perm xs).length_eq, ← Paired.len kv]
  exact z p _ hp
theorem foldl_max_mem : ∀ (t : List Int) (n : Int), t.foldl max n ∈ n :: t ∧ ∀ y ∈ n :: t, y ≤ t.foldl max n
  | [], n => ⟨by simp, fun y hy => by rw [List.mem_singleton.mp hy]; exact Int.le_refl _⟩
  | x :: xs, n => by
    obtain ⟨h1, h2⟩ := foldl_max_mem xs (max n x)
    rw [List.foldl_cons]
    have hm := h2 (max n x) List.mem_cons_self
    refine ⟨?_, fun y hy => ?_⟩
    · rcases List.mem_cons.mp h1 with h | h
      · rw [h]
        by_cases c : n ≤ x
        · rw [show max n x = x by omega]; simp
        · rw [show max n x = n by omega]; simp
      · exact List.mem_cons_of_mem _ (List.mem_cons_of_mem _ h)
    · rcases List.mem_cons.mp hy with rfl | hy
      · omega
      · rcases List.mem_cons.mp hy with rfl | hy
        · omega
        · exact h2 y (List.mem_cons_of_mem _ hy)
theorem foldl_min_mem : ∀ (t : List Int) (n : Int), t.foldl min n ∈ n :: t ∧ ∀ y ∈ n :: t, t.foldl min n ≤ y
  | [], n => ⟨by simp, fun y hy => by rw [List.mem_singleton.mp hy]; exact Int.le_refl _⟩
  | x :: xs, n => by
    obtain ⟨h1, h2⟩ := foldl_min_mem xs (min n x)
    rw [List.foldl_cons]
    have hm := h2 (min n x) List.mem_cons_self
    refine ⟨?_, fun y hy => ?_⟩
    · rcases List.mem_cons.mp h1 with h | h
      · rw [h]
        by_cases c : n ≤ x
        · rw [show min n x = n by omega]; simp
        · rw [show min n x = x by omega]; simp
      · exact List.mem_cons_of_mem _ (List.mem_cons_of_mem _ h)
    · rcases List.mem_cons.mp hy with rfl | hy
      · omega
      · rcases List.mem_cons.mp hy with rfl | hy
        · omega
        · exact h2 y (List.mem_cons_of_mem _ hy)
theorem ev_max1 {xs : List Int} {m : Int} (h : EvX (rLst rInt) te Γ Γ1 xs) (e : pyMaxN xs = some m) : EvX rInt (tCB (rMax K) (tCons te tNil)) Γ Γ1 m := ev_B1 h fun H B u _ s k Q q => by
  obtain ⟨p, vs, rfl, hp, kv⟩ := ob_lst s k
  have ev : vs = xs.map V.int := Paired.mapEq (fun a b h => h) kv
  cases xs with
  | nil => cases e
  | cons n t =>
    cases e
    obtain ⟨h1, h2⟩ := foldl_max_mem t n
    refine ⟨p, n :: t, rfl, by rw [← ev]; exact SqL.of hp, by simp, fun m hm hy => ?_⟩
    have := hy _ h1
    have := h2 _ hm
    exact q _ (by rw [show m = t.foldl max n by omega]; rfl)
theorem ev_min1 {xs : List Int} {m : Int} (h : EvX (rLst rInt) te Γ Γ1 xs) (e : pyMinN xs = some m) : EvX rInt (tCB (rMin K) (tCons te tNil)) Γ Γ1 m := ev_B1 h fun H B u _ s k Q q => by
  obtain ⟨p, vs, rfl, hp, kv⟩ := ob_lst s k
  have ev : vs = xs.map V.int := Paired.mapEq (fun a b h => h) kv
  cases xs with
  | nil => cases e
  | cons n t =>
    cases e
    obtain ⟨h1, h2⟩ := foldl_min_mem t n
    refine ⟨p, n :: t, rfl, by rw [← ev]; exact SqL.of hp, by simp, fun m hm hy => ?_⟩
    have := hy _ h1
    have := h2 _ hm
    exact q _ (by rw [show m = t.foldl min n by omega]; rfl)
theorem pe_revLK {X : Cx} {e : Expr} {te : TE} {k : Nat} {p1 p2 p3 pos : Pos} (hK : X.K = K) (he : PE X e te) : PE X (.Subscript e (.Slice none none (some (.UnaryOp .USub (.Constant (.int 1) k p1) p2)) p3) pos) (tRevL K te) := by subst hK; exact pe_revL he
theorem sortIK {X : Cx} (hK : X.K = K) : CallR X (.builtin "sorted") (rSortedI K) := by subst hK; exact cr_sortedI
theorem maxK {X : Cx} (hK : X.K = K) (hc : X.calm = true) : CallR X (.builtin "max") (rMax K) := by subst hK; exact cr_max hc
theorem minK {X : Cx} (hK : X.K = K) (hc : X.calm = true) : CallR X (.builtin "min") (rMin K) := by subst hK; exact cr_min hc
/-! ### the frame's own object is returned -/
theorem post_own {σ : L2.St} {H B : Hp} (F : Frm A σ H B Γ) (hi : Γ[i]? = some (.cel p c a)) (hm : ¬ A.m p) : ∃ o, H p = some o ∧ σ[i]? = some (some (V.ref p)) ∧ Same B (upd B p o) ∧ Post A H (upd B p o) ∧ (rOb c).rel (upd B p o) (.ref p) a := by
  obtain ⟨e1, n, m, o, ho, k⟩ := F.sl i _ hi
  have h0 : A.H0 p = none := m.resolve_right hm
  have s : Same B (upd B p o) := fun b u e => by rw [upd_ne (ne_of_none e n)]; exact e
  refine ⟨o, ho, e1, s, ⟨fun b u e => ?_, fun b u e => s _ _ (F.b0 b u e), F.keep, fun b hb z => ?_, F.alive, F.sub, F.mh, A.up _ _ s F.ph, F.sz, F.tb.fix s (Hot.nt (F.hot hi rfl) F.mh)⟩, p, o, rfl, upd_same, c.mono s k⟩
  · by_cases hb : b = p
    · subst hb; rw [upd_same] at e; cases e; exact ho
    · rw [upd_ne hb] at e; exact F.bh b u e
  · have hbp : b ≠ p := fun q => hb (by rw [q]; exact h0)
    rw [upd_ne hbp]; exact F.out b hb z
theorem sq_retCel (hi : Γ[i]? = some (.cel p c a)) (hm : ∀ q, ¬ A.m q) (e : some a = some b) (k : Rt A (psi (rOb c)) b D.rt) : Nx A (tSeq (tRet (tVar i)) u D) Γ := fun σ H B F => by
  cases e
  obtain ⟨o, ho, e1, s, P, q⟩ := post_own F hi (hm p)
  exact ⟨_, e1, k H _ _ P q⟩
theorem sq_retCelS {st : γ} {b : α × γ} (hi : Γ[i]? = some (.cel p c a)) (hj : Γ[j]? = some (.cel p0 cc st)) (ne : i ≠ j) (hm : ∀ q, A.m q → q = p0) (e : some (a, st) = some b) (k : Rt A (psiS p0 cc (rOb c)) b D.rt) : Nx A (tSeq (tRet (tVar i)) u D) Γ := fun σ H B F => by
  cases e
  have hp : ¬ A.m p := fun z => ne (F.ds i j p (by rw [hi]; rfl) (by rw [hj, ← hm p z]; rfl))
  obtain ⟨o, ho, e1, s, P, q⟩ := post_own F hi hp
  obtain ⟨_, _, _, o2, h2, k2⟩ := F.sl j _ hj
  exact ⟨_, e1, k H _ _ P ⟨q, o2, h2, cc.mono s k2⟩⟩
end
end G

set_option maxHeartbeats 4000000
/-! # G: sorted(set(xs)), xs of any number, of which fewer than 64 are different -/
namespace G
variable [TabL]
open PySem PySem.Spec PyProof.Rows L2
theorem nodup_len : ∀ {a b : List Int}, a.Nodup → (∀ z ∈ a, z ∈ b) → a.length ≤ b.length
  | [], _, _, _ => Nat.zero_le _
  | x :: xs, b, hn, h => by
    have hn' := List.nodup_cons.mp hn
    have hx := h x List.mem_cons_self
    have ih := nodup_len (a := xs) (b := b.erase x) hn'.2 fun z hz => (List.mem_erase_of_ne fun e => hn'.1 (by rw [← e]; exact hz)).mpr (h z (List.mem_cons_of_mem _ hz))
    rw [List.length_erase_of_mem hx] at ih
    have := List.length_pos_of_mem hx
    rw [List.length_cons]; omega
theorem asc_nodup {a : List Int} (h : a.Pairwise (· < ·)) : a.Nodup := h.imp fun h e => by omega
theorem sset_count {xs ks : List Int} (hn : ks.Nodup) (h : ∀ k, k ∈ ks ↔ k ∈ xs) : ks.length = (sset xs).length :=
  Nat.le_antisymm (nodup_len hn fun z hz => sset_mem.mpr ((h z).mp hz)) (nodup_len (asc_nodup (sset_asc xs)) fun z hz => (h z).mpr (sset_mem.mp hz))
def pySS2 (xs : List Int) : Option (List Int) := if xs.length < 1000 ∧ (sset xs).length < 64 then some (sset xs) else none
def rSetI2 (K : PySem.W.Frag) (w : World) : List V → Hp → VK → Prop := fun vs H Q => ∃ (a : Addr) (ns : List Int), vs = [V.ref a] ∧ SqL K H a (ns.map V.int) ∧ ns.length < 1000 ∧ ∀ (p : Addr), H p = none → Q (.ref p) (upd H p (SetO w p (fun x => decide (x ∈ ns)) (sset ns).length))
theorem cr_setI2 {X : Cx} {K : PySem.W.Frag} (hK : X.K = K) (hc : X.calm = true) : CallR X (.type "set") (rSetI2 K X.w) := by
  subst hK
  intro pins s σ H vs us Q I r h
  obtain ⟨a, ns, rfl, hs, hl, q⟩ := h
  obtain ⟨its, rv, pl, hz⟩ := I.list hs
  rw [Vals.ref1 r]
  have hsz : its.toArray.size = ns.length := by rw [List.size_toArray, ← rv.length, List.length_map]
  refine seti_of_list (I.ok.hd hc) pl.isList hsz (by omega) (fun i v e => by
    obtain ⟨x, t, h1, h2⟩ := val_int rv i v (by simpa using e)
    exact ⟨x, t, h1, h2⟩) fun g tk c R le kp => ?_
  have hc : c = (sset ns).length := by
    obtain ⟨o, es, ep, t, _, _, _, _, nd, mem, _, _, sz, _⟩ := R
    rw [← sz, ← sset_count (xs := ns) nd fun k => by rw [← mem k, decide_eq_true_eq], List.length_map, Array.length_toList]
  subst hc
  have J : Inv X pins σ (upd H s.heap.objs.size (SetO X.w s.heap.objs.size (fun x => decide (x ∈ ns)) (sset ns).length)) { s with heap := g, toks := tk } :=
    I.laid (t' := tk) kp (Nat.le_refl _) (setO_new R)
  exact ⟨.ref s.heap.objs.size, _, J, rfl, q _ (I.hok.fresh (Nat.le_refl _))⟩
section
variable {te : TE} {Γ Γ1 : List Sl} {K : PySem.W.Frag} {xs ys : List Int} {wd : World}
theorem ec_sortSet2 (h : EvX (rLst rInt) te Γ Γ1 xs) (e : pySS2 xs = some ys) : EvC (cLst rInt) (tCB (rSortedSet wd) (tCons (tCB (rSetI2 K wd) (tCons te tNil)) tNil)) Γ Γ1 ys := fun A σ H B F Q q => by
  unfold pySS2 at e
  split at e
  · rename_i hl
    cases e
    refine h A σ H B F _ fun v H1 B1 F1 s1 k1 => ?_
    obtain ⟨p, vs, rfl, hp, k⟩ := ob_lst F1.bh k1
    refine ⟨p, xs, rfl, ?_, hl.1, fun p0 h0 => ?_⟩
    · rw [show xs.map V.int = vs from (fl_int.vals k).symm]; exact SqL.of hp
    · have F2 := (F1.fresh h0 (o := SetO wd p0 (fun x => decide (x ∈ xs)) (sset xs).length) trivial).drop (F1.H0none h0) F1.sub F1.mh
      refine ⟨p0, _, _, rfl, upd_same, hl.2, fun ns p1 asc mem len h1 => ?_⟩
      have en : ns = sset xs := asc_eq asc (sset_asc xs) fun z => by rw [mem z, sset_mem, decide_eq_true_eq]
      subst en
      refine ec_fresh (c := cLst rInt) (o := .lst ((sset xs).map V.int)) F2 h1 ?_ (fun p o H' B' F' n' s' k' => q p o H' B' F' n' (s1.trans s') k') ⟨_, rfl, paired_ints _ _⟩
      show ((sset xs).map V.int).length ≤ sizeLine
      rw [List.length_map]
      exact Nat.le_trans (Nat.le_of_lt hl.2) (by decide)
  · cases e
end
end G

set_option maxHeartbeats 4000000
/-! # G: x != y by an own __eq__ -/
namespace G
variable [TabL]
open PySem PySem.Spec PyProof.Rows L2
section
variable {prog : Program} {w : World} {A : Around} {E : Value → Shared → Prop} {s : Shared} {K : PySem.W.Frag} {x C f L : Addr} {h₀ : Heap} {m : Str → Option Value} {ox : Obj} {odd : Option Obj} {b tb : Value}
theorem ne_bind (self : Value) : bindSpecial (.builtin "object.__ne__") self = pure (.builtin "object.__ne__", [self]) :=
  (Slot.of (T := "object") (name := "__ne__") (owner := "object") (n := "__ne__") (by rw [typeLookup_type, builtinLookup_eq_fast]; kernel_rfl) (by decide +kernel) (by decide +kernel) (by decide +kernel)
    (.inl (by decide +kernel)) (by rw [isSubtype_type]; kernel_rfl)).bind self
theorem ne_plain : plainId "object.__ne__" = true := by decide +kernel
theorem objNe_own (X : K.In s.heap) (I : PySem.W.InstAt s.heap x ox C odd) (hs : PySem.W.findIn K (.ref C) "__eq__" = some (some (.ref f))) (hf : PySem.W.isFn K (.ref f) = true) (hu : A.units < cLine) {Q : PySem.Fin → Shared → Prop}
    (h : wpAny (model prog w) A (call (.ref f) [.ref x, b]) (fun v s' => ∃ c, v = .bool c ∧ Q (.done (.ret (.bool (!c)))) s') E s) :
    wpAny (model prog w) A (Builtin.«object.__ne__» ⟨[.ref x, b], []⟩) Q E s := by
  unfold Builtin.«object.__ne__»
  repeat (first
    | with_reducible refine wpAny_cRoomFor hu ?_
    | (refine wpAny_bind (m := callSpecialIfBound? (.ref x) (Str.ofString "__eq__") [b])
        (PySem.W.ifBound_K X I hs hf (wpAny_mono h (fun r s' hr => by
          obtain ⟨c, rfl, hq⟩ := hr
          repeat (first | exact hq | exact wpAny_pure hq | exact wpAny_truthy_bool hq | (refine wpAny_bind (m := truthy (.bool _)) (wpAny_truthy_bool ?_)) | wp_step)) fun _ _ e => e)))
    | wp_step)
theorem ne_K {Q : Value → Shared → Prop} (hu : A.units + 1 < cLine) (Fq : PyProof.Rows.Fr h₀ L s.heap m) (X₀ : K.In h₀) (I : PySem.W.InstAt s.heap x ox C odd) (hb : PySem.W.Looks (model prog w) s.heap (typeOf b) tb) (hn : PySem.W.notFirst K C tb = true)
    (hne : PySem.W.findIn K (.ref C) "__ne__" = some (some (.builtin "object.__ne__"))) (ho : PySem.W.plainOver K C = true)
    (hs : PySem.W.findIn K (.ref C) "__eq__" = some (some (.ref f))) (hf : PySem.W.isFn K (.ref f) = true)
    (h : wpAny (model prog w) A.in1 (call (.ref f) [.ref x, b]) (fun v s' => ∃ c, v = .bool c ∧ Q (.bool (!c)) s') E s) : wpAny (model prog w) A (richCompare .NotEq (.ref x) b) Q E s := by
  have X := X₀.keeps Fq.keep
  obtain ⟨cd, hc, ho'⟩ := PySem.W.any_some ho
  have ne : cd.mro.isEmpty = false := by cases q : cd.mro with | nil => rw [q] at ho'; cases ho' | cons _ _ => rfl
  have sub : PySem.W.Looks (model prog w) s.heap (isInstance (.ref x) (.type "object")) true := I.type.andThen (PySem.W.looks_mroIn X (by unfold PySem.W.mroIn; rw [hc, Option.bind_some, if_neg (by rw [ne]; decide), PySem.W.only_has ho']))
  have run : wpAny (model prog w) A (call (.builtin "object.__ne__") ([.ref x] ++ [b])) (fun v s' => ∃ c, v = Value.bool c ∧ Q (.bool c) s') E s := by
    refine wpAny_call (codeAny_call_builtin ne_plain F.cmpEntry_ne (@PySem.W.check_slot (model prog w) _ _ s "object.__ne__" "object" "__ne__" (.ref x) [b] [] _ F.cmpKind_ne F.cmpSplit_ne sub (F.cmpArgs_ne _ _) ?_))
    refine objNe_own (A := A.in1) X I hs hf hu (wpAny_mono h (fun v s' hv => ?_) fun _ _ e => e)
    obtain ⟨c, rfl, hq⟩ := hv
    exact ⟨c, rfl, _, rfl, hq⟩
  have one : wpAny (model prog w) A (tryCompare (.ref x) "__ne__" b) (fun r s' => ∃ v, r = some v ∧ Q v s') E s := by
    simp only [tryCompare]
    refine wpAny_bind ?_
    simp only [callSpecialIfBound?, bindSpecialIfBound?]
    refine wpAny_holding (wpAny_bind (wpAny_bind (wpAny_bind (I.type.here ((PySem.W.looks_findIn X hne).here ?_)))))
    simp only [ne_bind]
    refine wpAny_bind (wpAny_askSetting (wpAny_ite ?_))
    have fin : ∀ R : Option Value → Shared → Prop, (∀ c s', Q (.bool c) s' → R (some (.bool c)) s') → wpAny (model prog w) A (call (.builtin "object.__ne__") ([.ref x] ++ [b]) >>= fun v => pure (some v)) R E s := fun R hR => by
      refine wpAny_bind (wpAny_mono run (fun v s' hv => ?_) fun _ _ e => e)
      obtain ⟨c, rfl, hq⟩ := hv
      exact wpAny_pure (hR _ _ hq)
    split
    · exact wpAny_bind (wpAny_pure (wpAny_pure (by exact fin _ fun c s' hq => wpAny_pure ⟨_, rfl, hq⟩)))
    · exact wpAny_tryCatch (wpAny_bind (wpAny_pure (wpAny_pure (by exact fin _ fun c s' hq => wpAny_pure ⟨_, rfl, hq⟩))))
  unfold richCompare
  simp only [oneThing_ref]
  refine wpAny_holding (wpAny_bind (wpAny_cRoomFor (Nat.lt_of_succ_lt hu) ?_))
  rw [cmpInfo_NotEq]
  dsimp only
  refine wpAny_bind (I.type.here (wpAny_bind (hb.here ?_)))
  split
  · rename_i q
    have e : PySem.W.subIn K tb (.ref C) = some false := by
      rcases Bool.or_eq_true_iff.mp hn with e | e
      · rw [beq_iff_eq.mp e] at q; simp at q
      · exact beq_iff_eq.mp e
    refine wpAny_bind ((PySem.W.looks_subIn X e).here ?_)
    simp only [Bool.false_eq_true, if_false]
    refine wpAny_bind (wpAny_mono one (fun r s' z => ?_) fun _ _ e => e)
    obtain ⟨v, rfl, hq⟩ := z
    exact wpAny_pure hq
  · refine wpAny_bind (wpAny_pure ?_)
    simp only [Bool.false_eq_true, if_false]
    refine wpAny_bind (wpAny_mono one (fun r s' z => ?_) fun _ _ e => e)
    obtain ⟨v, rfl, hq⟩ := z
    exact wpAny_pure hq
end
section
variable {X : Cx} {CX : CXT} {C f : Addr} {fd : FuncData} {ps : List Str} {n : Nat} {sp : Sp} {E : XK} {K : PySem.W.Frag}
/-- no own __ne__, and no own way to bind -/
structure NoNe (K : PySem.W.Frag) (C : Addr) : Prop where
  ne : PySem.W.findIn K (.ref C) "__ne__" = some (some (.builtin "object.__ne__"))
  plain : PySem.W.plainOver K C = true
/-- x != y, x of the class at C, whose __eq__ gives a bool; y of the type t -/
def rNeO (K : PySem.W.Frag) (C : Addr) (t : Value) (sp : Sp) (E : XK) : R2 := fun x y H Q => ∃ a dx fs, x = .ref a ∧ H a = some (.ins C dx fs) ∧ TyX K H y t ∧ PySem.W.notFirst K C t = true ∧ sp [x, y] H (fun v H' => ∃ b, v = .bl b ∧ Q (.bl (!b)) H') E
theorem op_neO {t : Value} (hK : X.K = K) (hn : NoNe K C) (hm : Meth K C "__eq__" f) (F : FnOk X.prog X.w X.K X.mg X.base CX n f fd ps sp) (hr : Room (n + 1) X.A) (hb : Binds K fd ps []) (hx : Passes CX X E) : OpR X (compareOp .NotEq) (rNeO K C t sp E) := by
  subst hK
  intro pins s σ H x y v u Q I rx ry h
  obtain ⟨a, dx, fs, rfl, ha, ty, nf, q⟩ := h
  cases (show v = Value.ref a from rx)
  obtain ⟨mA, J, _⟩ := ins_get I.hok ha
  obtain ⟨od, J, _⟩ := J.look
  obtain ⟨m, hF⟩ := I.fr
  obtain ⟨P, Z, hP, _⟩ := kit_of I ry ty
  have hr1 : Room n X.A.in1 := Room.in1 hr
  show wpAny _ _ (richCompare .NotEq (.ref a) u) _ _ _
  refine ne_K (tb := t) hr1.units0 hF I.ok.mod.kin J (Z.ty _ _ I.kIn hP) nf hn.ne hn.plain hm.at_ hm.fn ?_
  refine wpAny_mono (run_fnA (us := [.ref a, u]) (vs := [.ref a, y]) F hr1 I.env0.in1 hb hx I (.cons rfl (.cons ry .nil)) q) (fun w s' z => ?_) fun _ _ e => e
  obtain ⟨z', H', I', rz, b, rfl, qz⟩ := z
  cases (show w = Value.bool b from rz)
  exact ⟨b, rfl, .bl (!b), H', I', rfl, qz⟩
end
section
variable {α β γ : Type} {r ra : Rp α} {rb : Rp β} {rc : Rp γ} {te ta tb : TE} {Γ Γ1 Γ2 : List Sl} {K : PySem.W.Frag} {w : Rw α} {C : Addr} {names : List Str} {x : α} {y : β} {E : XK}
theorem ev_neO {t : Value} {m : α × β → Option Bool} {b : Bool} (ha : EvX (rIns C names w) ta Γ Γ1 x) (hb : EvX rb tb Γ1 Γ2 y) (ty : TyR K rb t) (nf : PySem.W.notFirst K C t = true) (e : m (x, y) = some b) : EvX rBool (tOp (rNeO K C t (SpP (wC (rIns C names w) (w1 rb)) rBool m) E) ta tb) Γ Γ2 (!b) := fun A σ H B F Q q =>
  ha A σ H B F _ fun u H1 B1 F1 s1 k1 => hb A σ H1 B1 F1 _ fun v H2 B2 F2 s2 k2 => by
    have k1' := (rIns C names w).mono s2 k1
    obtain ⟨p, dx, vs, rfl, hp, l, kw⟩ := ob_ins F2.bh k1'
    exact ⟨p, dx, _, rfl, hp, ty _ _ _ (rb.mono F2.bh k2), nf, B2, (x, y), b, F2.szt, F2.bh, ⟨_, _, rfl, k1', _, rfl, k2⟩, e, fun H3 B3 v3 P k3 => ⟨b, k3, q _ H3 B3 (F2.after P) ((s1.trans s2).trans P.b0) rfl⟩⟩
end
end G

set_option maxHeartbeats 4000000
/-! # G: lists of the frame's own in lists of its own; more words of lists -/
namespace G
variable [TabL]
open PySem PySem.Spec PyProof.Rows L2
/-- rows of values that own objects -/
structure Tw (α : Type) where
  ok : Hp → Hp → (Addr → Prop) → List V → α → Prop
  mono : ∀ {B B' H H' : Hp} {o o' : Addr → Prop} {vs : List V} {a : α}, Same B B' → (∀ p u, o p → H p = some u → H' p = some u) → (∀ p, o p → o' p) → ok B H o vs a → ok B' H' o' vs a
def tI {α : Type} (r : Rp α) : Tr α := ⟨fun B _ _ v a => r.rel B v a, fun b _ _ h => r.mono b h⟩
def tK {α : Type} (c : Cl α) : Tr α := ⟨fun B H o v a => ∃ p u, v = .ref p ∧ o p ∧ H p = some u ∧ c.ok B u a, fun b k n ⟨p, u, e, op, hu, q⟩ => ⟨p, u, e, n p op, k p u op hu, c.mono b q⟩⟩
def tw0 : Tw Unit := ⟨fun _ _ _ vs _ => vs = [], fun _ _ _ h => h⟩
def tw1 {α : Type} (t : Tr α) : Tw α := ⟨fun B H o vs a => ∃ v, vs = [v] ∧ t.ok B H o v a, fun b k n ⟨v, e, q⟩ => ⟨v, e, t.mono b k n q⟩⟩
def twC {α β : Type} (t : Tr α) (w : Tw β) : Tw (α × β) := ⟨fun B H o vs a => ∃ v vs' o1 o2, vs = v :: vs' ∧ (∀ p, o1 p → o p) ∧ (∀ p, o2 p → o p) ∧ (∀ p, o1 p → ¬ o2 p) ∧ t.ok B H o1 v a.1 ∧ w.ok B H o2 vs' a.2,
  by
    intro B B' H H' o o' vs a b k n ⟨v, vs', o1, o2, e, h1, h2, hd, q1, q2⟩
    exact ⟨v, vs', o1, o2, e, fun p z => n p (h1 p z), fun p z => n p (h2 p z), hd, t.mono (o := o1) (o' := o1) b (fun p u z => k p u (h1 p z)) (fun _ z => z) q1, w.mono (o := o2) (o' := o2) b (fun p u z => k p u (h2 p z)) (fun _ z => z) q2⟩⟩
def tH {α : Type} (w : Tw α) : Tr α := ⟨fun B H o v a => ∃ p vs, v = .ref p ∧ o p ∧ H p = some (.lst vs) ∧ w.ok B H (fun q => o q ∧ q ≠ p) vs a,
  fun b k n ⟨p, vs, e, op, hp, q⟩ => ⟨p, vs, e, n p op, k p _ op hp, w.mono b (fun q u z => k q u z.1) (fun q z => ⟨n q z.1, z.2⟩) q⟩⟩
/-- the k-th of a row: what it is, and what becomes of the row if it changes -/
def AccT {α β : Type} (w : Tw α) (k : Nat) (t : Tr β) (f : α → β) (g : α → β → α) : Prop := ∀ B H o vs a, w.ok B H o vs a → k < vs.length ∧ ∃ v o1, vs[k]? = some v ∧ (∀ p, o1 p → o p) ∧ t.ok B H o1 v (f a) ∧
  ∀ B' H' v' b, Same B B' → (∀ p u, o p → ¬ o1 p → H p = some u → H' p = some u) → t.ok B' H' o1 v' b → w.ok B' H' o (vs.set k v') (g a b)
theorem Paired.setR {α β : Type} {F : α → β → Prop} {x : α} {y : β} (h : F x y) : ∀ {l₁ : List α} {l₂ : List β} (n : Nat), Paired F l₁ l₂ → Paired F (l₁.set n x) (l₂.set n y)
  | _, _, _, .nil => .nil
  | _, _, 0, .cons _ t => .cons h t
  | _, _, n + 1, .cons q t => .cons q (Paired.setR h n t)
theorem Paired.eraseR {α β : Type} {F : α → β → Prop} : ∀ {l₁ : List α} {l₂ : List β} (n : Nat), Paired F l₁ l₂ → Paired F (l₁.eraseIdx n) (l₂.eraseIdx n)
  | _, _, _, .nil => .nil
  | _, _, 0, .cons _ t => t
  | _, _, n + 1, .cons q t => .cons q (Paired.eraseR n t)
section
variable {α β γ δ ρ : Type} {r ra : Rp α} {rb : Rp β} {c : Cl β} {t : Tr α} {tb : Tr β} {w : Tw α} {wb : Tw β} {te ta : TE} {A : Amb} {D : Ends} {Γ Γ1 : List Sl} {i k : Nat} {v : V} {a x : α} {b y : β} {K : PySem.W.Frag} {u : TS} {f : α → β} {g : α → β → α}
theorem accT1 : AccT (tw1 t) 0 t (fun a => a) (fun _ b => b) := fun B H o vs a ⟨v, e, q⟩ => ⟨by rw [e]; exact Nat.zero_lt_one, v, o, by rw [e]; rfl, fun _ z => z, q, fun B' H' v' b _ _ z => ⟨v', by rw [e]; rfl, z⟩⟩
theorem accT0 : AccT (twC t wb) 0 t (·.1) (fun a b => (b, a.2)) := fun B H o vs a ⟨v, vs', o1, o2, e, h1, h2, hd, q1, q2⟩ => ⟨by rw [e, List.length_cons]; omega, v, o1, by rw [e]; rfl, h1, q1, fun B' H' v' b bb k z =>
  ⟨v', vs', o1, o2, by rw [e]; rfl, h1, h2, hd, z, wb.mono bb (fun p u o => k p u (h2 p o) fun z => hd p z o) (fun _ z => z) q2⟩⟩
theorem accTS {tc : Tr γ} {f : β → γ} {g : β → γ → β} (h : AccT wb k tc f g) : AccT (twC t wb) (k + 1) tc (fun a => f a.2) (fun a b => (a.1, g a.2 b)) := fun B H o vs a ⟨v, vs', o1, o2, e, h1, h2, hd, q1, q2⟩ => by
  obtain ⟨hl, x, o3, hx, h3, q3, q⟩ := h B H o2 vs' a.2 q2
  refine ⟨by rw [e, List.length_cons]; omega, x, o3, by rw [e]; simpa using hx, fun p z => h2 p (h3 p z), q3, fun B' H' v' b bb kk z => ⟨v, vs'.set k v', o1, o2, by rw [e]; rfl, h1, h2, hd, t.mono bb (fun p u op => kk p u (h1 p op) fun z => hd p op (h3 p z)) (fun _ z => z) q1, q B' H' v' b bb (fun p u op n => kk p u (h2 p op) n) z⟩⟩
/-- what is seen of the frame's own list of lists -/
theorem tre_at {σ : L2.St} {H B : Hp} (F : Frm A σ H B Γ) (h : Γ[i]? = some (.tre v (tH w) a)) : ∃ p vs o, v = .ref p ∧ σ[i]? = some (some (.ref p)) ∧ H p = some (.lst vs) ∧ w.ok B H o vs a := by
  obtain ⟨e, o, _, p, vs, rfl, op, hp, k⟩ := F.sl i _ h
  exact ⟨p, vs, _, rfl, e, hp, k⟩
/-- a reading that makes nothing -/
def EvK {α : Type} (r : Rp α) (t : TE) (Γ : List Sl) (a : α) : Prop := ∀ (A : Amb) (σ : L2.St) (H B : Hp), Frm A σ H B Γ → ∀ Q : VK, (∀ v, r.rel B v a → Q v H) → t σ H Q
theorem ev_K (h : EvK r te Γ a) : EvX r te Γ Γ a := fun A σ H B F Q q => h A σ H B F Q fun v k => q v H B F (Same.refl _) k
theorem ek_var (h : Γ[i]? = some (.imm r a)) : EvK r (tVar i) Γ a := fun A σ H B F Q q => by
  obtain ⟨v, e, k⟩ := F.sl i _ h
  exact ⟨v, e, q v k⟩
theorem ek_int {j : Int} : EvK rInt (tC (.int j)) Γ j := fun A σ H B F Q q => q _ rfl
theorem ek_to {a' : α} (h : EvK r te Γ a) (e : a = a') : EvK r te Γ a' := e ▸ h
theorem ek_I {C : Int → Int → Prop} {g : Int → Int → Int} {j l : Int} {tb : TE} (ha : EvK rInt ta Γ j) (hb : EvK rInt tb Γ l) (hc : C j l) : EvK rInt (tOp (rI C fun i j => .int (g i j)) ta tb) Γ (g j l) := fun A σ H B F Q q =>
  ha A σ H B F _ fun x kx => hb A σ H B F _ fun y ky => ⟨j, l, kx, ky, hc, q _ rfl⟩
theorem ek_I0 {g : Int → Int → Int} {j l : Int} {tb : TE} (ha : EvK rInt ta Γ j) (hb : EvK rInt tb Γ l) : EvK rInt (tOp (rI0 fun i j => .int (g i j)) ta tb) Γ (g j l) := fun A σ H B F Q q =>
  ha A σ H B F _ fun x kx => hb A σ H B F _ fun y ky => ⟨j, l, kx, ky, q _ rfl⟩
/-- x[k], a value -/
theorem ek_treI (h : Γ[i]? = some (.tre v (tH w) a)) (s : AccT w k (tI rb) f g) : EvK rb (tOp (rIxL K) (tVar i) (tC (.int (k : Int)))) Γ (f a) := fun A σ H B F Q q => by
  obtain ⟨p, vs, o, rfl, e, hp, kw⟩ := tre_at F h
  obtain ⟨_, z, o1, hz, _, kz, _⟩ := s B H o vs a kw
  exact ⟨_, e, p, vs, (k : Int), z, rfl, rfl, SqL.of hp, atI_nat hz, q z kz⟩
/-- x[k], a list of the frame's own -/
theorem tre_sub {xs : List δ} {rd : Rp δ} {f : α → List δ} {g : α → List δ → α} {σ : L2.St} {H B : Hp} (F : Frm A σ H B Γ) (h : Γ[i]? = some (.tre v (tH w) a)) (s : AccT w k (tK (cLst rd)) f g) : ∃ p vs o q zs, v = .ref p ∧ σ[i]? = some (some (.ref p)) ∧ H p = some (.lst vs) ∧ w.ok B H o vs a ∧ vs[k]? = some (.ref q) ∧ H q = some (.lst zs) ∧ Paired (rd.rel B) zs (f a) := by
  obtain ⟨p, vs, o, rfl, e, hp, kw⟩ := tre_at F h
  obtain ⟨_, z, o1, hz, _, ⟨q, w, rfl, _, hq, zs, rfl, kz⟩, _⟩ := s B H o vs a kw
  exact ⟨p, vs, o, q, zs, rfl, e, hp, kw, hz, hq, kz⟩
theorem ek_treL {rd : Rp δ} {f : α → List δ} {g : α → List δ → α} (h : Γ[i]? = some (.tre v (tH w) a)) (s : AccT w k (tK (cLst rd)) f g) : EvK rInt (tCB (RLen K) (tCons (tOp (rIxL K) (tVar i) (tC (.int (k : Int)))) tNil)) Γ ((f a).length : Int) := fun A σ H B F Q q => by
  obtain ⟨p, vs, o, l, zs, rfl, e, hp, kw, hz, hq, kz⟩ := tre_sub (xs := f a) F h s
  exact ⟨_, e, p, vs, (k : Int), _, rfl, rfl, SqL.of hp, atI_nat hz, l, zs, rfl, .inl (SqL.of hq), by rw [Paired.len kz]; exact q _ rfl⟩
theorem ek_treX {rd : Rp δ} {f : α → List δ} {g : α → List δ → α} {d : δ} {j : Int} {tj : TE} (h : Γ[i]? = some (.tre v (tH w) a)) (s : AccT w k (tK (cLst rd)) f g) (hj : EvK rInt tj Γ j) (e : atI (f a) j = some d) : EvK rd (tOp (rIxL K) (tOp (rIxL K) (tVar i) (tC (.int (k : Int)))) tj) Γ d := fun A σ H B F Q q => by
  obtain ⟨p, vs, o, l, zs, rfl, e1, hp, kw, hz, hq, kz⟩ := tre_sub (xs := f a) F h s
  obtain ⟨z, hz2, kz2⟩ := atI_rel kz e
  exact ⟨_, e1, p, vs, (k : Int), _, rfl, rfl, SqL.of hp, atI_nat hz, hj A σ H B F _ fun y ky => ⟨l, zs, j, z, rfl, ky, SqL.of hq, hz2, q z kz2⟩⟩
theorem len_set_sz {H : Hp} {p : Addr} {vs : List V} {v : V} {k : Nat} (z : Sz H) (hp : H p = some (.lst vs)) : szO (.lst (vs.set k v)) := by show (vs.set k v).length ≤ _; rw [List.length_set]; exact z _ _ hp
/-- x[k] = e, a value -/
theorem Frm.treI {σ : L2.St} {H B : Hp} {p : Addr} {vs : List V} {z : V} (F : Frm A σ H B Γ) (h : Γ[i]? = some (.tre (.ref p) (tH w) a)) (s : AccT w k (tI rb) f g) (hp : H p = some (.lst vs)) (kz : rb.rel B z b) : Frm A σ (upd H p (.lst (vs.set k z))) B (Γ.set i (.tre (.ref p) (tH w) (g a b))) := by
  obtain ⟨e1, o0, ho, p', vs', e2, op, hp', kw⟩ := F.sl i _ h
  cases e2
  rw [hp] at hp'; cases hp'
  have n := (ho p op).1
  have m := (ho p op).2.2
  refine F.chg h ⟨fun b u q => ?_, F.b0, fun b u nm nt q => ?_, F.out, fun b n => ?_, F.sub, F.mh, F.ph, F.sz.upd (len_set_sz F.sz hp), F.tb.upd (F.tb.nt hp fun _ z => nomatch z)⟩ (Same.refl _) fun ow hh so => ⟨ow, fun q z => .inl z, fun q z => ?_, fun q h nq => ⟨h.1, fun u hu => ?_⟩, e1, ?_⟩
  · have hb : b ≠ p := fun z => by rw [z, n] at q; cases q
    rw [upd_ne hb]; exact F.bh b u q
  · have hb : b ≠ p := fun z => by
      rcases m with m | m
      · rw [z, m] at q; cases q
      · rw [z] at nm; exact nm m
    rw [upd_ne hb]; exact F.keep b u nm nt q
  · by_cases hb : b = p
    · rw [hb, upd_same]; simp
    · rw [upd_ne hb]; exact F.alive b n
  · have h := hh q z
    refine ⟨h.1, ?_, h.2.2⟩
    by_cases hb : q = p
    · rw [hb, upd_same]; simp
    · rw [upd_ne hb]; exact h.2.1
  · obtain ⟨_, q', _, e3, oq, _⟩ := so
    cases e3
    have hq : q ≠ p := fun z => nq (by rw [z]; exact oq)
    rw [upd_ne hq]; exact hu
  · obtain ⟨_, q', vs2, e3, oq, hq', kw2⟩ := so
    cases e3
    rw [hp] at hq'; cases hq'
    obtain ⟨_, _, o1, _, h1, _, q⟩ := s B H _ vs a kw2
    exact ⟨p, _, rfl, oq, upd_same, q B _ z b (Same.refl _) (fun q u oq _ hu => by rw [upd_ne oq.2]; exact hu) kz⟩
theorem sq_setT (h : EvX rb te Γ Γ1 b) (hi : Γ1[i]? = some (.tre v (tH w) a)) (s : AccT w k (tI rb) f g) (n : Nx A (u D) (Γ1.set i (.tre v (tH w) (g a b)))) : Nx A (tSeq (tAsg te (gSub (tVar i) (tC (.int (k : Int))) rSetL)) u D) Γ := fun σ H B F =>
  h A σ H B F _ fun z H1 B1 F1 s1 k1 => by
    obtain ⟨p, vs, o, rfl, e, hp, kw⟩ := tre_at F1 hi
    obtain ⟨hk, _⟩ := s B1 H1 o vs a kw
    refine ⟨_, e, p, vs, (k : Int), k, rfl, rfl, hp, ?_, n σ _ B1 (F1.treI hi s hp k1)⟩
    unfold ixN; rw [if_pos (by omega), if_pos (by omega)]; simp
/-- a list of the frame's own within its own list is changed -/
theorem Frm.treS {rd : Rp δ} {f : α → List δ} {g : α → List δ → α} {σ : L2.St} {H B : Hp} {p q : Addr} {vs zs' : List V} {xs' : List δ} (F : Frm A σ H B Γ) (h : Γ[i]? = some (.tre (.ref p) (tH w) a)) (s : AccT w k (tK (cLst rd)) f g) (hp : H p = some (.lst vs)) (hv : vs[k]? = some (.ref q)) (hz : szO (.lst zs')) (kz : Paired (rd.rel B) zs' xs') :
    Frm A σ (upd H q (.lst zs')) B (Γ.set i (.tre (.ref p) (tH w) (g a xs'))) := by
  obtain ⟨e1, o0, ho, p', vs', e2, op, hp', kw⟩ := F.sl i _ h
  cases e2
  rw [hp] at hp'; cases hp'
  obtain ⟨_, z, o1, hz1, h1, ⟨q', w1, e4, oq1, hq1, _⟩, _⟩ := s B H _ vs a kw
  rw [hv] at hz1; cases hz1
  cases e4
  have oq0 := (h1 q oq1).1
  have n := (ho q oq0).1
  have m := (ho q oq0).2.2
  refine F.chg h ⟨fun b u z => ?_, F.b0, fun b u nm nt z => ?_, F.out, fun b n => ?_, F.sub, F.mh, F.ph, F.sz.upd hz, F.tb.upd (Hot.nt (ho q oq0) F.mh)⟩ (Same.refl _) fun ow hh so => ?_
  · have hb : b ≠ q := fun e => by rw [e, n] at z; cases z
    rw [upd_ne hb]; exact F.bh b u z
  · have hb : b ≠ q := fun e => by
      rcases m with m | m
      · rw [e, m] at z; cases z
      · rw [e] at nm; exact nm m
    rw [upd_ne hb]; exact F.keep b u nm nt z
  · by_cases hb : b = q
    · rw [hb, upd_same]; simp
    · rw [upd_ne hb]; exact F.alive b n
  · obtain ⟨_, p2, vs2, e3, op2, hp2, kw2⟩ := so
    cases e3
    rw [hp] at hp2; cases hp2
    obtain ⟨_, z2, o2, hz2, h2, ⟨q2, w2, e5, oq2, hq2, zz, ez, kk⟩, fin⟩ := s B H _ vs a kw2
    rw [hv] at hz2; cases hz2
    cases e5
    have ne : q ≠ p := (h2 q oq2).2
    refine ⟨ow, fun q z => .inl z, fun b z => ?_, fun b h nb => ⟨h.1, fun u hu => ?_⟩, e1, p, vs, rfl, op2, by rw [upd_ne (Ne.symm ne)]; exact hp, ?_⟩
    · have h := hh b z
      refine ⟨h.1, ?_, h.2.2⟩
      by_cases hb : b = q
      · rw [hb, upd_same]; simp
      · rw [upd_ne hb]; exact h.2.1
    · have hb : b ≠ q := fun z => nb (by rw [z]; exact (h2 q oq2).1)
      rw [upd_ne hb]; exact hu
    · have := fin B (upd H q (.lst zs')) (.ref q) xs' (Same.refl _) (fun b u ob nb hu => by rw [upd_ne fun z => nb (by rw [z]; exact oq2)]; exact hu) ⟨q, _, rfl, oq2, upd_same, zs', rfl, kz⟩
      rw [set_same hv] at this
      exact this
/-- x[k][j] = e -/
theorem sq_setTS {rd : Rp δ} {f : α → List δ} {g : α → List δ → α} {d : δ} {j : Int} {n : Nat} {tj : TE} (h : EvX rd te Γ Γ1 d) (hi : Γ1[i]? = some (.tre v (tH w) a)) (s : AccT w k (tK (cLst rd)) f g) (hj : EvK rInt tj Γ1 j) (e : ixN (f a).length j = some n) (nx : Nx A (u D) (Γ1.set i (.tre v (tH w) (g a ((f a).set n d))))) :
    Nx A (tSeq (tAsg te (gSub (tOp (rIxL K) (tVar i) (tC (.int (k : Int)))) tj rSetL)) u D) Γ := fun σ H B F =>
  h A σ H B F _ fun z H1 B1 F1 s1 k1 => by
    obtain ⟨p, vs, o, l, zs, rfl, e1, hp, kw, hz, hq, kz⟩ := tre_sub (xs := f a) F1 hi s
    refine ⟨_, e1, p, vs, (k : Int), _, rfl, rfl, SqL.of hp, atI_nat hz, hj A σ H1 B1 F1 _ fun y ky => ⟨l, zs, j, n, rfl, ky, hq, by rw [Paired.len kz]; exact e, nx σ _ B1 (F1.treS hi s hp hz (len_set_sz F1.sz hq) ?_)⟩⟩
    exact Paired.setR k1 n kz
/-- x[k].pop(j) -/
theorem sq_popTS {rd : Rp δ} {f : α → List δ} {g : α → List δ → α} {j : Int} {n : Nat} {tj : TE} (hi : Γ[i]? = some (.tre v (tH w) a)) (s : AccT w k (tK (cLst rd)) f g) (hj : EvK rInt tj Γ j) (e : seqIndex? j (f a).length = some n) (hn : n < (f a).length) (h1 : -(2 ^ 63) ≤ j) (h2 : j < 2 ^ 63) (nx : Nx A (u D) (Γ.set i (.tre v (tH w) (g a ((f a).eraseIdx n))))) :
    Nx A (tSeq (tDrop (tBM K "list" rPopAt (tOp (rIxL K) (tVar i) (tC (.int (k : Int)))) (tCons tj tNil))) u D) Γ := fun σ H B F => by
  obtain ⟨p, vs, o, l, zs, rfl, e1, hp, kw, hz, hq, kz⟩ := tre_sub (xs := f a) F hi s
  have hl := Paired.len kz
  obtain ⟨y, hy⟩ : ∃ y, zs[n]? = some y := ⟨zs[n]'(by omega), List.getElem?_eq_getElem (by omega)⟩
  refine ⟨_, e1, p, vs, (k : Int), _, rfl, rfl, SqL.of hp, atI_nat hz, .inl ⟨rfl, zs, SqL.of hq⟩, hj A σ H B F _ fun z kz2 => ⟨l, zs, j, n, y, rfl, by rw [show z = _ from kz2], hq, h1, h2, by rw [hl]; exact e, hy, nx σ _ B (F.treS hi s hp hz ?_ (Paired.eraseR n kz))⟩⟩
  show (zs.eraseIdx n).length ≤ sizeLine
  have := F.sz _ _ hq
  exact Nat.le_trans (List.length_eraseIdx_le ..) this
/-- one of two items, by a number -/
def pick2 (j : Int) (x y : β) : Option β := if j = 0 then some x else if j = 1 then some y else none
theorem ek_treI' {j : Int} {tj : TE} (h : Γ[i]? = some (.tre v (tH w) a)) (s : AccT w k (tI rb) f g) (hj : EvK rInt tj Γ j) (e : j = (k : Int)) : EvK rb (tOp (rIxL K) (tVar i) tj) Γ (f a) := fun A σ H B F Q q => by
  subst e
  obtain ⟨p, vs, o, rfl, e, hp, kw⟩ := tre_at F h
  obtain ⟨_, z, o1, hz, _, kz, _⟩ := s B H o vs a kw
  exact ⟨_, e, hj A σ H B F _ fun y ky => ⟨p, vs, (k : Int), z, rfl, ky, SqL.of hp, atI_nat hz, q z kz⟩⟩
theorem ek_pick {j : Int} {tj : TE} {f0 f1 : α → β} {g0 g1 : α → β → α} (h : Γ[i]? = some (.tre v (tH w) a)) (s0 : AccT w 0 (tI rb) f0 g0) (s1 : AccT w 1 (tI rb) f1 g1) (hj : EvK rInt tj Γ j) (e : pick2 j (f0 a) (f1 a) = some b) : EvK rb (tOp (rIxL K) (tVar i) tj) Γ b := by
  unfold pick2 at e
  split at e
  · rename_i z; cases e; exact ek_treI' h s0 hj z
  · split at e
    · rename_i z; cases e; exact ek_treI' h s1 hj z
    · cases e
theorem sq_setT' {j : Int} {tj : TE} (h : EvX rb te Γ Γ1 b) (hi : Γ1[i]? = some (.tre v (tH w) a)) (s : AccT w k (tI rb) f g) (hj : EvK rInt tj Γ1 j) (e : j = (k : Int)) (n : Nx A (u D) (Γ1.set i (.tre v (tH w) (g a b)))) : Nx A (tSeq (tAsg te (gSub (tVar i) tj rSetL)) u D) Γ := fun σ H B F =>
  h A σ H B F _ fun z H1 B1 F1 s1 k1 => by
    subst e
    obtain ⟨p, vs, o, rfl, e, hp, kw⟩ := tre_at F1 hi
    obtain ⟨hk, _⟩ := s B1 H1 o vs a kw
    refine ⟨_, e, hj A σ H1 B1 F1 _ fun y ky => ⟨p, vs, (k : Int), k, rfl, ky, hp, ?_, n σ _ B1 (F1.treI hi s hp k1)⟩⟩
    unfold ixN; rw [if_pos (by omega), if_pos (by omega)]; simp
theorem sq_put2 {j : Int} {tj : TE} {f0 f1 : α → β} {g0 g1 : α → β → α} {a' : α} (h : EvX rb te Γ Γ1 b) (hi : Γ1[i]? = some (.tre v (tH w) a)) (s0 : AccT w 0 (tI rb) f0 g0) (s1 : AccT w 1 (tI rb) f1 g1) (hj : EvK rInt tj Γ1 j) (e : pick2 j (g0 a b) (g1 a b) = some a') (n : Nx A (u D) (Γ1.set i (.tre v (tH w) a'))) : Nx A (tSeq (tAsg te (gSub (tVar i) tj rSetL)) u D) Γ := by
  unfold pick2 at e
  split at e
  · rename_i z; cases e; exact sq_setT' h hi s0 hj z n
  · split at e
    · rename_i z; cases e; exact sq_setT' h hi s1 hj z n
    · cases e
/-! ### making -/
structure Ext (A A' : Amb) (n : Addr → Prop) : Prop where
  b0 : A'.B0 = A.B0
  m : A'.m = A.m
  ph : ∀ B, A'.φ B → A.φ B
  old : ∀ p o, A.H0 p = some o → A'.H0 p = some o
  new : ∀ p, n p → A.H0 p = none ∧ A'.H0 p ≠ none
theorem Ext.refl (A : Amb) : Ext A A (fun _ => False) := ⟨rfl, rfl, fun _ h => h, fun _ _ h => h, fun _ h => h.elim⟩
theorem Ext.trans {A A' A2 : Amb} {n n2 : Addr → Prop} (E : Ext A A' n) (E2 : Ext A' A2 n2) : Ext A A2 (fun p => n p ∨ n2 p) := ⟨E2.b0.trans E.b0, E2.m.trans E.m, fun B h => E.ph B (E2.ph B h), fun p o h => E2.old p o (E.old p o h), fun p h => by
  rcases h with h | h
  · obtain ⟨h1, h2⟩ := E.new p h
    refine ⟨h1, ?_⟩
    cases e : A'.H0 p with
    | none => exact absurd e h2
    | some u => rw [E2.old p u e]; simp
  · obtain ⟨h1, h2⟩ := E2.new p h
    refine ⟨?_, h2⟩
    cases e : A.H0 p with
    | none => rfl
    | some u => rw [E.old p u e] at h1; cases h1⟩
theorem Ext.add {A : Amb} {p : Addr} {o : HO} (h : A.H0 p = none) : Ext A (A.add p o) (fun q => q = p) := ⟨rfl, rfl, fun _ h => h, fun q u e => by
  show upd A.H0 p o q = some u
  rw [upd_ne (ne_of_none e h)]; exact e, fun q e => by
  subst e
  exact ⟨h, by show upd A.H0 q o q ≠ none; rw [upd_same]; simp⟩⟩
/-- new objects stay as they are -/
theorem Ext.stay {A A' : Amb} {n : Addr → Prop} {σ : L2.St} {H B : Hp} (E : Ext A A' n) (mh : MH A) {Γ : List Sl} (F : Frm A' σ H B Γ) {p : Addr} {o : HO} (h : n p) (e : A'.H0 p = some o) : H p = some o := F.keep p o (fun z => mh.al p (by rw [← E.m]; exact z) (E.new p h).1) (fun z => mh.tb p z (E.new p h).1) e
theorem Ext.keeps {A A' : Amb} {n : Addr → Prop} {σ : L2.St} {H B H2 B2 : Hp} (E : Ext A A' n) (mh : MH A) {Γ Γ2 : List Sl} (F : Frm A' σ H B Γ) (F2 : Post A' H2 B2) (p : Addr) (u : HO) (h : n p) (e : H p = some u) : H2 p = some u := by
  obtain ⟨_, h2⟩ := E.new p h
  cases q : A'.H0 p with
  | none => exact absurd q h2
  | some o =>
    have nm : ¬ A'.m p := fun z => mh.al p (by rw [← E.m]; exact z) (E.new p h).1
    have nt : ¬ isTab p := fun z => mh.tb p z (E.new p h).1
    have := F.keep p o nm nt q
    rw [this] at e; cases e
    exact F2.keep p _ nm nt q
def EvN {α : Type} (w : Tw α) (ta : TA) (Γ Γ' : List Sl) (a : α) : Prop := ∀ (A : Amb) (σ : L2.St) (H B : Hp), Frm A σ H B Γ → ∀ Q : List V → Hp → Prop, (∀ vs H' B' A' n, Frm A' σ H' B' Γ' → Ext A A' n → Same B B' → w.ok B' H' n vs a → Q vs H') → ta σ H Q
theorem en_0 : EvN tw0 tNil Γ Γ () := fun A σ H B F Q q => q _ H B A _ F (Ext.refl A) (Same.refl _) rfl
theorem en_1I (h : EvX r te Γ Γ1 a) : EvN (tw1 (tI r)) (tCons te tNil) Γ Γ1 a := fun A σ H B F Q q => h A σ H B F _ fun v H1 B1 F1 s1 k1 => q _ H1 B1 A _ F1 (Ext.refl A) s1 ⟨v, rfl, k1⟩
theorem hid_hp {σ : L2.St} {H B : Hp} {p : Addr} {o : HO} (F : Frm (A.add p o) σ H B Γ) (h0 : A.H0 p = none) (mh : MH A) : H p = some o := F.hid h0 mh
theorem en_1K {c : Cl α} (h : EvC c te Γ Γ1 a) : EvN (tw1 (tK c)) (tCons te tNil) Γ Γ1 a := fun A σ H B F Q q => h A σ H B F _ fun p o H1 B1 F1 n1 s1 k1 => q _ H1 B1 _ _ F1 (Ext.add n1) s1 ⟨_, rfl, p, o, rfl, rfl, hid_hp F1 n1 F.mh, k1⟩
variable {Γ2 : List Sl} {tr : TA}
theorem en_I (h : EvX r te Γ Γ1 a) (hr : EvN wb tr Γ1 Γ2 y) : EvN (twC (tI r) wb) (tCons te tr) Γ Γ2 (a, y) := fun A σ H B F Q q =>
  h A σ H B F _ fun v H1 B1 F1 s1 k1 => hr A σ H1 B1 F1 _ fun vs H2 B2 A2 n2 F2 E2 s2 k2 => q _ H2 B2 A2 n2 F2 E2 (s1.trans s2) ⟨v, vs, fun _ => False, n2, rfl, fun _ z => z.elim, fun _ z => z, fun _ z => z.elim, r.mono s2 k1, k2⟩
theorem en_K {c : Cl α} (h : EvC c te Γ Γ1 a) (hr : EvN wb tr Γ1 Γ2 y) : EvN (twC (tK c) wb) (tCons te tr) Γ Γ2 (a, y) := fun A σ H B F Q q =>
  h A σ H B F _ fun p o H1 B1 F1 n1 s1 k1 => hr (A.add p o) σ H1 B1 F1 _ fun vs H2 B2 A2 n2 F2 E2 s2 k2 => by
    have E1 := Ext.add (o := o) n1
    refine q _ H2 B2 A2 _ F2 (E1.trans E2) (s1.trans s2) ⟨_, vs, fun q => q = p, n2, rfl, fun _ z => .inl z, fun _ z => .inr z, fun b hb z => ?_, ⟨p, o, rfl, rfl, ?_, c.mono s2 k1⟩, k2⟩
    · have := (E2.new b z).1
      rw [hb] at this
      have t : upd A.H0 p o p = none := this
      rw [upd_same] at t; cases t
    · refine F2.keep p o (fun z => ?_) (fun z => F.mh.tb p z n1) (E2.old p o upd_same)
      rw [E2.m] at z
      exact F.mh.al p z n1
theorem Ext.post {A A' : Amb} {n : Addr → Prop} {H B : Hp} (E : Ext A A' n) (sub : Same A.B0 A.H0) (mh : MH A) (P : Post A' H B) : Post A H B :=
  ⟨P.bh, fun p o e => P.b0 p o (by rw [E.b0]; exact e), fun p o m nt e => P.keep p o (by rw [E.m]; exact m) nt (E.old p o e), fun p n z => P.out p (by
    cases e : A.H0 p with
    | none => exact absurd e n
    | some u => rw [E.old p u e]; simp) (by rw [E.b0]; exact z), fun p n => P.alive p (by
    cases e : A.H0 p with
    | none => exact absurd e n
    | some u => rw [E.old p u e]; simp), sub, mh, E.ph B P.ph, P.sz, P.tb⟩
/-- new objects, with all that they own, at a slot -/
theorem Frm.ownsT {A' : Amb} {n : Addr → Prop} {σ : L2.St} {H B : Hp} {t : Tr α} (F : Frm A' σ H B Γ) (E : Ext A A' n) (sub : Same A.B0 A.H0) (mh : MH A) (k : t.ok B H n v a) : Frm A (σ.set i (some v)) H B (Γ.set i (.tre v t a)) := by
  refine F.owns n (E.post sub mh F.post) (fun q hq => ?_) (fun q h => ?_) fun hl => ⟨by rw [List.getElem?_set_self (by rw [F.len]; exact hl)], k⟩
  · obtain ⟨h1, h2⟩ := E.new q hq
    refine ⟨⟨F.out q h2 ?_, F.alive q h2, .inl h1⟩, fun z => ?_⟩
    · rw [E.b0]
      cases e : A.B0 q with
      | none => rfl
      | some u => rw [sub q u e] at h1; cases h1
    · rcases z.2.2 with z | z
      · exact h2 z
      · rw [E.m] at z; exact mh.al q z h1
  · rcases h.2.2 with z | z
    · left
      cases e : A.H0 q with
      | none => rfl
      | some u => rw [E.old q u e] at z; cases z
    · right; rw [← E.m]; exact z
class TLen {α : Type} (w : Tw α) (n : outParam Nat) : Prop where
  len : ∀ {B H o vs a}, w.ok B H o vs a → vs.length = n
instance (t : Tr α) : TLen (tw1 t) 1 := ⟨fun ⟨v, e, _⟩ => by rw [e]; rfl⟩
instance (t : Tr α) (w : Tw β) {n : Nat} [i : TLen w n] : TLen (twC t w) (n + 1) := ⟨fun {B H o vs a} h => by
  obtain ⟨v, vs', o1, o2, e, _, _, _, _, k⟩ := h
  rw [e, List.length_cons, i.len k]⟩
theorem sq_asgN {n : Nat} [z : TLen w n] {ta : TA} (h : EvN w ta Γ Γ1 a) (k : ∀ p, Nx A (u D) (Γ1.set i (.tre (.ref p) (tH w) a))) (hn : n ≤ 1000 := by decide) : Nx A (tSeq (tAsg (tLst ta) (gName i)) u D) Γ := fun σ H B F => h A σ H B F _ fun vs H1 B1 A1 n1 F1 E1 s1 k1 => by
  have hl : vs.length ≤ sizeLine := by rw [z.len k1]; exact Nat.le_of_lt (small1000 hn)
  refine ⟨hl, fun p hp => ?_⟩
  have F2 := F1.fresh (o := .lst vs) hp hl
  have h0 := F1.H0none hp
  have E2 := E1.trans (Ext.add (o := .lst vs) h0)
  have np : ¬ n1 p := fun q => (E1.new p q).2 h0
  refine k p _ _ B1 (F2.ownsT (t := tH w) (n := fun q => n1 q ∨ q = p) E2 F.sub F.mh ⟨p, vs, rfl, .inr rfl, upd_same, w.mono (Same.refl _) (fun q u nq hu => ?_) (fun q nq => ⟨.inl nq, fun e => np (by rw [← e]; exact nq)⟩) k1⟩)
  rw [upd_ne fun e => np (by rw [← e]; exact nq)]; exact hu
/-! ### what is owned is changed no more -/
open Classical in
noncomputable def fz (B H : Hp) (o : Addr → Prop) : Hp := fun p => if o p then H p else B p
theorem fz_in {B H : Hp} {o : Addr → Prop} {p : Addr} (h : o p) : fz B H o p = H p := by unfold fz; rw [if_pos h]
theorem fz_out {B H : Hp} {o : Addr → Prop} {p : Addr} (h : ¬ o p) : fz B H o p = B p := by unfold fz; rw [if_neg h]
theorem fz_same {B H : Hp} {o : Addr → Prop} (h : ∀ p, o p → B p = none) : Same B (fz B H o) := fun p u e => by
  rw [fz_out fun z => by rw [h p z] at e; cases e]; exact e
theorem fz_mono {B H : Hp} {o o' : Addr → Prop} (n : ∀ p, o p → o' p) (h : ∀ p, o' p → B p = none) : Same (fz B H o) (fz B H o') := fun p u e => by
  by_cases z : o p
  · rw [fz_in z] at e; rw [fz_in (n p z)]; exact e
  · rw [fz_out z] at e
    rw [fz_out fun z => by rw [h p z] at e; cases e]; exact e
class Fz {α : Type} (t : Tr α) (r : outParam (Rp α)) : Prop where
  fz : ∀ {B H o v a}, (∀ p, o p → B p = none) → t.ok B H o v a → r.rel (G.fz B H o) v a
class FzW {α : Type} (w : Tw α) (r : outParam (Rw α)) : Prop where
  fz : ∀ {B H o vs a}, (∀ p, o p → B p = none) → w.ok B H o vs a → r.rel (G.fz B H o) vs a
instance (r : Rp α) : Fz (tI r) r := ⟨fun h k => r.mono (fz_same h) k⟩
instance (c : Cl α) : Fz (tK c) (rOb c) := ⟨fun h ⟨p, u, e, op, hu, k⟩ => ⟨p, u, e, by rw [fz_in op]; exact hu, c.mono (fz_same h) k⟩⟩
instance (t : Tr α) (r : Rp α) [z : Fz t r] : FzW (tw1 t) (w1 r) := ⟨fun h ⟨v, e, k⟩ => ⟨v, e, z.fz h k⟩⟩
instance (t : Tr α) (r : Rp α) (w : Tw β) (s : Rw β) [z : Fz t r] [zw : FzW w s] : FzW (twC t w) (wC r s) := ⟨fun {B H o vs a} h k => by
  obtain ⟨v, vs', o1, o2, e, h1, h2, _, k1, k2⟩ := k
  exact ⟨v, vs', e, r.mono (fz_mono h1 h) (z.fz (fun p q => h p (h1 p q)) k1), s.mono (fz_mono h2 h) (zw.fz (fun p q => h p (h2 p q)) k2)⟩⟩
instance (w : Tw α) (s : Rw α) [zw : FzW w s] : Fz (tH w) (rHls s) := ⟨fun {B H o v a} h k => by
  obtain ⟨p, vs, e, op, hp, kw⟩ := k
  exact ⟨p, _, e, by rw [fz_in op]; exact hp, vs, rfl, s.mono (fz_mono (fun q z => z.1) h) (zw.fz (fun q z => h q z.1) kw)⟩⟩
theorem Frm.freezeT {σ : L2.St} {H B : Hp} [z : Fz t r] (F : Frm A σ H B Γ) (e : Γ[i]? = some (.tre v t a)) (hm : ∀ ow, Own A σ H B Γ ow → ∀ p, ow i p → ¬ A.m p) : ∃ B', Same B B' ∧ Frm A σ H B' (Γ.set i (.imm r a)) := by
  obtain ⟨ow, W⟩ := id F.own
  have hb : ∀ p, ow i p → B p = none := fun p h => (W.ht i p h).1
  have s := fz_same (H := H) hb
  have so := W.so i _ e
  have k := z.fz hb so.2
  refine ⟨fz B H (ow i), s, ⟨⟨fun p u q => ?_, fun p u q => s p u (F.b0 p u q), F.keep, fun p n q => ?_, F.alive, F.sub, F.mh, A.up _ _ s F.ph, F.sz, F.tb.to (fun _ _ => rfl) s fun p m => by rw [fz_out fun z => Hot.nt (W.ht i p z) F.mh m]; exact F.tb.no p m⟩, by rw [List.length_set]; exact F.len, fun j q => if j = i then False else ow j q, fun j s' ej => ?_, fun j l q hj hl => ?_, fun j q hj => ?_⟩⟩
  · by_cases h : ow i p
    · rw [fz_in h] at q; exact q
    · rw [fz_out h] at q; exact F.bh p u q
  · have h : ¬ ow i p := fun h => by
      rcases (W.ht i p h).2.2 with m | m
      · exact n m
      · exact hm ow W p h m
    rw [fz_out h]; exact F.out p n q
  · rcases getset ej with ⟨rfl, rfl, _⟩ | ⟨ne, ej⟩
    · exact ⟨v, so.1, k⟩
    · exact slo_mono (W.so j s' ej) rfl s (fun _ _ _ z => z) fun q z => by rw [if_neg (Ne.symm ne)]; exact z
  · by_cases h1 : j = i
    · rw [if_pos h1] at hj; exact hj.elim
    · by_cases h2 : l = i
      · rw [if_pos h2] at hl; exact hl.elim
      · rw [if_neg h1] at hj; rw [if_neg h2] at hl; exact W.dj j l q hj hl
  · by_cases h1 : j = i
    · rw [if_pos h1] at hj; exact hj.elim
    · rw [if_neg h1] at hj
      have h := W.ht j q hj
      exact ⟨by rw [fz_out fun z => h1 (W.dj j i q hj z)]; exact h.1, h.2⟩
theorem nx_freezeT {P : L2.St → Hp → Prop} (i : Nat) [z : Fz t r] (e : Γ[i]? = some (.tre v t a)) (hm : ∀ q, ¬ A.m q) (h : Nx A P (Γ.set i (.imm r a))) : Nx A P Γ := fun σ H B F => by
  obtain ⟨B', _, F'⟩ := F.freezeT e fun _ _ p _ => hm p
  exact h σ H B' F'
theorem nx_freezeTS {P : L2.St → Hp → Prop} {γ : Type} {cc : Cl γ} {st : γ} {p0 : Addr} {j : Nat} (i : Nat) [z : Fz t r] (e : Γ[i]? = some (.tre v t a)) (ej : Γ[j]? = some (.cel p0 cc st)) (ne : i ≠ j) (hm : ∀ q, A.m q → q = p0) (h : Nx A P (Γ.set i (.imm r a))) : Nx A P Γ := fun σ H B F => by
  obtain ⟨B', _, F'⟩ := F.freezeT e fun ow W p o m => ne (W.dj i j p o (by rw [hm p m]; exact W.cel (by rw [ej]; rfl)))
  exact h σ H B' F'
end
/-! ### more words of the frame's own lists -/
section
variable {α β γ δ ρ : Type} {r ra : Rp α} {te ta tj : TE} {A : Amb} {D : Ends} {Γ Γ1 : List Sl} {i k : Nat} {K : PySem.W.Frag} {u : TS} {p : Addr} {xs : List α}
theorem sq_rev (hi : Γ[i]? = some (.cel p (cLst r) xs)) (n : Nx A (u D) (Γ.set i (.cel p (cLst r) xs.reverse))) : Nx A (tSeq (tDrop (tBM0 K "list" rReverse (tVar i))) u D) Γ := fun σ H B F => by
  obtain ⟨e1, vs, hp, kp⟩ := cel_lst F hi
  refine ⟨_, e1, .inl ⟨rfl, vs, SqL.of hp⟩, p, vs, rfl, rfl, hp, n σ _ B (F.write hi (c' := cLst r) (o' := .lst vs.reverse) ⟨_, rfl, Paired.revR kp⟩ ?_)⟩
  show vs.reverse.length ≤ sizeLine
  rw [List.length_reverse]; exact F.sz _ _ hp
theorem sq_clr (hi : Γ[i]? = some (.cel p (cLst r) xs)) (n : Nx A (u D) (Γ.set i (.cel p (cLst r) []))) : Nx A (tSeq (tDrop (tBM0 K "list" rClear (tVar i))) u D) Γ := fun σ H B F => by
  obtain ⟨e1, vs, hp, kp⟩ := cel_lst F hi
  exact ⟨_, e1, .inl ⟨rfl, vs, SqL.of hp⟩, p, vs, rfl, rfl, hp, n σ _ B (F.write hi (c' := cLst r) (o' := .lst []) ⟨_, rfl, .nil⟩ (Nat.zero_le _))⟩
end
end G
namespace G
variable [TabL]
open PySem PySem.Spec PyProof.Rows L2
section
variable {α β γ δ ρ : Type} {r ra : Rp α} {w : Tw α} {te ta tj : TE} {tn : TA} {A : Amb} {D : Ends} {Γ Γ1 : List Sl} {i k : Nat} {K : PySem.W.Frag} {u : TS} {v : V} {a a' : α} {P : L2.St → Hp → Prop} {t : Tr α}
theorem en_to (h : EvN w tn Γ Γ1 a) (e : a = a') : EvN w tn Γ Γ1 a' := e ▸ h
theorem nx_tre (h : Γ[i]? = some (.tre v t a)) (e : a = a') (k : Nx A P (Γ.set i (.tre v t a'))) : Nx A P Γ := by
  subst e
  rw [set_same h] at k; exact k
/-- x.pop(j), what is left -/
def pyPopAt (xs : List δ) (j : Int) : Option (List δ) := match seqIndex? j xs.length with
  | some n => if n < xs.length ∧ -(2 ^ 63) ≤ j ∧ j < 2 ^ 63 then some (xs.eraseIdx n) else none
  | none => none
theorem sq_popTS' {rd : Rp δ} {f : α → List δ} {g : α → List δ → α} {j : Int} {ys : List δ} (hi : Γ[i]? = some (.tre v (tH w) a)) (s : AccT w k (tK (cLst rd)) f g) (hj : EvK rInt tj Γ j) (e : pyPopAt (f a) j = some ys) (nx : Nx A (u D) (Γ.set i (.tre v (tH w) (g a ys)))) :
    Nx A (tSeq (tDrop (tBM K "list" rPopAt (tOp (rIxL K) (tVar i) (tC (.int (k : Int)))) (tCons tj tNil))) u D) Γ := by
  unfold pyPopAt at e
  split at e
  · rename_i n hn
    split at e
    · rename_i hh
      cases e
      exact sq_popTS hi s hj hn hh.1 hh.2.1 hh.2.2 nx
    · cases e
  · cases e
theorem ek_mod {j l m : Int} {tb : TE} (ha : EvK rInt ta Γ j) (hb : EvK rInt tb Γ l) (e : pyMod j l = some m) : EvK rInt (tOp (rI (fun _ j => 0 < j) fun i j => .int (i % j)) ta tb) Γ m := by
  unfold pyMod at e; split at e
  · rename_i h; cases e; exact ek_I (g := fun i j => i % j) ha hb h
  · cases e
end
end G
namespace G
variable [TabL]
open PySem PySem.Spec PyProof.Rows L2
theorem Post.hide {A : Amb} {H B : Hp} {q : Addr} {o : HO} (P : Post A H B) (h0 : A.H0 q = none) (hq : H q = some o) (hb : B q = none) : Post (A.add q o) H B := by
  refine ⟨P.bh, P.b0, fun b u m nt e => ?_, fun b n z => ?_, fun b n => ?_, fun b u e => ?_, ⟨fun b m => ?_, P.mh.nt, fun b m => ?_⟩, P.ph, P.sz, P.tb⟩
  · by_cases h : b = q
    · subst h
      have e' : upd A.H0 b o b = some u := e
      rw [upd_same] at e'; cases e'; exact hq
    · have e' : upd A.H0 q o b = some u := e
      rw [upd_ne h] at e'; exact P.keep b u m nt e'
  · by_cases h : b = q
    · rw [h]; exact hb
    · have n' : upd A.H0 q o b ≠ none := n
      rw [upd_ne h] at n'; exact P.out b n' z
  · by_cases h : b = q
    · rw [h, hq]; simp
    · have n' : upd A.H0 q o b ≠ none := n
      rw [upd_ne h] at n'; exact P.alive b n'
  · have e0 := P.sub b u e
    show upd A.H0 q o b = some u
    rw [upd_ne (ne_of_none e0 h0)]; exact e0
  · have m0 := P.mh.al b m
    by_cases h : b = q
    · rw [h] at m0; exact absurd h0 m0
    · show upd A.H0 q o b ≠ none
      rw [upd_ne h]; exact m0
  · have m0 := P.mh.tb b m
    by_cases h : b = q
    · rw [h] at m0; exact absurd h0 m0
    · show upd A.H0 q o b ≠ none
      rw [upd_ne h]; exact m0
class NoLC {α : Type} (c : Cl α) : Prop where
  no : ∀ {B : Hp} {p : Addr} {vs : List V} {o : HO} {a : α}, B p = some (.lst vs) → c.ok B o a → c.ok (ers B p) o a
theorem paired_noL {α : Type} {r : Rp α} [NoL r] {B : Hp} {p : Addr} {vs : List V} (hp : B p = some (.lst vs)) : ∀ {us : List V} {xs : List α}, Paired (r.rel B) us xs → Paired (r.rel (ers B p)) us xs
  | _, _, .nil => .nil
  | _, _, .cons h t => .cons (NoL.no hp h) (paired_noL hp t)
instance {α : Type} (r : Rp α) [NoL r] : NoLC (cLst r) := ⟨fun hp ⟨us, e, k⟩ => ⟨us, e, paired_noL hp k⟩⟩
instance {α : Type} (r : Rp α) [NoL r] : NoLC (cTpl r) := ⟨fun hp ⟨us, e, k⟩ => ⟨us, e, paired_noL hp k⟩⟩
/-- the frame's own list is read while a new object is made -/
theorem ec_frz {α β : Type} {r : Rp α} {c : Cl β} {te : TE} {Γ : List Sl} {i : Nat} {p : Addr} {xs : List α} {b : β} [NoLC c] (hi : Γ[i]? = some (.cel p (cLst r) xs)) (h : EvC c te (frz Γ i (.imm (rLst r) xs)) (frz Γ i (.imm (rLst r) xs)) b) : EvC c te Γ Γ b := fun A σ H B F Q q => by
  obtain ⟨vs, hBp, _, F'⟩ := frz_in F hi
  refine h _ σ H _ F' _ fun q0 o H2 B2 F2 n2 s2 k2 => ?_
  have n2' : H q0 = none := n2
  obtain ⟨h1, h2, h3⟩ := frz_out F hBp (F2.drop n2 F'.sub F'.mh) s2
  have hq : H2 q0 = some o := F2.hid n2 F'.mh
  have hb : ers B2 p q0 = none := by
    by_cases e : q0 = p
    · rw [e]; exact ers_self
    · rw [ers_ne e]; exact F2.hidB n2 F'.sub
  have P3 := h3.post.hide (F.H0none n2') hq hb
  refine q q0 o H2 _ (F.move P3 h2 fun b hot => ?_) (F.H0none n2') h2 (NoLC.no h1 k2)
  have hne : b ≠ q0 := fun e => hot.2.1 (by rw [e]; exact n2')
  refine ⟨?_, ?_, fun u e => ?_⟩
  · by_cases e : b = p
    · rw [e]; exact ers_self
    · rw [ers_ne e]
      refine F2.out b ?_ (by show upd B p (.lst vs) b = none; rw [upd_ne e]; exact hot.1)
      show upd H q0 o b ≠ none
      rw [upd_ne hne]; exact hot.2.1
  · rcases hot.2.2 with m | m
    · left; show upd A.H0 q0 o b = none; rw [upd_ne hne]; exact m
    · exact .inr m
  · exact F2.keep b u (fun z => z) (hot.nt F.mh) (by show upd H q0 o b = some u; rw [upd_ne hne]; exact e)
end G
namespace G
variable [TabL]
open PySem PySem.Spec PyProof.Rows L2
theorem nx_freezeC {α : Type} {c : Cl α} {a : α} {p : Addr} {A : Amb} {Γ : List Sl} {P : L2.St → Hp → Prop} (i : Nat) (e : Γ[i]? = some (.cel p c a)) (hm : ∀ q, ¬ A.m q) (h : Nx A P (Γ.set i (.imm (rOb c) a))) : Nx A P Γ := nx_freeze i (hm p) e h
theorem nx_freezeCS {α γ : Type} {c : Cl α} {a : α} {p p0 : Addr} {cc : Cl γ} {st : γ} {j : Nat} {A : Amb} {Γ : List Sl} {P : L2.St → Hp → Prop} (i : Nat) (e : Γ[i]? = some (.cel p c a)) (ej : Γ[j]? = some (.cel p0 cc st)) (ne : i ≠ j) (hm : ∀ q, A.m q → q = p0) (h : Nx A P (Γ.set i (.imm (rOb c) a))) : Nx A P Γ := fun σ H B F => by
  have hp : ¬ A.m p := fun z => ne (F.ds i j p (by rw [e]; rfl) (by rw [ej, ← hm p z]; rfl))
  exact nx_freeze i hp e h σ H B F
end G

set_option maxHeartbeats 4000000
/-! # G: defs that may change several of their parameters -/
namespace G
variable [TabL]

open PySem PySem.Spec PyProof.Rows L2
structure Mw (γ α : Type) where
  own : Hp → Hp → (Addr → Prop) → List V → γ → Prop
  imm : Hp → List V → α → Prop
  len : Nat
  olen : ∀ {B H : Hp} {o : Addr → Prop} {vs : List V} {g : γ}, own B H o vs g → vs.length = len
section
variable {α β γ ρ κ τ : Type}
def mwN : Mw Unit Unit := ⟨fun _ _ _ vs _ => vs = [], fun _ vs _ => vs = [], 0, fun h => by rw [h]; rfl⟩
def mwI (r : Rp ρ) (w : Mw γ α) : Mw γ (ρ × α) := ⟨fun B H o vs g => ∃ v t, vs = v :: t ∧ w.own B H o t g, fun B vs a => ∃ v t, vs = v :: t ∧ r.rel B v a.1 ∧ w.imm B t a.2, w.len + 1, fun ⟨v, t, e, k⟩ => by rw [e, List.length_cons, w.olen k]⟩
def mwK (c : Cl κ) (w : Mw γ α) : Mw (κ × γ) α := ⟨fun B H o vs g => ∃ p t u, vs = .ref p :: t ∧ o p ∧ H p = some u ∧ c.ok B u g.1 ∧ w.own B H (fun q => o q ∧ q ≠ p) t g.2, fun B vs a => ∃ v t, vs = v :: t ∧ w.imm B t a, w.len + 1, fun ⟨p, t, u, e, _, _, _, k⟩ => by rw [e, List.length_cons, w.olen k]⟩
def mwT (c : Tr τ) (w : Mw γ α) : Mw (τ × γ) α := ⟨fun B H o vs g => ∃ v t o1 o2, vs = v :: t ∧ (∀ p, o1 p → o p) ∧ (∀ p, o2 p → o p) ∧ (∀ p, o1 p → ¬ o2 p) ∧ c.ok B H o1 v g.1 ∧ w.own B H o2 t g.2, fun B vs a => ∃ v t, vs = v :: t ∧ w.imm B t a, w.len + 1, fun ⟨v, t, o1, o2, e, _, _, _, _, k⟩ => by rw [e, List.length_cons, w.olen k]⟩
def ambM (B H : Hp) (o : Addr → Prop) : Amb := ⟨B, H, o, fun _ => True, fun _ _ _ _ => trivial⟩
/-- the ambient of a def that may change o -/
structure AtM (A : Amb) (H0 : Hp) (o : Addr → Prop) : Prop where
  m : A.m = o
  h : A.H0 = H0
def HotM (H0 : Hp) (o : Addr → Prop) (H B : Hp) (p : Addr) : Prop := B p = none ∧ H p ≠ none ∧ (H0 p = none ∨ o p)
theorem AtM.hot {A : Amb} {H0 : Hp} {o : Addr → Prop} (k : AtM A H0 o) {H B : Hp} {p : Addr} (h : Hot A H B p) : HotM H0 o H B p := ⟨h.1, h.2.1, by rw [← k.m, ← k.h]; exact h.2.2⟩
def psiM (H0 : Hp) (m : Addr → Prop) (w : Mw γ α) (vs : List V) (t : Tr β) (b : β × γ) (H B : Hp) (v : V) : Prop := ∃ o1 o2 : Addr → Prop, (∀ p, o1 p → HotM H0 m H B p ∧ H0 p = none) ∧ (∀ p, o2 p → HotM H0 m H B p) ∧ (∀ p, o1 p → ¬ o2 p) ∧ t.ok B H o1 v b.1 ∧ w.own B H o2 vs b.2
def SpM (w : Mw γ α) (t : Tr β) (m : γ → α → Option (β × γ)) : Sp := fun vs H Q _ => ∃ B o g a b, SzT H B ∧ Same B H ∧ (∀ p, o p → B p = none ∧ H p ≠ none ∧ ¬ isTab p) ∧ w.own B H o vs g ∧ w.imm B vs a ∧ m g a = some b ∧ Rt (ambM B H o) (psiM H o w vs t) b Q
/-! ### a def -/
def StOk (Γs : List Sl) (vs : List V) (B H : Hp) (o : Addr → Prop) : Prop := Γs.length = vs.length ∧ ∃ ow : Nat → Addr → Prop, (∀ i s, Γs[i]? = some s → ∀ σ : L2.St, (∀ v, vs[i]? = some v → σ[i]? = some (some v)) → SlO σ H B (ow i) i s) ∧ (∀ i j p, ow i p → ow j p → i = j) ∧ ∀ i p, ow i p → o p
variable {r : Rp ρ} {c : Cl κ} {t : Tr τ} {w : Mw γ α} {Γ Γs Γ1 Γ2 Γ3 : List Sl} {vs : List V} {B H : Hp} {o : Addr → Prop} {v : V} {a : α} {g : γ} {x : ρ} {y : κ} {z : τ} {A : Amb} {p : Addr} {k i : Nat} {is : List Nat}
theorem st_N : StOk [] [] B H o := ⟨rfl, fun _ _ => False, fun i s e => by simp at e, fun _ _ _ h => h.elim, fun _ _ h => h.elim⟩
/-- one slot more ahead -/
theorem st_cons {s : Sl} {o1 o2 : Addr → Prop} (h : ∀ σ : L2.St, σ[0]? = some (some v) → SlO σ H B o1 0 s) (h1 : ∀ p, o1 p → o p) (h2 : ∀ p, o2 p → o p) (hd : ∀ p, o1 p → ¬ o2 p) (S : StOk Γs vs B H o2) : StOk (s :: Γs) (v :: vs) B H o := by
  obtain ⟨hl, ow, hs, dj, ho⟩ := S
  refine ⟨by rw [List.length_cons, List.length_cons, hl], fun i q => match i with | 0 => o1 q | i + 1 => ow i q, fun i s' e σ hv => ?_, fun i j q hi hj => ?_, fun i q hi => ?_⟩
  · cases i with
    | zero => cases e; exact h σ (hv v rfl)
    | succ i =>
      have g := hs i s' (by simpa using e) σ.tail fun u hu => by
        have := hv u (by simpa using hu)
        cases σ with
        | nil => simp at this
        | cons x y => simpa using this
      exact slok_shift g (by cases σ <;> simp)
  · cases i with
    | zero => cases j with
      | zero => rfl
      | succ j => exact absurd (ho j q hj) (hd q hi)
    | succ i => cases j with
      | zero => exact absurd (ho i q hi) (hd q hj)
      | succ j => rw [dj i j q hi hj]
  · cases i with
    | zero => exact h1 q hi
    | succ i => exact h2 q (ho i q hi)
theorem st_I (k : r.rel B v x) (S : StOk Γs vs B H o) : StOk (.imm r x :: Γs) (v :: vs) B H o := st_cons (o1 := fun _ => False) (o2 := o) (fun σ e => ⟨v, e, k⟩) (fun _ h => h.elim) (fun _ h => h) (fun _ h => h.elim) S
theorem st_K {u : HO} (op : o p) (hp : H p = some u) (k : c.ok B u y) (S : StOk Γs vs B H (fun q => o q ∧ q ≠ p)) : StOk (.cel p c y :: Γs) (.ref p :: vs) B H o := st_cons (o1 := fun q => q = p) (fun σ e => ⟨e, rfl, u, hp, k⟩) (fun q h => by rw [h]; exact op) (fun q h => h.1) (fun q h n => n.2 h) S
theorem st_T {o1 o2 : Addr → Prop} (h1 : ∀ p, o1 p → o p) (h2 : ∀ p, o2 p → o p) (hd : ∀ p, o1 p → ¬ o2 p) (k : t.ok B H o1 v z) (S : StOk Γs vs B H o2) : StOk (.tre v t z :: Γs) (v :: vs) B H o := st_cons (o1 := o1) (fun σ e => ⟨e, k⟩) h1 h2 hd S
theorem frm_startM {N : List Str} {n : Nat} (S : StOk Γs vs B H o) (z : SzT H B) (s : Same B H) (ho : ∀ p, o p → B p = none ∧ H p ≠ none ∧ ¬ isTab p) (hN : N.length = vs.length + n) : Frm (ambM B H o) (L2.start N vs) H B (Γs ++ List.replicate n .no) := by
  obtain ⟨hl, ow, hs, dj, oo⟩ := S
  refine ⟨⟨s, Same.refl _, fun _ _ _ _ e => e, fun _ _ e => e, fun _ n => n, s, ⟨fun q m => (ho q m).2.1, fun q m => (ho q m).2.2, fun _ m n => z.tb.ne n m⟩, trivial, z.sz, z.tb⟩, ?_, ow, fun i s' e => ?_, dj, fun i q h => ⟨(ho q (oo i q h)).1, (ho q (oo i q h)).2.1, .inr (oo i q h)⟩⟩
  · rw [start_len (by omega), List.length_append, List.length_replicate, hl]; exact hN
  · rcases rep_sp e with e | rfl
    · exact hs i s' e _ fun v hv => start_get hv
    · trivial
class Mm (w : Mw γ α) : Prop where
  up : ∀ {B H o o' vs g}, (∀ p, o p → o' p) → w.own B H o vs g → w.own B H o' vs g
instance : Mm mwN := ⟨fun _ h => h⟩
instance (r : Rp ρ) (w : Mw γ α) [m : Mm w] : Mm (mwI r w) := ⟨fun n ⟨v, t, e, k⟩ => ⟨v, t, e, m.up n k⟩⟩
instance (c : Cl κ) (w : Mw γ α) [m : Mm w] : Mm (mwK c w) := ⟨fun n ⟨p, t, u, e, op, hp, k, q⟩ => ⟨p, t, u, e, n p op, hp, k, m.up (fun q z => ⟨n q z.1, z.2⟩) q⟩⟩
instance (c : Tr τ) (w : Mw γ α) [m : Mm w] : Mm (mwT c w) := ⟨fun n ⟨v, t, o1, o2, e, h1, h2, hd, k, q⟩ => ⟨v, t, o1, o2, e, fun p z => n p (h1 p z), fun p z => n p (h2 p z), hd, k, q⟩⟩
/-- the own parameters, from the k-th slot on, of n -/
def OwnAt (Γ : List Sl) (n k : Nat) (w : Mw γ α) (vs : List V) (g : γ) : Prop := ∀ A σ H B ow, Own A σ H B Γ ow → w.own B H (fun p => ∃ j, k ≤ j ∧ j < n ∧ ow j p) vs g
variable {n : Nat}
theorem oa_N : OwnAt Γ n k mwN [] () := fun _ _ _ _ _ _ => rfl
theorem oa_I [m : Mm w] (h : OwnAt Γ n (k + 1) w vs g) : OwnAt Γ n k (mwI r w) (v :: vs) g := fun A σ H B ow W => ⟨v, vs, rfl, m.up (fun p ⟨j, hj, z⟩ => ⟨j, by omega, z⟩) (h A σ H B ow W)⟩
theorem oa_K [m : Mm w] (e : Γ[k]? = some (.cel p c y)) (h : OwnAt Γ n (k + 1) w vs g) (hk : k < n := by decide) : OwnAt Γ n k (mwK c w) (.ref p :: vs) (y, g) := fun A σ H B ow W => by
  obtain ⟨_, op, u, hu, q⟩ := W.so k _ e
  refine ⟨p, vs, u, rfl, ⟨k, Nat.le_refl _, hk, op⟩, hu, q, m.up (fun b ⟨j, hj, hn, z⟩ => ⟨⟨j, by omega, hn, z⟩, fun e2 => ?_⟩) (h A σ H B ow W)⟩
  have := W.dj j k p (by rw [← e2]; exact z) op
  omega
theorem oa_T [m : Mm w] (e : Γ[k]? = some (.tre v t z)) (h : OwnAt Γ n (k + 1) w vs g) (hk : k < n := by decide) : OwnAt Γ n k (mwT t w) (v :: vs) (z, g) := fun A σ H B ow W => by
  obtain ⟨_, q⟩ := W.so k _ e
  refine ⟨v, vs, ow k, fun p => ∃ j, k + 1 ≤ j ∧ j < n ∧ ow j p, rfl, fun p z => ⟨k, Nat.le_refl _, hk, z⟩, fun p ⟨j, hj, z⟩ => ⟨j, by omega, z⟩, fun p z1 ⟨j, hj, _, z2⟩ => ?_, q, h A σ H B ow W⟩
  have := W.dj j k p z2 z1
  omega
section
variable {te : TE} {D : Ends} {u : TS} {rb : Rp β} {b : β} {bb : β × γ}
variable {H0 : Hp} {mo : Addr → Prop}
theorem nx_retM (am : AtM A H0 mo) (h : EvX rb te Γ Γ1 b) (ho : OwnAt Γ1 n 0 w vs g) (e : some (b, g) = some bb) (k : Rt A (psiM H0 mo w vs (tI rb)) bb D.rt) : Nx A (tRet te D) Γ := fun σ H B F => h A σ H B F _ fun v H' B' F' _ q => by
  obtain ⟨ow, W⟩ := F'.own
  cases e
  exact k H' B' v F'.post ⟨fun _ => False, _, fun _ z => z.elim, fun p ⟨j, _, _, z⟩ => am.hot (W.ht j p z), fun _ z => z.elim, q, ho A σ H' B' ow W⟩
theorem sq_retM (am : AtM A H0 mo) (h : EvX rb te Γ Γ1 b) (ho : OwnAt Γ1 n 0 w vs g) (e : some (b, g) = some bb) (k : Rt A (psiM H0 mo w vs (tI rb)) bb D.rt) : Nx A (tSeq (tRet te) u D) Γ := nx_retM (D := { D with nx := u D }) am h ho e k
/-- an own list that is not a parameter is handed back -/
theorem sq_retMV {cb : Cl β} (am : AtM A H0 mo) (hi : Γ[i]? = some (.cel p cb b)) (hp : ¬ A.m p) (hn : ¬ i < n) (ho : OwnAt Γ n 0 w vs g) (e : some (b, g) = some bb) (k : Rt A (psiM H0 mo w vs (tK cb)) bb D.rt) : Nx A (tSeq (tRet (tVar i)) u D) Γ := fun σ H B F => by
  obtain ⟨ow, W⟩ := id F.own
  obtain ⟨e1, op, u, hu, q⟩ := W.so i _ hi
  cases e
  refine ⟨_, e1, k H B _ F.post ⟨fun q => q = p, _, fun q z => ?_, fun p ⟨j, _, _, z⟩ => am.hot (W.ht j p z), fun q z ⟨j, _, hj, z2⟩ => ?_, ⟨p, u, rfl, rfl, hu, q⟩, ho A σ H B ow W⟩⟩
  · rw [z]; exact ⟨am.hot (W.ht i p op), by rw [← am.h]; exact (W.ht i p op).2.2.resolve_right hp⟩
  · have := W.dj j i p (by rw [← z]; exact z2) op
    omega
/-- a new object is handed back -/
theorem sq_retMC {cb : Cl β} (am : AtM A H0 mo) (h : EvC cb te Γ Γ1 b) (ho : OwnAt Γ1 n 0 w vs g) (e : some (b, g) = some bb) (k : Rt A (psiM H0 mo w vs (tK cb)) bb D.rt) : Nx A (tSeq (tRet te) u D) Γ := fun σ H B F => h A σ H B F _ fun p o H' B' F' n0 _ q => by
  have D := F'.drop n0 F.sub F.mh
  obtain ⟨ow, W⟩ := id F'.own
  cases e
  have hm : ¬ A.m p := fun m => F.mh.al p m n0
  have hH := F'.hid n0 F.mh
  refine k H' B' _ D.post ⟨fun q => q = p, _, fun q z => ?_, fun q ⟨j, _, _, z⟩ => am.hot ⟨(W.ht j q z).1, (W.ht j q z).2.1, (W.ht j q z).base n0⟩, fun q z ⟨j, _, hj, z2⟩ => ?_, ⟨p, o, rfl, rfl, hH, q⟩, ho (A.add p o) σ H' B' ow W⟩
  · rw [z]; exact ⟨am.hot ⟨F'.hidB n0 F.sub, by rw [hH]; simp, .inl n0⟩, by rw [← am.h]; exact n0⟩
  · exact (W.ht j q z2).ne hm z
end
/-! ### a call -/
abbrev AR := L2.St → Hp → List V → Prop
def EvA (ta : TA) (Γ Γ' : List Sl) (R : AR) : Prop := ∀ (A : Amb) (σ : L2.St) (H B : Hp), Frm A σ H B Γ → ∀ Q : List V → Hp → Prop, (∀ vs H' B', Frm A σ H' B' Γ' → Same B B' → R σ B' vs → Q vs H') → ta σ H Q
def ra0 : AR := fun _ _ vs => vs = []
def raI (r : Rp ρ) (x : ρ) (R : AR) : AR := fun σ B vs => ∃ v t, vs = v :: t ∧ r.rel B v x ∧ R σ B t
def raV (i : Nat) (R : AR) : AR := fun σ B vs => ∃ v t, vs = v :: t ∧ σ[i]? = some (some v) ∧ R σ B t
variable {R : AR} {ta te : TE} {tr : TA}
theorem ea_0 : EvA tNil Γ Γ ra0 := fun A σ H B F Q q => q _ H B F (Same.refl _) rfl
theorem ea_I (h : EvX r te Γ Γ1 x) (hr : EvA tr Γ1 Γ2 R) : EvA (tCons te tr) Γ Γ2 (raI r x R) := fun A σ H B F Q q =>
  h A σ H B F _ fun v H1 B1 F1 s1 k1 => hr A σ H1 B1 F1 _ fun vs H2 B2 F2 s2 k2 => q _ H2 B2 F2 (s1.trans s2) ⟨v, vs, rfl, r.mono s2 k1, k2⟩
theorem ea_K (e : Γ[i]? = some (.cel p c y)) (hr : EvA tr Γ Γ2 R) : EvA (tCons (tVar i) tr) Γ Γ2 (raV i R) := fun A σ H B F Q q => by
  have hv := (F.sl i _ e).1
  exact ⟨_, hv, hr A σ H B F _ fun vs H2 B2 F2 s2 k2 => q _ H2 B2 F2 s2 ⟨_, vs, rfl, hv, k2⟩⟩
theorem ea_T (e : Γ[i]? = some (.tre v t z)) (hr : EvA tr Γ Γ2 R) : EvA (tCons (tVar i) tr) Γ Γ2 (raV i R) := fun A σ H B F Q q => by
  have hv := (F.sl i _ e).1
  exact ⟨_, hv, hr A σ H B F _ fun vs H2 B2 F2 s2 k2 => q _ H2 B2 F2 s2 ⟨_, vs, rfl, hv, k2⟩⟩
def CallOk (Γ : List Sl) (R : AR) (w : Mw γ α) (is : List Nat) (g : γ) (a : α) : Prop := ∀ A σ H B ow, Own A σ H B Γ ow → ∀ vs, R σ B vs → w.own B H (fun p => ∃ i, i ∈ is ∧ ow i p) vs g ∧ w.imm B vs a
theorem co_0 : CallOk Γ ra0 mwN [] () () := fun _ _ _ _ _ _ _ h => ⟨h, h⟩
theorem co_I (h : CallOk Γ R w is g a) : CallOk Γ (raI r x R) (mwI r w) is g (x, a) := fun A σ H B ow W vs ⟨v, t, e, k, q⟩ => by
  obtain ⟨h1, h2⟩ := h A σ H B ow W t q
  exact ⟨⟨v, t, e, h1⟩, v, t, e, k, h2⟩
theorem co_K [m : Mm w] (e : Γ[i]? = some (.cel p c y)) (n : i ∉ is) (h : CallOk Γ R w is g a) : CallOk Γ (raV i R) (mwK c w) (i :: is) (y, g) a := fun A σ H B ow W vs ⟨v, t, e2, hv, q⟩ => by
  obtain ⟨h1, h2⟩ := h A σ H B ow W t q
  obtain ⟨e3, op, u, hu, k⟩ := W.so i _ e
  rw [hv] at e3
  cases e3
  refine ⟨⟨p, t, u, e2, ⟨i, List.mem_cons_self, op⟩, hu, k, m.up (fun b ⟨j, hj, z⟩ => ⟨⟨j, List.mem_cons_of_mem _ hj, z⟩, fun e4 => ?_⟩) h1⟩, _, t, e2, h2⟩
  have := W.dj j i p (by rw [← e4]; exact z) op
  rw [this] at hj; exact n hj
theorem co_T [m : Mm w] (e : Γ[i]? = some (.tre v t z)) (n : i ∉ is) (h : CallOk Γ R w is g a) : CallOk Γ (raV i R) (mwT t w) (i :: is) (z, g) a := fun A σ H B ow W vs ⟨v', t', e2, hv, q⟩ => by
  obtain ⟨h1, h2⟩ := h A σ H B ow W t' q
  obtain ⟨e3, k⟩ := W.so i _ e
  rw [hv] at e3
  cases e3
  refine ⟨⟨_, t', ow i, fun p => ∃ j, j ∈ is ∧ ow j p, e2, fun p z => ⟨i, List.mem_cons_self, z⟩, fun p ⟨j, hj, z⟩ => ⟨j, List.mem_cons_of_mem _ hj, z⟩, fun p z1 ⟨j, hj, z2⟩ => ?_, k, h1⟩, _, t', e2, h2⟩
  have := W.dj j i p z2 z1
  rw [this] at hj; exact n hj
/-- what comes back -/
def BackOk (Γ1 Γ2 : List Sl) (R : AR) (w : Mw γ α) (is : List Nat) (g : γ) : Prop := ∀ (σ : L2.St) (B H B' H' : Hp) (vs : List V) (o : Addr → Prop), (∀ i s, i ∈ is → Γ1[i]? = some s → ∃ o, SlO σ H B o i s) → R σ B vs → w.own B' H' o vs g →
  ∃ pc : Nat → Addr → Prop, (∀ i s, i ∈ is → Γ2[i]? = some s → SlO σ H' B' (pc i) i s) ∧ (∀ i p, pc i p → o p ∧ i ∈ is) ∧ ∀ i j p, pc i p → pc j p → i = j
theorem bo_0 : BackOk Γ1 Γ2 ra0 mwN [] () := fun σ B H B' H' vs o _ _ _ => ⟨fun _ _ => False, fun _ _ h => (nomatch h), fun _ _ h => h.elim, fun _ _ _ h => h.elim⟩
theorem bo_I (h : BackOk Γ1 Γ2 R w is g) : BackOk Γ1 Γ2 (raI r x R) (mwI r w) is g := fun σ B H B' H' vs o hs ⟨v, t, e, _, q⟩ ⟨v', t', e', k⟩ => by
  rw [e] at e'; cases e'
  exact h σ B H B' H' t o hs q k
theorem bo_put {o o1 o2 : Addr → Prop} {σ : L2.St} {B' H' : Hp} {s : Sl} {pc : Nat → Addr → Prop} (n : i ∉ is) (e : Γ2[i]? = some s) (h1 : ∀ p, o1 p → o p) (h2 : ∀ p, o2 p → o p) (hd : ∀ p, o1 p → ¬ o2 p) (so : SlO σ H' B' o1 i s)
    (a1 : ∀ i s, i ∈ is → Γ2[i]? = some s → SlO σ H' B' (pc i) i s) (a2 : ∀ i p, pc i p → o2 p ∧ i ∈ is) (a3 : ∀ i j p, pc i p → pc j p → i = j) :
    ∃ pc : Nat → Addr → Prop, (∀ j s, j ∈ i :: is → Γ2[j]? = some s → SlO σ H' B' (pc j) j s) ∧ (∀ j p, pc j p → o p ∧ j ∈ i :: is) ∧ ∀ i j p, pc i p → pc j p → i = j := by
  refine ⟨fun j p => if j = i then o1 p else pc j p, fun j s' hj ej => ?_, fun j p hj => ?_, fun j l p hj hl => ?_⟩
  · by_cases c : j = i
    · subst c; rw [e] at ej; cases ej; simpa using so
    · have := a1 j s' ((List.mem_cons.mp hj).resolve_left c) ej
      simpa [if_neg c] using this
  · have hj : (if j = i then o1 p else pc j p) := hj
    by_cases c : j = i
    · rw [if_pos c] at hj; exact ⟨h1 p hj, by rw [c]; exact List.mem_cons_self⟩
    · rw [if_neg c] at hj; exact ⟨h2 p (a2 j p hj).1, List.mem_cons_of_mem _ (a2 j p hj).2⟩
  · have hj : (if j = i then o1 p else pc j p) := hj
    have hl : (if l = i then o1 p else pc l p) := hl
    by_cases c : j = i
    · by_cases d : l = i
      · rw [c, d]
      · rw [if_pos c] at hj; rw [if_neg d] at hl; exact absurd (a2 l p hl).1 (hd p hj)
    · by_cases d : l = i
      · rw [if_neg c] at hj; rw [if_pos d] at hl; exact absurd (a2 j p hj).1 (hd p hl)
      · rw [if_neg c] at hj; rw [if_neg d] at hl; exact a3 j l p hj hl
theorem bo_K {y' : κ} (e : Γ1[i]? = some (.cel p c y)) (e2 : Γ2[i]? = some (.cel p c y')) (n : i ∉ is) (h : BackOk Γ1 Γ2 R w is g) : BackOk Γ1 Γ2 (raV i R) (mwK c w) (i :: is) (y', g) := fun σ B H B' H' vs o hs ⟨v, t, ev, hv, q⟩ ⟨p', t', u, ev', op, hp, k, kw⟩ => by
  rw [ev] at ev'; cases ev'
  obtain ⟨_, e3, _⟩ := hs i _ List.mem_cons_self e
  rw [hv] at e3; cases e3
  obtain ⟨pc, a1, a2, a3⟩ := h σ B H B' H' t _ (fun j s hj ej => hs j s (List.mem_cons_of_mem _ hj) ej) q kw
  exact bo_put n e2 (o1 := fun q => q = p) (fun q z => by rw [z]; exact op) (fun q z => z.1) (fun q z m => m.2 z) ⟨hv, rfl, u, hp, k⟩ a1 a2 a3
theorem bo_T {z' : τ} (e : Γ1[i]? = some (.tre v t z)) (e2 : Γ2[i]? = some (.tre v t z')) (n : i ∉ is) (h : BackOk Γ1 Γ2 R w is g) : BackOk Γ1 Γ2 (raV i R) (mwT t w) (i :: is) (z', g) := fun σ B H B' H' vs o hs ⟨v1, t1, ev, hv, q⟩ ⟨v2, t2, o1, o2, ev', h1, h2, hd, k, kw⟩ => by
  rw [ev] at ev'; cases ev'
  obtain ⟨_, e3, _⟩ := hs i _ List.mem_cons_self e
  rw [hv] at e3; cases e3
  obtain ⟨pc, a1, a2, a3⟩ := h σ B H B' H' t1 _ (fun j s hj ej => hs j s (List.mem_cons_of_mem _ hj) ej) q kw
  exact bo_put n e2 h1 h2 hd ⟨hv, k⟩ a1 a2 a3
def setAll (Γ : List Sl) : List (Nat × Sl) → List Sl
  | [] => Γ
  | (i, s) :: us => setAll (Γ.set i s) us
theorem setAll_len : ∀ (us : List (Nat × Sl)) (Γ : List Sl), (setAll Γ us).length = Γ.length
  | [], _ => rfl
  | (i, s) :: us, Γ => by unfold setAll; rw [setAll_len us, List.length_set]
theorem setAll_off : ∀ (us : List (Nat × Sl)) (Γ : List Sl) (j : Nat), j ∉ us.map (·.1) → (setAll Γ us)[j]? = Γ[j]?
  | [], _, _, _ => rfl
  | (i, s) :: us, Γ, j, h => by
    unfold setAll
    rw [setAll_off us _ j fun z => h (List.mem_cons_of_mem _ z), List.getElem?_set_ne fun z => h (by rw [z]; exact List.mem_cons_self)]
/-- after a call -/
theorem after_callM {σ : L2.St} {H1 B1 H2 B2 : Hp} {ow : Nat → Addr → Prop} {o1 o2 : Addr → Prop} {g' : γ} (F1 : Frm A σ H1 B1 Γ1) (W : Own A σ H1 B1 Γ1 ow) (bo : BackOk Γ1 Γ2 R w is g') (hl : Γ2.length = Γ1.length) (off : ∀ j, j ∉ is → Γ2[j]? = Γ1[j]?) (k1 : R σ B1 vs)
    (P : Post (ambM B1 H1 fun p => ∃ i, i ∈ is ∧ ow i p) H2 B2) (f1 : ∀ p, o1 p → H1 p = none) (ho : ∀ p, o2 p → HotM H1 (fun p => ∃ i, i ∈ is ∧ ow i p) H2 B2 p) (hd : ∀ p, o1 p → ¬ o2 p) (kw : w.own B2 H2 o2 vs g') : ∃ ow2, Own A σ H2 B2 Γ2 ow2 ∧ Post A H2 B2 ∧ ∀ j p, o1 p → ¬ ow2 j p := by
  obtain ⟨pc, a1, a2, a3⟩ := bo σ B1 H1 B2 H2 vs o2 (fun i s _ es => ⟨ow i, W.so i s es⟩) k1 kw
  have no : ∀ j q, j ∉ is → ow j q → ¬ ∃ i, i ∈ is ∧ ow i q := fun j q nj z ⟨i, hi, z2⟩ => nj (by rw [W.dj j i q z z2]; exact hi)
  refine ⟨fun j p => (j ∈ is ∧ pc j p) ∨ (j ∉ is ∧ ow j p), ⟨fun j s ej => ?_, fun j l p hj hl => ?_, fun j p hj => ?_⟩, ⟨P.bh, fun p o e => P.b0 p o (F1.b0 p o e), fun p o nm nt e => P.keep p o (fun ⟨i, _, z⟩ => ?_) nt (F1.keep p o nm nt e), fun p n z => P.out p (F1.alive p n) (F1.out p n z), fun p n => P.alive p (F1.alive p n), F1.sub, F1.mh, A.up _ _ P.b0 F1.ph, P.sz, P.tb⟩, fun j p h1 h => ?_⟩
  · by_cases c : j ∈ is
    · exact slo_mono (a1 j s c ej) rfl (Same.refl _) (fun _ _ _ z => z) fun p z => .inl ⟨c, z⟩
    · rw [off j c] at ej
      exact slo_mono (W.so j s ej) rfl P.b0 (fun p u z hu => P.keep p u (no j p c z) ((W.ht j p z).nt F1.mh) hu) fun p z => .inr ⟨c, z⟩
  · rcases hj with ⟨c, z⟩ | ⟨c, z⟩
    · rcases hl with ⟨d, z2⟩ | ⟨d, z2⟩
      · exact a3 j l p z z2
      · rcases (ho p (a2 j p z).1).2.2 with m | m
        · exact absurd m (W.ht l p z2).2.1
        · exact absurd m (no l p d z2)
    · rcases hl with ⟨d, z2⟩ | ⟨d, z2⟩
      · rcases (ho p (a2 l p z2).1).2.2 with m | m
        · exact absurd m (W.ht j p z).2.1
        · exact absurd m (no j p c z)
      · exact W.dj j l p z z2
  · rcases hj with ⟨c, z⟩ | ⟨c, z⟩
    · obtain ⟨h1, h2, h3⟩ := ho p (a2 j p z).1
      refine ⟨h1, h2, ?_⟩
      rcases h3 with m | ⟨i, _, z3⟩
      · exact .inl (F1.H0none m)
      · exact (W.ht i p z3).2.2
    · have h := W.ht j p z
      exact ⟨P.out p h.2.1 h.1, P.alive p h.2.1, h.2.2⟩
  · rcases (W.ht i p z).2.2 with m | m
    · rw [m] at e; cases e
    · exact nm m
  · rcases h with ⟨c, z⟩ | ⟨c, z⟩
    · exact hd p h1 (a2 j p z).1
    · exact (W.ht j p z).2.1 (f1 p h1)
theorem ev_callM {us : List (Nat × Sl)} {rb : Rp β} {m : γ → α → Option (β × γ)} {b : β} {g' : γ} {E : XK} (h : EvA tr Γ Γ1 R) (co : CallOk Γ1 R w is g a) (bo : BackOk Γ1 (setAll Γ1 us) R w is g') (e : m g a = some (b, g')) (hu : us.map (·.1) = is := by rfl) : EvX rb (tCall (SpM w (tI rb) m) [] E tr) Γ (setAll Γ1 us) b := fun A σ H B F Q q => h A σ H B F _ fun vs H1 B1 F1 s1 k1 => by
  rw [List.append_nil]
  obtain ⟨ow, W⟩ := id F1.own
  obtain ⟨c1, c2⟩ := co A σ H1 B1 ow W vs k1
  refine ⟨B1, _, g, a, (b, g'), F1.szt, F1.bh, fun p ⟨i, _, z⟩ => ⟨(W.ht i p z).1, (W.ht i p z).2.1, (W.ht i p z).nt F1.mh⟩, c1, c2, e, fun H2 B2 v P ⟨o1, o2, h1, h2, hd, kv, kw⟩ => ?_⟩
  obtain ⟨ow2, W2, P2, _⟩ := after_callM F1 W bo (setAll_len _ _) (fun j hj => setAll_off _ _ _ (by rw [hu]; exact hj)) k1 P (o1 := o1) (fun p z => (h1 p z).2) h2 hd kw
  exact q v H2 B2 ⟨P2, by rw [setAll_len]; exact F1.len, ow2, W2⟩ (s1.trans P.b0) kv
theorem ec_callM {us : List (Nat × Sl)} {cb : Cl β} {m : γ → α → Option (β × γ)} {b : β} {g' : γ} {E : XK} (h : EvA tr Γ Γ1 R) (co : CallOk Γ1 R w is g a) (bo : BackOk Γ1 (setAll Γ1 us) R w is g') (e : m g a = some (b, g')) (hu : us.map (·.1) = is := by rfl) : EvC cb (tCall (SpM w (tK cb) m) [] E tr) Γ (setAll Γ1 us) b := fun A σ H B F Q q => h A σ H B F _ fun vs H1 B1 F1 s1 k1 => by
  rw [List.append_nil]
  obtain ⟨ow, W⟩ := id F1.own
  obtain ⟨c1, c2⟩ := co A σ H1 B1 ow W vs k1
  refine ⟨B1, _, g, a, (b, g'), F1.szt, F1.bh, fun p ⟨i, _, z⟩ => ⟨(W.ht i p z).1, (W.ht i p z).2.1, (W.ht i p z).nt F1.mh⟩, c1, c2, e, fun H2 B2 v P ⟨o1, o2, h1, h2, hd, ⟨p, u, ev, op, hp, kc⟩, kw⟩ => ?_⟩
  obtain ⟨ow2, W2, P2, nw⟩ := after_callM F1 W bo (setAll_len _ _) (fun j hj => setAll_off _ _ _ (by rw [hu]; exact hj)) k1 P (o1 := o1) (fun p z => (h1 p z).2) h2 hd kw
  have hn : H1 p = none := (h1 p op).2
  have h0 := F1.H0none hn
  subst ev
  refine q p u H2 B2 ⟨P2.hide h0 hp (h1 p op).1.1, by rw [setAll_len]; exact F1.len, ow2, W2.so, W2.dj, fun j b z => ?_⟩ h0 (s1.trans P.b0) kc
  obtain ⟨z1, z2, z3⟩ := W2.ht j b z
  refine ⟨z1, z2, ?_⟩
  rcases z3 with m | m
  · left
    have : b ≠ p := fun e => nw j p op (by rw [← e]; exact z)
    show upd A.H0 p u b = none
    rw [upd_ne this]; exact m
  · exact .inr m
end
end G
namespace G
variable [TabL]
open PySem PySem.Spec PyProof.Rows L2
section
variable {α β γ δ ρ : Type} {r ra : Rp α} {rx : Rp β} {te ta tj : TE} {A : Amb} {D : Ends} {Γ Γ1 Γ2 : List Sl} {i k : Nat} {K : PySem.W.Frag} {u : TS} {p : Addr} {xs ys : List α} {x0 : List β} {y : α} {j : Int}
def pyPop (xs : List α) (j : Int) : Option (α × List α) := match seqIndex? j xs.length with
  | some n => match xs[n]? with
    | some y => if -(2 ^ 63) ≤ j ∧ j < 2 ^ 63 then some (y, xs.eraseIdx n) else none
    | none => none
  | none => none
/-- x.pop(j) -/
theorem ev_popCel (h : EvX rInt te Γ Γ1 j) (hi0 : Γ[i]? = some (.cel p (cLst rx) x0)) (hi : Γ1[i]? = some (.cel p (cLst r) xs)) (e : pyPop xs j = some (y, ys)) : EvX r (tBM K "list" rPopAt (tVar i) (tCons te tNil)) Γ (Γ1.set i (.cel p (cLst r) ys)) y := fun A σ H B F Q q => by
  unfold pyPop at e
  split at e
  · rename_i n hn
    split at e
    · rename_i z hz
      split at e
      · rename_i hb
        cases e
        obtain ⟨e1, vs, hp, kp⟩ := cel_lst F hi0
        refine ⟨_, e1, .inl ⟨rfl, vs, SqL.of hp⟩, h A σ H B F _ fun v H1 B1 F1 s1 k1 => ?_⟩
        obtain ⟨e2, vs2, hp2, kp2⟩ := cel_lst F1 hi
        obtain ⟨o, ho, ko⟩ := Paired.getR kp2 hz
        refine ⟨p, vs2, j, n, o, rfl, by rw [show v = _ from k1], hp2, hb.1, hb.2, by rw [Paired.len kp2]; exact hn, ho, q o _ B1 (F1.write hi (c' := cLst r) (o' := .lst (vs2.eraseIdx n)) ⟨_, rfl, Paired.eraseR n kp2⟩ ?_) s1 ko⟩
        show (vs2.eraseIdx n).length ≤ sizeLine
        exact Nat.le_trans (List.length_eraseIdx_le ..) (F1.sz _ _ hp2)
      · cases e
    · cases e
  · cases e
def rInsC : V → List V → Hp → VK → Prop := fun x vs H Q => ∃ (l : Addr) (xs : List V) (i : Int) (y : V), x = .ref l ∧ vs = [.int i, y] ∧ H l = some (.lst xs) ∧ xs.length < sizeLine ∧ 0 ≤ i ∧ i < 2 ^ 63 ∧
    Q .non (upd H l (.lst (xs.take i.toNat ++ [y] ++ xs.drop i.toNat)))
theorem mt_ins {X : Cx} : MtR X "list.insert" rInsC := mt_insert
def pyIns (xs : List α) (i : Int) (y : α) : Option (List α) := if xs.length < 1000000 ∧ 0 ≤ i ∧ i < 2 ^ 63 then some (xs.take i.toNat ++ [y] ++ xs.drop i.toNat) else none
theorem sq_insCel {tb : TE} (h : EvX rInt te Γ Γ1 j) (hb : EvX r tb Γ1 Γ2 y) (hi0 : Γ[i]? = some (.cel p (cLst rx) x0)) (hi : Γ2[i]? = some (.cel p (cLst r) xs)) (e : pyIns xs j y = some ys) (k : Nx A (u D) (Γ2.set i (.cel p (cLst r) ys))) :
    Nx A (tSeq (tDrop (tBM K "list" rInsC (tVar i) (tCons te (tCons tb tNil)))) u D) Γ := fun σ H B F => by
  unfold pyIns at e
  split at e
  · rename_i hh
    cases e
    obtain ⟨e1, vs, hp, kp⟩ := cel_lst F hi0
    refine ⟨_, e1, .inl ⟨rfl, vs, SqL.of hp⟩, h A σ H B F _ fun v H1 B1 F1 s1 k1 => hb A σ H1 B1 F1 _ fun v2 H2 B2 F2 s2 k2 => ?_⟩
    obtain ⟨e2, vs2, hp2, kp2⟩ := cel_lst F2 hi
    have hz : vs2.length < sizeLine := by rw [Paired.len kp2]; exact Nat.lt_of_lt_of_le hh.1 (by decide)
    refine ⟨p, vs2, j, v2, rfl, by rw [show v = _ from k1], hp2, hz, hh.2.1, hh.2.2, k σ _ B2 (F2.write hi (c' := cLst r) (o' := .lst (vs2.take j.toNat ++ [v2] ++ vs2.drop j.toNat)) ⟨_, rfl, Paired.app (Paired.app (Paired.takeN _ kp2) (.cons k2 .nil)) (Paired.dropN _ kp2)⟩ ?_)⟩
    show (vs2.take j.toNat ++ [v2] ++ vs2.drop j.toNat).length ≤ sizeLine
    rw [List.length_append, List.length_append, List.length_take, List.length_drop, List.length_singleton]
    omega
  · cases e
end
end G

set_option maxHeartbeats 4000000
/-! # G: errors with two arguments; two own lists read in one expression -/
namespace G
variable [TabL]

open PySem PySem.Spec PyProof.Rows L2
def SpF2 (C : Addr) (n1 n2 : Str) : Sp := fun vs H Q _ => ∃ a v u, vs = [.ref a, v, u] ∧ H a = some (exo a C none) ∧ ∀ dx, H dx = none → dx ≠ a → Q .non (upd (upd (upd H dx (exd dx [(n1, v)])) a (exo a C (some dx))) dx (exd dx [(n2, u), (n1, v)]))
section
variable {P : Program} {w : World} {K : PySem.W.Frag} {mg : Str → Option Value} {base : Heap}
/-- the body «self.n1 = p1; self.n2 = p2» -/
theorem okE2 {f C : Addr} {fd : FuncData} {st : Stmt} {N : List Str} {qual n1 n2 p1 p2 : Str} {pos1 pos2 pos3 pos4 pos5 pos6 pos7 pos8 : Pos} (F : Fun K "__init__" qual st f fd) (S : FnScope N ["self", p1, p2] (defScope st)) (T : OexC K C) (na1 : PySem.W.findIn K (.ref C) n1 = some none) (na2 : PySem.W.findIn K (.ref C) n2 = some none)
    (hb : defBody st = [.Assign [.Attribute (.Name "self" pos1) n1 pos2] (.Name p1 pos3) pos4, .Assign [.Attribute (.Name "self" pos5) n2 pos6] (.Name p2 pos7) pos8]) (h0 : N[0]? = some ("self" : Str)) (h1 : N[1]? = some p1) (h2 : N[2]? = some p2) (v0 : Vis (defScope st) ("self" : Str)) (v1 : Vis (defScope st) p1) (v2 : Vis (defScope st) p2)
    (d0 : (p1 == ("__debug__" : Str)) = false) (d1 : (p1 == ("__classdict__" : Str)) = false) (d2 : (p2 == ("__debug__" : Str)) = false) (d3 : (p2 == ("__classdict__" : Str)) = false) (hl : N.length = 3) : FnOk P w K mg base CX0 1 f fd ["self", p1, p2] (SpF2 C n1 n2) := by
  refine F.ok S (fun vs H Q E h => ?_) (fun cdv A outer s H vs Q E hr h => ?_)
  · obtain ⟨a, v, u, rfl, _⟩ := h; rfl
  · obtain ⟨a, v, u, rfl, ha, k⟩ := h
    rw [hb]
    refine ⟨_, pss_cons (ps_ost (pe_var (i := 0) h0 v0) (pe_var (i := 1) h1 v1 d0 d1)) (pss_cons (ps_ost (pe_var (i := 0) h0 v0) (pe_var (i := 2) h2 v2 d2 d3)) pss_nil), ?_⟩
    have hN : L2.start N [.ref a, v, u] = [some (.ref a), some v, some u] := by
      unfold L2.start; simp [hl]
    rw [hN]
    refine ⟨v, rfl, _, rfl, a, C, rfl, T, na1, .inl ⟨ha, fun dx n ne => ⟨u, rfl, _, rfl, a, C, rfl, T, na2, .inr ⟨dx, [(n1, v)], upd_same, ?_, (by show 1 ≤ 900; decide), k dx n ne⟩⟩⟩⟩
    rw [upd_ne ne, upd_same]
end
theorem del_made2 {H : Hp} {a dx : Addr} {o1 o2 o3 o4 o5 : HO} (ha : H a = none) (ne : dx ≠ a) : upd (del (upd (upd (upd (upd H a o1) dx o2) a o3) dx o4) a) dx o5 = upd H dx o5 := by
  funext c
  by_cases h1 : c = dx
  · rw [h1, upd_same, upd_same]
  · rw [upd_ne h1, upd_ne h1]
    by_cases h2 : c = a
    · rw [h2, del_same, ha]
    · rw [del_ne h2, upd_ne h1, upd_ne h2, upd_ne h1, upd_ne h2]
section
variable {α β γ ρ ς ε : Type} {r : Rp α} {rb : Rp β} {te tb : TE} {Γ Γ1 Γ2 : List Sl} {K : PySem.W.Frag} {a : α} {b : β} {C : Addr} {A : Amb} {D : Ends} {u : TS} {R : ER ε} {E : XK}
/-- raise C(x, y) -/
theorem sq_raise2 {n1 n2 : Str} {W : WX} {e : ε} (h : EvX r te Γ Γ1 a) (h2 : EvX rb tb Γ1 Γ2 b) (hn : n1 ≠ n2) (k : RtE A R e E) (hR : ∀ B cls d, ErAt B cls d C [n1, n2] (wC r (w1 rb)) (a, b) → R B cls d e) (hW : ∀ cls d σ H, E cls d H → W cls d σ H) :
    Nx A (tSeq (fun _ σ H => tMkO C (SpF2 C n1 n2) [] (tCons te (tCons tb tNil)) σ H fun cls d H' => W cls d σ H') u D) Γ := fun σ H B F => h A σ H B F _ fun v H0 B0 F0 s0 k0 => h2 A σ H0 B0 F0 _ fun v2 H1 B1 F1 s1 k1 => by
  refine ⟨by show 2 ≤ 1000; decide, fun x hx => ⟨x, v, v2, rfl, upd_same, fun dx n ne => ⟨rfl, dx, [(n2, v2), (n1, v)], ?_, upd_same, ?_, ?_⟩⟩⟩
  · rw [upd_ne (Ne.symm ne), upd_same]
  · rw [upd_ne ne] at n; exact n
  · have m1 : H1 dx = none := by rw [upd_ne ne] at n; exact n
    rw [del_made2 hx ne]
    have up : Same B1 (upd B1 dx (.xd [(n2, v2), (n1, v)])) := fun b o q => by rw [upd_ne (ne_of_none (F1.bh b o q) m1)]; exact q
    refine hW _ _ _ _ (k _ _ _ _ (F1.plus (o := .xd [(n2, v2), (n1, v)]) m1 trivial).post (hR _ _ _ ⟨rfl, dx, [(n2, v2), (n1, v)], [v, v2], rfl, upd_same, ⟨v, [v2], rfl, ?_, v2, rfl, ?_⟩, fun j m hj => ?_⟩))
    · exact r.mono (s1.trans up) k0
    · exact rb.mono up k1
    · have e1 : (n1 == n2) = false := by simpa using hn
      cases j with
      | zero => simp at hj; subst hj; simp [List.lookup, e1]
      | succ j => cases j with
        | zero => simp at hj; subst hj; simp [List.lookup]
        | succ j => simp at hj
end
end G
namespace G
variable [TabL]
open PySem PySem.Spec PyProof.Rows L2
section
variable {α β γ : Type} {r : Rp α} {ra : Rp γ} {rb : Rp β} {te : TE} {Γ : List Sl} {b : β}
/-- two own lists are read in one expression -/
theorem frz2_in {A : Amb} {σ : L2.St} {H B : Hp} {i j : Nat} {p q : Addr} {xs : List α} {ys : List γ} (F : Frm A σ H B Γ) (hi : Γ[i]? = some (.cel p (cLst r) xs)) (hj : Γ[j]? = some (.cel q (cLst ra) ys)) (ne : i ≠ j) : ∃ vs us, p ≠ q ∧ B p = none ∧ B q = none ∧ H p = some (.lst vs) ∧ H q = some (.lst us) ∧
    Frm ⟨upd (upd B p (.lst vs)) q (.lst us), H, fun _ => False, fun _ => True, fun _ _ _ _ => trivial⟩ σ H (upd (upd B p (.lst vs)) q (.lst us)) ((frz Γ i (.imm (rLst r) xs)).set j (.imm (rLst ra) ys)) := by
  obtain ⟨ev, hBp, _, o, ho, vs, rfl, kv⟩ := F.sl i _ hi
  obtain ⟨eu, hBq, _, o2, ho2, us, rfl, ku⟩ := F.sl j _ hj
  have pq : p ≠ q := fun e => ne (F.ds i j p (by rw [hi]; rfl) (by rw [hj, e]; rfl))
  have hB1 : Same B (upd B p (.lst vs)) := fun b u e => by rw [upd_ne (ne_of_none e hBp)]; exact e
  have hq1 : upd B p (.lst vs) q = none := by rw [upd_ne (Ne.symm pq)]; exact hBq
  have hB2 : Same (upd B p (.lst vs)) (upd (upd B p (.lst vs)) q (.lst us)) := fun b u e => by rw [upd_ne (ne_of_none e hq1)]; exact e
  have hB := hB1.trans hB2
  have hs : Same (upd (upd B p (.lst vs)) q (.lst us)) H := fun b u e => by
    by_cases hb : b = q
    · subst hb; rw [upd_same] at e; cases e; exact ho2
    · rw [upd_ne hb] at e
      by_cases hb2 : b = p
      · subst hb2; rw [upd_same] at e; cases e; exact ho
      · rw [upd_ne hb2] at e; exact F.bh b u e
  refine ⟨vs, us, pq, hBp, hBq, ho, ho2, ⟨hs, Same.refl _, fun _ _ _ _ e => e, fun _ _ e => e, fun _ e => e, hs, ⟨fun _ z => z.elim, fun _ z => z.elim, fun _ m n => F.tb.ne n m⟩, trivial, F.sz, (F.tb.fix hB1 (F.tb.nt ho fun _ z => nomatch z)).fix hB2 (F.tb.nt ho2 fun _ z => nomatch z)⟩, by rw [List.length_set]; unfold frz; rw [List.length_set, List.length_map]; exact F.len, fun _ _ => False, fun k s e => ?_, fun _ _ _ z => z.elim, fun _ _ z => z.elim⟩
  rcases getset e with ⟨rfl, rfl, _⟩ | ⟨n2, e⟩
  · exact ⟨_, eu, q, _, rfl, upd_same, us, rfl, Paired.monoR hB ku⟩
  · rcases frz_get e with ⟨rfl, rfl⟩ | ⟨_, u, hu, ht, hc⟩
    · exact ⟨_, ev, p, _, rfl, by rw [upd_ne pq]; exact upd_same, vs, rfl, Paired.monoR hB kv⟩
    · rcases ht with rfl | rfl
      · have hs := F.sl k _ hu
        cases s with
        | no => trivial
        | imm r a => obtain ⟨v, e1, e2⟩ := hs; exact ⟨v, e1, r.mono hB e2⟩
        | cel q c a => cases hc
        | tre q c a => cases hc
      · trivial
theorem frz2_out {A : Amb} {σ : L2.St} {H B H2 B2 : Hp} {p q : Addr} {vs us : List V} {Γ' : List Sl} {φ : Hp → Prop} {up : ∀ B B', Same B B' → φ B → φ B'} (F : Frm A σ H B Γ) (pq : p ≠ q) (hBp : B p = none) (hBq : B q = none) (F2 : Frm ⟨upd (upd B p (.lst vs)) q (.lst us), H, fun _ => False, φ, up⟩ σ H2 B2 Γ') (s2 : Same (upd (upd B p (.lst vs)) q (.lst us)) B2) :
    B2 q = some (.lst us) ∧ ers B2 q p = some (.lst vs) ∧ Same B (ers (ers B2 q) p) ∧ Frm A σ H2 (ers (ers B2 q) p) Γ := by
  have hq2 : B2 q = some (.lst us) := s2 _ _ upd_same
  have hp2 : B2 p = some (.lst vs) := s2 _ _ (by rw [upd_ne pq]; exact upd_same)
  have kp : ∀ b u, ¬ isTab b → H b = some u → H2 b = some u := fun b u nt e => F2.keep b u (fun z => z) nt e
  have s3 : Same B (ers (ers B2 q) p) := fun b u e => by
    rw [ers_ne (ne_of_none e hBp), ers_ne (ne_of_none e hBq)]
    exact s2 _ _ (by rw [upd_ne (ne_of_none e hBq), upd_ne (ne_of_none e hBp)]; exact e)
  have out : ∀ b, B b = none → H b ≠ none → ers (ers B2 q) p b = none := fun b e n => by
    by_cases hb : b = p
    · rw [hb]; exact ers_self
    · rw [ers_ne hb]
      by_cases hb2 : b = q
      · rw [hb2]; exact ers_self
      · rw [ers_ne hb2]; exact F2.out b n (by show upd (upd B p (.lst vs)) q (.lst us) b = none; rw [upd_ne hb2, upd_ne hb]; exact e)
  refine ⟨hq2, by rw [ers_ne pq]; exact hp2, s3, F.move ⟨fun b u e => ?_, fun b u e => s3 _ _ (F.b0 b u e), fun b u m nt e => kp b u nt (F.keep b u m nt e), fun b n z => out b (F.out b n z) (F.alive b n), fun b n => F2.alive b (F.alive b n), F.sub, F.mh, A.up _ _ s3 F.ph, F2.sz, (F2.tb.ers hq2).ers (by rw [ers_ne pq]; exact hp2)⟩ s3 fun b h => ⟨out b h.1 h.2.1, h.2.2, fun u => kp b u (h.nt F.mh)⟩⟩
  · by_cases hb : b = p
    · rw [hb, ers_self] at e; cases e
    · rw [ers_ne hb] at e
      by_cases hb2 : b = q
      · rw [hb2, ers_self] at e; cases e
      · rw [ers_ne hb2] at e; exact F2.bh b u e
theorem ev_frz2 {i j : Nat} {p q : Addr} {xs : List α} {ys : List γ} [NoL rb] (hi : Γ[i]? = some (.cel p (cLst r) xs)) (hj : Γ[j]? = some (.cel q (cLst ra) ys)) (ne : i ≠ j) (h : EvX rb te ((frz Γ i (.imm (rLst r) xs)).set j (.imm (rLst ra) ys)) ((frz Γ i (.imm (rLst r) xs)).set j (.imm (rLst ra) ys)) b) : EvX rb te Γ Γ b := fun A σ H B F Q k => by
  obtain ⟨vs, us, pq, hBp, hBq, _, _, F'⟩ := frz2_in F hi hj ne
  refine h _ σ H _ F' _ fun v H2 B2 F2 s2 k2 => ?_
  obtain ⟨h1, h2, h3, h4⟩ := frz2_out F pq hBp hBq F2 s2
  exact k v H2 _ h4 h3 (NoL.no h2 (NoL.no h1 k2))
theorem et_frz2 {tt : TT} {i j : Nat} {p q : Addr} {xs : List α} {ys : List γ} {b : Bool} (hi : Γ[i]? = some (.cel p (cLst r) xs)) (hj : Γ[j]? = some (.cel q (cLst ra) ys)) (ne : i ≠ j) (h : EvT tt ((frz Γ i (.imm (rLst r) xs)).set j (.imm (rLst ra) ys)) ((frz Γ i (.imm (rLst r) xs)).set j (.imm (rLst ra) ys)) b) : EvT tt Γ Γ b := fun A σ H B F Q k => by
  obtain ⟨vs, us, pq, hBp, hBq, _, _, F'⟩ := frz2_in F hi hj ne
  refine h _ σ H _ F' _ fun H2 B2 F2 s2 => ?_
  obtain ⟨h1, h2, h3, h4⟩ := frz2_out F pq hBp hBq F2 s2
  exact k H2 _ h4 h3
end
end G
namespace G
variable [TabL]
open PySem PySem.Spec PyProof.Rows L2
/-- o.m(e, ..), which may raise, within a try -/
def tMx (C : Addr) (m : Str) (sp : Sp) (E : L2.St → XK) (ta : TE) (t : TA) : TE := fun σ H Q => ta σ H fun x H1 => ∃ a dx fs, x = .ref a ∧ H1 a = some (.ins C dx fs) ∧ fs.lookup m = none ∧ t σ H1 fun vs H2 => sp (x :: vs) H2 Q (E σ)
section
variable {X : Cx} {CX : CXT} {k : Nat} {f C : Addr} {fd : FuncData} {ps : List Str} {m : Str} {sp : Sp} {E : L2.St → XK} {o e : Expr} {es : List Expr} {ta : TE} {t : TA} {apos pos : Pos}
theorem pe_methX {pl : Sem Bool} (he : PE X o ta) (c : Cls X.K C) (hm : Meth X.K C m f) (F : FnOk X.prog X.w X.K X.mg X.base CX k f fd ps sp) (hr : Room k X.A) (hb : Binds X.K fd ps []) (hx : ∀ σ, PassesAt CX X σ (E σ)) (ha : PA X (e :: es) t)
    (hst : starEach (e :: es) X.env = (false, eval e X.env) :: starEach es X.env := by rfl) (hpl : (backTo pos (starEach es X.env)).any (·.1) = false := by rfl)
    (ht : eval (.Call (.Attribute o m apos) (e :: es) [] pos) X.env = (do
      let ov ← eval o X.env
      standAt apos.atName
      let (f, first) ← holding [ov] (getMethod ov m pl)
      callWith pos f first (backTo pos (starEach (e :: es) X.env)) (backToKw pos (keywordEach [] X.env))) := by rfl) :
    PE X (.Call (.Attribute o m apos) (e :: es) [] pos) (tMx C m sp E ta t) := by
  refine ⟨fun pins s σ H Q I h => ?_⟩
  refine PySem.W.methodCall_KW (pl := pl) (thn (he.run pins s σ H _ I h) fun u s1 ⟨x, H1, I1, rx, a, dx, fs, ex, ea, l, q⟩ => ?_) ht
  subst ex
  obtain rfl : u = Value.ref a := rx
  refine getmeth_ok I1 ea c hm l ?_
  refine PySem.W.callWith_K (first := [.ref a]) (h₀ := X.base) I.ok.mod.kin hm.kp (thn (ha.run pos pins s1 σ H1 _ I1 q) fun us s2 ⟨vs, H2, I2, r, q2⟩ => ⟨I2.kIn, ?_⟩) hst hpl
  exact run_fnS (us := .ref a :: us) (vs := .ref a :: vs) F hr hb (hx σ) I2 (.cons rfl r) q2
end
section
variable {α β γ ε : Type} {w : Rw α} {w' : Rw β} {rc : Rp γ} {Γ Γ1 Γ2 : List Sl} {te : TE} {ta : TA} {a : α} {b : β} {R : ER ε} {C : Addr} {names : List Str} {nm : Str} {wb : Rw β}
theorem er_meth {m : α × β → Option (Res ε γ)} {x : Res ε γ} (h : EvX (rIns C names w) te Γ Γ1 a) (hb : EvW w' ta Γ1 Γ2 b) (e : m (a, b) = some x) (hn : nm ∉ names) :
    EvR R rc (fun E => tMx C nm (SpX R (wC (rIns C names w) w') rc m) E te ta) Γ Γ2 x := fun A σ H B F E Q qo qe => h A σ H B F _ fun v H1 B1 F1 s1 k1 => by
  obtain ⟨p, dx, vs, rfl, hp, l, kw⟩ := ob_ins F1.bh k1
  refine ⟨p, dx, _, rfl, hp, ins_no hn, hb A σ H1 B1 F1 _ fun us H2 B2 F2 s2 k2 => ?_⟩
  exact ⟨B2, (a, b), x, F2.szt, F2.bh, ⟨_, us, rfl, (rIns C names w).mono s2 k1, k2⟩, e, fun y hy H3 B3 v3 P k3 => qo y hy v3 H3 B3 (F2.after P) ((s1.trans s2).trans P.b0) k3, fun y hy cls d H3 B3 P k3 => qe y hy cls d H3 B3 (F2.after P) ((s1.trans s2).trans P.b0) k3⟩
/-- C(e, ..), where it does not raise -/
theorem ev_mkOk {wa : Rw α} {m : α → Option (Res ε β)} {x : Res ε β} {E : L2.St → XK} (hmono : ∀ {H H' cls d e}, Same H H' → R H cls d e → R H' cls d e) (h : EvW wa ta Γ Γ1 a) (e : m a = some x) (e2 : okR x = some b) : EvX (rIns C names wb) (tMakeS C (SpI R C wa (cIns C names wb) m) E ta) Γ Γ1 b :=
  ev_ok (tf := fun E => tMakeS C (SpI R C wa (cIns C names wb) m) E ta) (er_make hmono h e) (okR_eq e2) E
theorem sq_asgMx {A : Amb} {D : Ends} {u : TS} {i : Nat} {δ : Type} {W : WX} {m : α × β → Option (Res ε γ)} {x : Res ε γ} {k : γ → Option δ} {l : ε → Option δ} {z : δ} (h : EvX (rIns C names w) te Γ Γ1 a) (hb : EvW w' ta Γ1 Γ2 b) (e : m (a, b) = some x) (hn : nm ∉ names) (q : resX x k l = some z)
    (ko : ∀ y, k y = some z → Nx A (u D) (Γ2.set i (.imm rc y))) (ke : ∀ y, l y = some z → NxE W A Γ2 R y) : Nx A (tSeq (tAsg (tMx C nm (SpX R (wC (rIns C names w) w') rc m) (WE W) te ta) (gName i)) u D) Γ :=
  sq_asgR (tf := fun E => tMx C nm (SpX R (wC (rIns C names w) w') rc m) E te ta) (er_meth h hb e hn) q ko ke
end
end G
namespace G
variable [TabL]
open PySem PySem.Spec PyProof.Rows L2
/-- e is True, e is False; e a bool -/
def tIsB (c : Bool) (ta : TE) : TE := fun σ H Q => ta σ H fun x H1 => ∃ b, x = .bl b ∧ Q (.bl (decide (b = c))) H1
section
variable {X : Cx} {a : Expr} {ta te : TE} {Γ Γ1 : List Sl} {b c : Bool}
theorem pc_isB {j pos'} (ha : PE X a ta) : PC X .Is a (.Constant (.bool c) j pos') (tIsB c ta) := by
  refine ⟨fun pins s σ H Q I h => ?_⟩
  refine thn (ha.run pins s σ H _ I h) fun v s1 ⟨x, H1, I1, r1, b, e, q1⟩ => ?_
  subst e
  cases (show v = Value.bool b from r1)
  refine Constant_bool ?_
  refine wpAny_pure ⟨.bl (decide (b = c)), H1, I1, ?_, q1⟩
  show Value.bool _ = Value.bool _
  cases b <;> cases c <;> rfl
theorem ev_isB (h : EvX rBool te Γ Γ1 b) : EvX rBool (tIsB c te) Γ Γ1 (decide (b = c)) := fun A σ H B F Q q => h A σ H B F _ fun v H' B' F' s k => ⟨b, k, q _ H' B' F' s rfl⟩
end
end G

set_option maxHeartbeats 4000000
/-! # G: errors that leave loops, operators and nested calls; values of one of two types -/
namespace G
variable [TabL]
open PySem PySem.Spec PyProof.Rows L2
/-! ### a loop that raises -/
structure ContsX {ρ ς ε : Type} (A : Amb) (ψ : ρ → Hp → Hp → V → Prop) (R : ER ε) (E : XK) (D : Ends) (mk : ς → List Sl) (st : Step (Res ε ρ) ς) : Prop where
  nx : ∀ s, st = .nx s → Nx A D.nx (mk s)
  ct : ∀ s, st = .nx s → Nx A D.ct (mk s)
  bk : ∀ s, st = .brk s → Nx A D.bk (mk s)
  rt : ∀ b, st = .ret (.ok b) → Rt A ψ b D.rt
  er : ∀ e, st = .ret (.er e) → RtE A R e E
section
variable {α β γ ρ ς ε : Type} {r : Rp α} {Γ Γ1 Γ2 : List Sl} {xs : List α} {K : PySem.W.Frag} {u : TS}
theorem nx_forX {A : Amb} {ψ : ρ → Hp → Hp → V → Prop} {R : ER ε} {E : XK} {wi : TI} {g : TG} {tb : TS} {D : Ends} {vs : List Nat} (f : α → ς → Option (Step (Res ε ρ) ς)) (mk : ς → List Sl) {Γf : α → ς → List Sl} {s0 : ς} {R0 : Step (Res ε ρ) ς}
    (hi : ItX r wi Γ Γ1 xs) (e : forL f xs s0 = some R0) (h0 : ∀ A' : Amb, A'.m = A.m ∧ A'.H0 = A.H0 → Nx A' (Fin A' (mk s0)) Γ1)
    (hg : ∀ s, TgX g r vs (mk s) (fun x => Γf x s))
    (hb : ∀ (A' : Amb) (D' : Ends) (x : α) (s : ς) (st : Step (Res ε ρ) ς), A'.m = A.m ∧ A'.H0 = A.H0 → f x s = some st → ContsX A' ψ R E D' mk st → Nx A' (tb D') (Γf x s))
    (hr : ∀ b, R0 = .ret (.ok b) → Rt A ψ b D.rt) (he : ∀ b, R0 = .ret (.er b) → RtE A R b E) (hd : ∀ s, R0 = .nx s → Nx A D.nx (mk s)) : Nx A (tFor wi g tb D) Γ := fun σ H B F => by
  refine hi A σ H B F _ fun J H1 B1 F1 s1 Y => ?_
  refine ⟨fun i m σ H => m = xs.length - i ∧ i ≤ xs.length ∧ ∃ B s, Frm (A.and B1) σ H B (mk s) ∧ forL f (xs.drop i) s = some R0, ?_, ?_⟩
  · obtain ⟨B2, F2⟩ := h0 (A.and B1) ⟨rfl, rfl⟩ σ H1 B1 (F1.and (Same.refl _))
    exact ⟨_, rfl, Nat.zero_le _, B2, s0, F2, by rw [List.drop_zero]; exact e⟩
  · rintro i m σ2 H2 ⟨rfl, hi, B2, s2, F2, e2⟩
    by_cases hlt : i < xs.length
    · right
      have hx : xs[i]? = some xs[i] := List.getElem?_eq_getElem hlt
      rw [List.drop_eq_getElem_cons hlt] at e2
      refine ⟨Y.go i H2 B2 F2.ph.2 F2.bh hlt, fun σ3 H3 => ∃ s3, Fin (A.and B1) (mk s3) σ3 H3 ∧ forL f (xs.drop (i + 1)) s3 = some R0, fun σ3 H3 ⟨s3, ⟨B3, F3⟩, e3⟩ => ⟨_, by omega, rfl, by omega, B3, s3, F3, e3⟩, fun v H3 hy => ?_⟩
      obtain ⟨B3, F3, s3, k3⟩ := Y.yld i _ H2 B2 v H3 F2.ph.2 F2.bh hx hy (A.and B1) σ2 (mk s2) F2
      refine hg s2 (A.and B1) σ2 H3 B3 v xs[i] F3 k3 _ fun σ4 F4 _ _ => ?_
      unfold forL at e2
      cases q : f xs[i] s2 with
      | none => rw [q] at e2; cases e2
      | some st =>
        rw [q] at e2
        refine hb (A.and B1) _ xs[i] s2 st ⟨rfl, rfl⟩ q ⟨fun s5 z => ?_, fun s5 z => ?_, fun s5 z => ?_, fun b z => ?_, fun b z => ?_⟩ σ4 H3 B3 F4
        · subst z
          exact fun σ5 H5 B5 F5 => ⟨s5, ⟨B5, F5⟩, e2⟩
        · subst z
          exact fun σ5 H5 B5 F5 => ⟨s5, ⟨B5, F5⟩, e2⟩
        · subst z
          exact fun σ5 H5 B5 F5 => hd s5 (Option.some.inj e2).symm σ5 H5 B5 F5.unand
        · subst z
          exact fun H5 B5 v5 P5 k5 => hr b (Option.some.inj e2).symm H5 B5 v5 P5.unand k5
        · subst z
          exact fun cls d H5 B5 P5 k5 => he b (Option.some.inj e2).symm cls d H5 B5 P5.unand k5
    · left
      have hil : i = xs.length := by omega
      subst hil
      refine ⟨Y.stop H2 B2 F2.ph.2 F2.bh, ?_⟩
      rw [List.drop_length] at e2
      unfold forL at e2
      exact hd s2 (Option.some.inj e2).symm σ2 H2 B2 F2.unand
theorem sq_forX {A : Amb} {ψ : ρ → Hp → Hp → V → Prop} {R : ER ε} {E : XK} {wi : TI} {g : TG} {tb : TS} {D : Ends} {vs : List Nat} (f : α → ς → Option (Step (Res ε ρ) ς)) (mk : ς → List Sl) {Γf : α → ς → List Sl} {s0 : ς} {R0 : Step (Res ε ρ) ς}
    (hi : ItX r wi Γ Γ1 xs) (e : forL f xs s0 = some R0) (h0 : ∀ A' : Amb, A'.m = A.m ∧ A'.H0 = A.H0 → Nx A' (Fin A' (mk s0)) Γ1)
    (hg : ∀ s, TgX g r vs (mk s) (fun x => Γf x s))
    (hb : ∀ (A' : Amb) (D' : Ends) (x : α) (s : ς) (st : Step (Res ε ρ) ς), A'.m = A.m ∧ A'.H0 = A.H0 → f x s = some st → ContsX A' ψ R E D' mk st → Nx A' (tb D') (Γf x s))
    (hr : ∀ b, R0 = .ret (.ok b) → Rt A ψ b D.rt) (he : ∀ b, R0 = .ret (.er b) → RtE A R b E) (hd : ∀ s, R0 = .nx s → Nx A (u D) (mk s)) : Nx A (tSeq (tFor wi g tb) u D) Γ := nx_forX (D := { D with nx := u D }) f mk hi e h0 hg hb hr he hd
end
/-! ### operators and calls that may raise -/
def tBinX (C : Addr) (sp : Sp) (E : L2.St → XK) (ta tb : TE) : TE := fun σ H Q => ta σ H fun x H1 => tb σ H1 fun y H2 => rBinO C sp (E σ) x y H2 Q
section
variable {X : Cx} {CX : CXT} {C f : Addr} {fd : FuncData} {ps : List Str} {n : Nat} {sp : Sp} {E : L2.St → XK} {K : PySem.W.Frag} {a b : Expr} {ta tb : TE} {pos : Pos}
theorem pe_binX {op : Operator} (hK : X.K = K) (hs : PySem.W.findIn K (.ref C) (PySem.dunder op.info.2) = some (some (.ref f))) (hf : PySem.W.isFn K (.ref f) = true) (sf : PySem.W.selfFirst K C = true) (F : FnOk X.prog X.w X.K X.mg X.base CX n f fd ps sp) (hr : Room n X.A) (hb : Binds K fd ps [])
    (hx : ∀ σ, PassesAt CX X σ (E σ)) (he : PE X a ta) (he2 : PE X b tb) : PE X (.BinOp a op b pos) (tBinX C sp E ta tb) := by
  subst hK
  refine ⟨fun pins s σ H Q I h => wpAny_BinOp (binT he he2 I h fun v u s2 x y H2 I2 rx ry q => ?_)⟩
  obtain ⟨a, dx, fs, b, dy, gs, rfl, rfl, ha, hb2, q⟩ := q
  cases (show v = Value.ref a from rx)
  cases (show u = Value.ref b from ry)
  obtain ⟨mA, J, _⟩ := ins_get I2.hok ha
  obtain ⟨od, J, _⟩ := J.look
  obtain ⟨mB, J', _⟩ := ins_get I2.hok hb2
  obtain ⟨od', J', _⟩ := J'.look
  obtain ⟨m, hF⟩ := I2.fr
  refine PySem.W.binop_K hF I2.ok.mod.kin J J'.type sf hs hf ?_
  refine wpAny_mono (run_fnS (us := [.ref a, .ref b]) (vs := [.ref a, .ref b]) F hr hb (hx σ) I2 (.cons rfl (.cons rfl .nil)) q) (fun w s' z => ?_) fun _ _ e => e
  obtain ⟨z', H', I', rz, qz⟩ := z
  exact SlX.cmpback rz ⟨z', H', I', rz, qz⟩
end
def resM {ε β γ : Type} (x : Res ε β) (m : β → Option γ) : Option (Res ε γ) := match x with
  | .ok a => (m a).map .ok
  | .er e => some (.er e)
section
variable {α β γ ε δ : Type} {r ra : Rp α} {rb : Rp β} {rc : Rp γ} {te ta tb : TE} {t : TA} {Γ Γ1 Γ2 : List Sl} {K : PySem.W.Frag} {w : Rw α} {C : Addr} {names : List Str} {R : ER ε} {tf : (L2.St → XK) → TE} {A : Amb} {D : Ends} {u : TS}
theorem er_binX {m : α × α → Option (Res ε γ)} {z : Res ε γ} {x y : α} (ha : EvX (rIns C names w) ta Γ Γ1 x) (hb : EvX (rIns C names w) tb Γ1 Γ2 y) (e : m (x, y) = some z) :
    EvR R rc (fun E => tBinX C (SpX R (wC (rIns C names w) (w1 (rIns C names w))) rc m) E ta tb) Γ Γ2 z := fun A σ H B F E Q qo qe =>
  ha A σ H B F _ fun u H1 B1 F1 s1 k1 => hb A σ H1 B1 F1 _ fun v H2 B2 F2 s2 k2 => by
    have k1' := (rIns C names w).mono s2 k1
    obtain ⟨p, dx, vs, rfl, hp, l, kw⟩ := ob_ins F2.bh k1'
    obtain ⟨p2, dx2, vs2, rfl, hp2, l2, kw2⟩ := ob_ins F2.bh k2
    exact ⟨p, dx, _, p2, dx2, _, rfl, rfl, hp, hp2, B2, (x, y), z, F2.szt, F2.bh, ⟨_, _, rfl, k1', _, rfl, k2⟩, e, fun b hb H3 B3 v3 P k3 => qo b hb v3 H3 B3 (F2.after P) ((s1.trans s2).trans P.b0) k3, fun b hb cls d H3 B3 P k3 => qe b hb cls d H3 B3 (F2.after P) ((s1.trans s2).trans P.b0) k3⟩
theorem ev_binOk {m : α × α → Option (Res ε γ)} {z : Res ε γ} {x y : α} {c : γ} (E : L2.St → XK) (ha : EvX (rIns C names w) ta Γ Γ1 x) (hb : EvX (rIns C names w) tb Γ1 Γ2 y) (e : m (x, y) = some z) (e2 : okR z = some c) :
    EvX rc (tBinX C (SpX R (wC (rIns C names w) (w1 (rIns C names w))) rc m) E ta tb) Γ Γ2 c := ev_ok (er_binX ha hb e) (okR_eq e2) E
theorem er_callX {w : Rw α} {m : α → Option (Res ε β)} {a : α} {x : Res ε β} (h : EvW w t Γ Γ1 a) (e : m a = some x) : EvR R rb (fun E => tCallS (SpX R w rb m) E t) Γ Γ1 x := fun A σ H B F E Q qo qe => h A σ H B F _ fun vs H1 B1 F1 s1 k1 =>
  ⟨B1, a, x, F1.szt, F1.bh, k1, e, fun b hb H2 B2 v P k2 => qo b hb v H2 B2 (F1.after P) (s1.trans P.b0) k2, fun y hy cls d H2 B2 P k2 => qe y hy cls d H2 B2 (F1.after P) (s1.trans P.b0) k2⟩
theorem ev_callOk {w : Rw α} {m : α → Option (Res ε β)} {a : α} {x : Res ε β} {c : β} (E : L2.St → XK) (h : EvW w t Γ Γ1 a) (e : m a = some x) (e2 : okR x = some c) : EvX rb (tCallS (SpX R w rb m) E t) Γ Γ1 c := ev_ok (er_callX h e) (okR_eq e2) E
/-- C(e), e may raise and the __init__ does not -/
theorem er_make1 {wb : Rw β} {m : α → Option β} {E0 : XK} {x : Res ε α} {y : Res ε β} (hmono : ∀ {H H' : Hp} {cls d e}, Same H H' → R H cls d e → R H' cls d e) (h : EvR R r tf Γ Γ1 x) (e : resM x m = some y) :
    EvR R (rIns C names wb) (fun E => tMake C (SpJ C (w1 r) (cIns C names wb) m) [] E0 (tCons (tf E) tNil)) Γ Γ1 y := fun A σ H B F E Q qo qe => by
  refine h A σ H B F E _ (fun a ha v H1 B1 F1 s1 k1 => ?_) fun z hz cls d H1 B1 F1 s1 k1 => ?_
  · subst ha
    obtain ⟨b, hb, rfl⟩ := Option.map_eq_some_iff.mp e
    intro z dz hy hd ne
    obtain ⟨p1, p2, p3, p4⟩ := made_pre (C := C) F1 hy hd ne
    refine ⟨z, dz, [v], upd B1 dz (.own z), a, b, by rw [List.append_nil], upd_same, p3, p1, p2, ⟨v, rfl, r.mono p4 k1⟩, hb, fun H2 B2 P ⟨o, ho, k⟩ => ⟨rfl, ?_⟩⟩
    have F2 := made_frame (A := A) F1 hy hd ne P ho
    have F3 := F2.adopt (F1.H0none hy) F1.sub F1.mh
    have hB2 : B2 z = none := P.out z (by show upd (upd H1 dz (.own z)) z (.ins C dz []) z ≠ none; rw [upd_same]; simp) p3.1
    have s3 : Same B2 (upd B2 z o) := fun q u e => by rw [upd_ne (ne_of_none e hB2)]; exact e
    exact qo b rfl _ _ _ F3 (s1.trans (p4.trans (P.b0.trans s3))) ⟨z, o, rfl, upd_same, (cIns C names wb).mono s3 k⟩
  · subst hz
    cases e
    exact qe z rfl cls d H1 B1 F1 s1 k1
/-- return e, where e may raise -/
theorem sq_retX {x : Res ε α} {W : WX} {E : XK} (h : EvR R r tf Γ Γ1 x) (ko : ∀ b, x = .ok b → Rt A (psi r) b D.rt) (ke : ∀ e, x = .er e → RtE A R e E) (hW : ∀ cls d σ H, E cls d H → W cls d σ H) : Nx A (tSeq (tRet (tf (WE W))) u D) Γ := fun σ H B F =>
  h A σ H B F (WE W) _ (fun b hb v H' B' F' _ k => ko b hb H' B' v F'.post k) fun e he cls d H' B' F' _ k => hW _ _ _ _ (ke e he cls d H' B' F'.post k)
end
section
variable {α β γ ε δ κ : Type} {r : Rp α} {rb : Rp β} {rc : Rp γ} {ta tb : TE} {t : TA} {Γ Γ1 Γ2 : List Sl} {w : Rw α} {C : Addr} {names : List Str} {R : ER ε} {A : Amb} {D : Ends} {u : TS} {i : Nat}
theorem sq_asgBX {W : WX} {m : α × α → Option (Res ε γ)} {z : Res ε γ} {x y : α} {k : γ → Option δ} {l : ε → Option δ} {q : δ} (ha : EvX (rIns C names w) ta Γ Γ1 x) (hb : EvX (rIns C names w) tb Γ1 Γ2 y) (e : m (x, y) = some z) (h : resX z k l = some q)
    (ko : ∀ y, k y = some q → Nx A (u D) (Γ2.set i (.imm rc y))) (ke : ∀ y, l y = some q → NxE W A Γ2 R y) : Nx A (tSeq (tAsg (tBinX C (SpX R (wC (rIns C names w) (w1 (rIns C names w))) rc m) (WE W) ta tb) (gName i)) u D) Γ :=
  sq_asgR (tf := fun E => tBinX C (SpX R (wC (rIns C names w) (w1 (rIns C names w))) rc m) E ta tb) (er_binX ha hb e) h ko ke
theorem sq_dropBX {W : WX} {m : α × α → Option (Res ε γ)} {z : Res ε γ} {x y : α} {k : γ → Option δ} {l : ε → Option δ} {q : δ} (ha : EvX (rIns C names w) ta Γ Γ1 x) (hb : EvX (rIns C names w) tb Γ1 Γ2 y) (e : m (x, y) = some z) (h : resX z k l = some q)
    (ko : ∀ y, k y = some q → Nx A (u D) Γ2) (ke : ∀ y, l y = some q → NxE W A Γ2 R y) : Nx A (tSeq (tDrop (tBinX C (SpX R (wC (rIns C names w) (w1 (rIns C names w))) rc m) (WE W) ta tb)) u D) Γ :=
  sq_dropR (tf := fun E => tBinX C (SpX R (wC (rIns C names w) (w1 (rIns C names w))) rc m) E ta tb) (er_binX ha hb e) h ko ke
theorem sq_retMkC {wb : Rw β} {m : α → Option β} {E0 : XK} {W : WX} {E : XK} {wg : Rw κ} {g : κ → Option (Res ε α)} {a : κ} {x : Res ε α} {y : Res ε β} (hmono : ∀ {H H' : Hp} {cls d e}, Same H H' → R H cls d e → R H' cls d e) (h : EvW wg t Γ Γ1 a) (e : g a = some x) (e2 : resM x m = some y)
    (ko : ∀ b, y = .ok b → Rt A (psi (rIns C names wb)) b D.rt) (ke : ∀ e, y = .er e → RtE A R e E) (hW : ∀ cls d σ H, E cls d H → W cls d σ H) : Nx A (tSeq (tRet (tMake C (SpJ C (w1 r) (cIns C names wb) m) [] E0 (tCons (tCallS (SpX R wg r g) (WE W) t) tNil))) u D) Γ :=
  sq_retX (tf := fun E => tMake C (SpJ C (w1 r) (cIns C names wb) m) [] E0 (tCons (tCallS (SpX R wg r g) E t) tNil)) (er_make1 (R := R) hmono (er_callX h e) e2) ko ke hW
end
/-! ### values of one of two types -/
section
variable {α β γ δ : Type} {ra : Rp α} {rb : Rp β} {rc : Rp γ} {te : TE} {Γ Γ1 Γ2 : List Sl} {K : PySem.W.Frag} {w : Rw α} {wb : Rw β} {a : α} {b : β}
def rAlt {α β : Type} (ra : Rp α) (rb : Rp β) : Rp (α ⊕ β) := ⟨fun H v x => match x with
  | .inl a => ra.rel H v a
  | .inr b => rb.rel H v b, fun {H H' v x} s h => by
  cases x with
  | inl a => exact ra.mono s h
  | inr b => exact rb.mono s h⟩
theorem ev_inl (h : EvX ra te Γ Γ1 a) : EvX (rAlt ra rb) te Γ Γ1 (.inl a) := fun A σ H B F Q q => h A σ H B F Q q
theorem ev_inr (h : EvX rb te Γ Γ1 b) : EvX (rAlt ra rb) te Γ Γ1 (.inr b) := fun A σ H B F Q q => h A σ H B F Q q
theorem un_inl (h : EvX (rAlt ra rb) te Γ Γ1 (.inl a)) : EvX ra te Γ Γ1 a := fun A σ H B F Q q => h A σ H B F Q q
theorem un_inr (h : EvX (rAlt ra rb) te Γ Γ1 (.inr b)) : EvX rb te Γ Γ1 b := fun A σ H B F Q q => h A σ H B F Q q
def dAlt {α β : Type} (f : α → PyData) (g : β → PyData) : α ⊕ β → PyData
  | .inl a => f a
  | .inr b => g b
theorem da_alt {f : α → PyData} {g : β → PyData} (h : Da K ra f) (k : Da K rb g) : Da K (rAlt ra rb) (dAlt f g) := fun H v x e => by
  cases x with
  | inl a => exact h H v a e
  | inr b => exact k H v b e
def altO {α β γ : Type} (x : α ⊕ β) (f : α → γ) (g : β → γ) : γ := match x with
  | .inl a => f a
  | .inr b => g b
/-- a reading of both -/
theorem ev_altO {T : TE → TE} {x : α ⊕ β} {f : α → γ} {g : β → γ} (hl : ∀ a, EvX ra te Γ Γ1 a → EvX rc (T te) Γ Γ1 (f a)) (hr : ∀ b, EvX rb te Γ Γ1 b → EvX rc (T te) Γ Γ1 (g b)) (h : EvX (rAlt ra rb) te Γ Γ1 x) : EvX rc (T te) Γ Γ1 (altO x f g) := by
  cases x with
  | inl a => exact hl a (un_inl h)
  | inr b => exact hr b (un_inr h)
/-- x[k] of a tuple of one of two shapes -/
theorem ev_altI {κ : Type} {k : Nat} {ta : TE} {x : α ⊕ β} {rk : Rp κ} {f : α → κ} {g : β → κ} (hl : Acc w k rk f) (hr : Acc wb k rk g) (h : EvX (rAlt (rTup w) (rTup wb)) ta Γ Γ1 x) : EvX rk (tOp (rIxT K) ta (tC (.int (k : Int)))) Γ Γ1 (altO x f g) :=
  ev_altO (T := fun te => tOp (rIxT K) te (tC (.int (k : Int)))) (fun _ hz => ev_ixU hz hl) (fun _ hz => ev_ixU hz hr) h
/-- the second of them -/
def altR {α β : Type} : α ⊕ β → Option β
  | .inl _ => none
  | .inr b => some b
def altL {α β : Type} : α ⊕ β → Option α
  | .inl a => some a
  | .inr _ => none
theorem ev_altR {x : α ⊕ β} (h : EvX (rAlt ra rb) te Γ Γ1 x) (e : altR x = some b) : EvX rb te Γ Γ1 b := by
  cases x with
  | inl a => cases e
  | inr y => cases e; exact un_inr h
theorem ev_altL {x : α ⊕ β} (h : EvX (rAlt ra rb) te Γ Γ1 x) (e : altL x = some a) : EvX ra te Γ Γ1 a := by
  cases x with
  | inl y => cases e; exact un_inl h
  | inr y => cases e
end
end G

set_option maxHeartbeats 4000000
/-! # G: enumerate(tuple) -/
namespace G
variable [TabL]

open PySem PySem.Spec PyProof.Rows L2
/-- enumerate(v) with the count at its start: what it makes -/
def enObj (N : Nat) : Obj := { cls := .type "enumerate", data := .fields #[.none, .bool false, .ref N, rawInt 0, .none, .none] }
set_option maxHeartbeats 8000000 in
theorem en_meets {x : Value} {o : Obj} {P : Heap → Prop} (B : Begins x o P) :
    Meets (Builtin.«enumerate.__new__» ⟨[.type "enumerate", x], []⟩)
      (fun _ R s => P s.heap ∧ R (.ok (.ret (.ref (s.heap.push o).objs.size))) { s with heap := (s.heap.push o).push (enObj s.heap.objs.size) }) :=
  .of_wp fun prog w A R s h => by
    obtain ⟨hh, gg, dd, tt, oo⟩ := s
    obtain ⟨hP, hR⟩ := h
    have hs := sub_enumerate
    have itr : ∀ {A' : Around} {E Q : Value → Shared → Prop}, Q (.ref hh.objs.size) ⟨hh.push o, gg, dd, tt, oo⟩ → wpAny (model prog w) A' (pyIter x) Q E ⟨hh, gg, dd, tt, oo⟩ := fun q => B.iter prog w _ _ ⟨hh, gg, dd, tt, oo⟩ _ hP q
    wp_walk using itr
    refine wpAny_stack_any (fun ss => wpAny_pure ?_)
    split
    · rename_i cc _ _ _ _ _
      cases (cc == Value.type "enumerate") <;> (wp_walk using itr; exact ⟨_, rfl, hR⟩)
    · wp_walk using itr; exact ⟨_, rfl, hR⟩
theorem en_call {prog : Program} {w : World} {A : Around} {E Q : Value → Shared → Prop} {s : Shared} {x : Value} {o : Obj} {P : Heap → Prop} (B : Begins x o P) (hP : P s.heap)
    (h : ∀ h', IsEnum h' (s.heap.objs.size + 1) s.heap.objs.size 0 .none → h'.get? s.heap.objs.size = some o → (∀ b ob, s.heap.get? b = some ob → h'.get? b = some ob) → Q (.ref (s.heap.objs.size + 1)) { s with heap := h' }) :
    wpAny (model prog w) A (call (.type "enumerate") [x]) Q E s := by
  refine callType_new F.called_enumerate (by decide) (F.typeCall_enumerate_1 _) (F.newCall_enumerate_1 _) (fun q => F.args_object_init_2 q _) F.entry_enumerate_new (en_meets B) ⟨hP, ?_⟩
  have z1 : (s.heap.push o).objs.size = s.heap.objs.size + 1 := Heap.size_push ..
  have z2 : IsEnum ((s.heap.push o).push (enObj s.heap.objs.size)) (s.heap.objs.size + 1) s.heap.objs.size 0 .none := by
    have z3 := Heap.get?_push_size (s.heap.push o) (o := enObj s.heap.objs.size) rfl
    rw [z1] at z3; exact z3
  show _ ∧ _
  rw [z1]
  exact ⟨⟨_, z2, rfl⟩, h _ z2 (Heap.get?_push_of_some _ (Heap.get?_push_size _ B.free)) (fun b ob y => Heap.get?_push_of_some _ (Heap.get?_push_of_some _ y))⟩
theorem en_end {prog : Program} {w : World} {A : Around} {E : Value → Shared → Prop} {Q : Option Value → Shared → Prop} {s : Shared} {e it a : Addr} {i : Nat} {items : Array Value} {old : Value} (hh : A.handled = none) (he : IsEnum s.heap e it i old) (hit : s.heap.IsTupleIter it a i) (ha : s.heap.IsTuple a items) (hx : items[i]? = none)
    (k : ∀ h', Heap.ExtBut it s.heap h' → Q none { s with heap := h' }) : wpAny (model prog w) A (pyNext (.ref e)) Q E s := by
  have ty : s.TypeIs (.ref e) "enumerate" := ⟨_, he, rfl⟩
  unfold pyNext
  refine wpAny_bind (wpAny_attempt (wpAny_callSpecial?_slot (name := Str.ofString "__next__") ty F.slot_enumerate_next (wpAny_call_entry F.slot_enumerate_next ty F.entry_enumerate_next ?_ (F.args_enumerate_next_1 _))))
  show wpAny _ _ ((field (.ref e) 2) >>= _) _ _ _
  refine wpAny_bind (wpAny_field (he) rfl (x := .ref it) rfl ?_)
  refine wpAny_bind (wpAny_nextOf_tuple_end hh hit ha hx fun h' x ex hc => ?_)
  obtain ⟨ob, hob, hcl⟩ := hc
  exact wpAny_bind (wpAny_isInstance (T := "StopIteration") (b := true) ⟨ob, hob, hcl⟩ isSubtype_stop (wpAny_pure (k _ ex)))
/-- the tuple at a, each item in a new pair -/
def IteT (K : PySem.W.Frag) (a : Addr) : It :=
  ⟨fun i H => ∃ (xs : List V) (x : V), SqT K H a xs ∧ xs[i]? = some x, fun i H v H' => ∃ T x, v = .ref T ∧ H T = none ∧ H' = upd H T (.tup [.int (i : Nat), x]) ∧ ∀ xs, SqT K H a xs → xs[i]? = some x, fun i H => ∃ xs : List V, SqT K H a xs ∧ xs.length ≤ i⟩
theorem en_turn {P : Program} {w : World} {K : PySem.W.Frag} {elts : List Expr} {kk : Nat} {tpos : Pos} (a e it : Addr) :
    Turn P w K (.Tuple elts kk tpos) (IteT K a) [e, it] e (fun i h => (∃ old, IsEnum h e it ((i : Nat) : Int) old) ∧ h.IsTupleIter it a i ∧ e ≠ it) where
  mem := by simp
  obj := fun i h ⟨⟨old, he⟩, ⟨o, ho, hc, hd⟩, _⟩ b hb => by
    rcases (show b = e ∨ b = it by simpa using hb) with rfl | rfl
    · exact ⟨_, he, fun v q => nomatch q⟩
    · exact ⟨o, ho, fun v q => by rw [hd] at q; cases q⟩
  keep := fun i h h' ⟨⟨old, he⟩, hi, hne⟩ k => ⟨⟨old, k e (by simp) _ he⟩, hi.at (fun o q => k it (by simp) o q), hne⟩
  item := by
    intro X hP hw hK hc i pins s σ H E I hf st hg
    subst hP; subst hw; subst hK
    obtain ⟨⟨old, he⟩, hit, hne⟩ := st
    obtain ⟨xs, x, hq, hx⟩ := hg
    obtain ⟨its, rv, p, _⟩ := I.tuple hq
    obtain ⟨u, hu, ru⟩ := rv.get hx
    have hsz : i < its.toArray.size := by
      have := (List.getElem?_eq_some_iff.mp hu).1
      simpa using this
    have hta : s.heap.IsTuple a its.toArray := p
    have nea : e ≠ a := by
      rintro rfl
      obtain ⟨o2, q2, c2, _⟩ := hta
      have := he.symm.trans q2; cases this
      injection c2 with z; exact absurd z (by decide)
    have nia : a ≠ it := by
      rintro rfl
      obtain ⟨o2, q2, c2, _⟩ := hta
      obtain ⟨o3, q3, c3, _⟩ := hit
      have := q3.symm.trans q2; cases this
      rw [c2] at c3; injection c3 with z; exact absurd z (by decide)
    have hel : e < s.heap.objs.size := Heap.lt_size he
    have hil : it < s.heap.objs.size := by obtain ⟨_, q, _⟩ := hit; exact Heap.lt_size q
    refine wpAny_pyNext_enum_itemD (Draws.tuple (A := X.A.in1) (I.ok.hd hc) it a nia its.toArray) he ⟨hit, hta⟩ hsz hne (by simp [hne, nea]) fun y h' tk hy ho hit' hT hz hk => ?_
    have : u = y := by
      have e1 : its.toArray[i]? = some u := by simpa using hu
      rw [e1] at hy; exact Option.some.inj hy
    subst this
    refine ⟨_, rfl, wpAny_letOwnedTupleGo_enum (s := { s with heap := h', toks := tk + 1 }) ho fun h2 he2 sb => ?_⟩
    have hT2 : h2.get? s.heap.objs.size = some { cls := .type "tuple", data := .seq #[.int i tk, u] } := (sb.2 _ (Nat.ne_of_gt hel)).trans hT
    have new : ObjOk X.prog X.w (upd H s.heap.objs.size (.tup [.int (i : Nat), x])) h2 s.heap.objs.size (.tup [.int (i : Nat), x]) :=
      ⟨by show 2 ≤ sizeLine; decide, [.int i tk, u], .cons ⟨_, rfl⟩ (.cons ru .nil), ⟨_, hT2, rfl, _, rfl⟩⟩
    have I1 : Inv X pins σ (upd H s.heap.objs.size (.tup [.int (i : Nat), x])) { s with heap := h2, toks := tk + 1 } :=
      I.turnedNew (ch := [e, it]) (fun b ob hb q => (sb.2 b (fun z => hb (by simp [z]))).trans (hk b ob (fun z => hb (by simp [z])) (fun z => hb (by simp [z])) q)) hf (Nat.le_refl _) new
    refine ⟨.ref s.heap.objs.size, _, I1, rfl, ⟨_, x, rfl, I.hok.fresh (Nat.le_refl _), rfl, fun ys hy => by rw [I.tuple_inj hy hq]; exact hx⟩, ⟨⟨u, ?_⟩, hit'.1.at fun o q => (sb.2 it (Ne.symm hne)).trans q, hne⟩, fun b hb => ?_⟩
    · rw [show ((i + 1 : Nat) : Int) = (i : Int) + 1 by omega]; exact he2
    · have hb' : b < s.heap.objs.size := by
        rcases (show b = e ∨ b = it by simpa using hb) with z | z
        · rw [z]; exact hel
        · rw [z]; exact hil
      rw [upd_ne (Nat.ne_of_lt hb')]
      exact (hf b hb).1
  done := by
    intro X hP hw hK hc i pins s σ H E I hf st hg
    subst hP; subst hw; subst hK
    obtain ⟨⟨old, he⟩, hit, hne⟩ := st
    obtain ⟨xs, hq, hx⟩ := hg
    obtain ⟨its, rv, p, _⟩ := I.tuple hq
    have hta : s.heap.IsTuple a its.toArray := p
    obtain ⟨f0, f1, f2, f3, f4, f5⟩ := hf it (by simp)
    have hl := rv.length
    have nia : a ≠ it := by
      rintro rfl
      obtain ⟨o2, q2, c2, _⟩ := hta
      obtain ⟨o3, q3, c3, _⟩ := hit
      have := q3.symm.trans q2; cases this
      rw [c2] at c3; injection c3 with z; exact absurd z (by decide)
    exact en_end (I.ok.hd hc) he hit hta (by simp; omega) fun h' eb => ⟨rfl, I.turned (t' := s.toks) (fun b o hb q => eb b o hb q) f0 f1 f3 f4 f5⟩
  self := fun A i s Q E ⟨⟨_, he⟩, _⟩ h => wpAny_pyIter_enum he h
def iEnumT (K : PySem.W.Frag) (ta : TA) : TI := fun σ H R => ta σ H fun vs H1 => ∃ a xs, vs = [.ref a] ∧ SqT K H1 a xs ∧ R (IteT K a) H1
theorem pi_enumT {X : Cx} {e : Expr} {ta : TA} {p pos tpos : Pos} {elts : List Expr} {kk : Nat} (hg : Gl X "enumerate") (hm : X.mg "enumerate" = none) (ha : PA X [e] ta) (hs : starEach [e] X.env = [(false, eval e X.env)] := by rfl) :
    PI X (.Tuple elts kk tpos) (.Call (.Name "enumerate" p) [e] [] pos) (iEnumT X.K ta) := ⟨fun pins s σ H R I h => by
  refine Call_ (ld_blt I hg hm boot_enumerate (PyProof.Rows.callWith_type1 (thn (ha.run pos pins s σ H _ I h) fun us s1 ⟨vs, H1, I1, r1, a, xs, ex, hq, q⟩ => ?_) hs rfl))
  subst ex
  cases r1 with
  | cons r rr =>
    cases rr; cases r
    obtain ⟨its, rv, p', _⟩ := I1.tuple hq
    have ht : s1.heap.IsTuple a its.toArray := p'
    refine en_call (begins_tuple a its.toArray) ht fun h' he hit hk => wpAny_pyIter_enum he ?_
    have I2 : Inv X pins σ H1 { s1 with heap := h' } := I1.kept (t' := s1.toks) hk
    refine ⟨s1.heap.objs.size + 1, [s1.heap.objs.size + 1, s1.heap.objs.size], _, _, H1, rfl, I2, en_turn a (s1.heap.objs.size + 1) s1.heap.objs.size, ⟨⟨.none, he⟩, ⟨_, hit, rfl, rfl⟩, Nat.succ_ne_self _⟩, fun b hb => ?_, q⟩
    have hle : s1.heap.objs.size ≤ b := by
      rcases (show b = s1.heap.objs.size + 1 ∨ b = s1.heap.objs.size by simpa using hb) with z | z
      · rw [z]; exact Nat.le_add_right _ _
      · rw [z]; exact Nat.le_refl _
    exact I1.fpOk hle (I1.hok.fresh hle)⟩
section
variable {α : Type} {r : Rp α} {te : TE} {Γ Γ1 : List Sl} {xs : List α} {K : PySem.W.Frag}
theorem it_enumT (h : EvX (rTpl r) te Γ Γ1 xs) : ItX (rTup (wC rInt (w1 r))) (iEnumT K (tCons te tNil)) Γ Γ1 (enumL xs) := fun A σ H B F R q => h A σ H B F _ fun v H' B' F' s k => by
  obtain ⟨p, o, rfl, hp, vs, rfl, kp⟩ := k
  refine ⟨p, vs, rfl, SqT.of (F'.bh _ _ hp), q _ H' B' F' s ⟨by rw [enumL_len, ← Paired.len kp]; exact F'.sz _ _ (F'.bh _ _ hp), fun H2 B2 s1 s2 => ?_, fun i H2 B2 s1 s2 hi => ?_, fun i x H2 B2 v H3 s1 s2 hx hy A σ Γ F => ?_⟩⟩
  · exact ⟨vs, SqT.of (s2 _ _ (s1 _ _ hp)), by rw [enumL_len, Paired.len kp]; exact Nat.le_refl _⟩
  · rw [enumL_len] at hi
    obtain ⟨y, hy⟩ : ∃ y, vs[i]? = some y := ⟨_, List.getElem?_eq_getElem (by rw [Paired.len kp]; exact hi)⟩
    exact ⟨vs, y, SqT.of (s2 _ _ (s1 _ _ hp)), hy⟩
  · obtain ⟨T, y', rfl, hT, rfl, hv⟩ := hy
    obtain ⟨a, ha, rfl⟩ := enumF_get hx
    obtain ⟨y2, hy', ky⟩ := Paired.getR kp ha
    have e := (hv vs (SqT.of (s2 _ _ (s1 _ _ hp)))).symm
    rw [hy'] at e; obtain rfl := Option.some.inj e
    have hB : B2 T = none := by
      cases q : B2 T with
      | none => rfl
      | some u => have := F.bh T u q; rw [hT] at this; cases this
    have s' : Same B2 (upd B2 T (.tup [.int (i : Nat), y'])) := fun b u e => by rw [upd_ne (ne_of_none e hB)]; exact e
    refine ⟨_, F.plus (o := .tup [.int (i : Nat), y']) hT (by show 2 ≤ sizeLine; decide), s', T, _, rfl, upd_same, _, rfl, .int (i : Nat), [y'], rfl, ?_, y', rfl, r.mono s' (r.mono s1 ky)⟩
    show V.int (i : Nat) = V.int ((0 + i : Nat) : Int)
    rw [Nat.zero_add]
/-- what the second part changes is known no more -/
theorem ev_andF {ta tb : TE} {a b : Bool} (i : Nat) (h1 : EvX rBool ta Γ Γ1 a) (h2 : a = true → ∃ Γ2, EvX rBool tb Γ1 Γ2 b ∧ Γ2.set i .no = Γ1.set i .no) (h3 : a = false → b = false) : EvX rBool (tAndV ta tb) Γ (Γ1.set i .no) b := fun A σ H B F Q q => h1 A σ H B F _ fun v H' B' F' s k => ⟨a, k, by
  cases a with
  | true =>
    obtain ⟨Γ2, e, w⟩ := h2 rfl
    exact e A σ H' B' F' Q fun v2 H2 B2 F2 s2 k2 => q v2 H2 B2 (w ▸ F2.forget i) (s.trans s2) k2
  | false => obtain rfl := h3 rfl; exact q _ H' B' (F'.forget i) s rfl⟩
end
end G

set_option maxHeartbeats 4000000
/-! # G: dicts whose keys are tuples in tuples -/
namespace G
variable [TabL]

open PySem PySem.Spec PyProof.Rows L2
abbrev NK := NestedKey
abbrev NE := NK × Addr × V
abbrev KN : List NE → List (NK × Addr × Value) → Prop := Paired fun p q => p.1 = q.1 ∧ p.2.1 = q.2.1 ∧ RelV p.2.2 q.2.2
def RawN (P : Program) (w : World) (a : Addr) (o : Obj) (kvs : List NE) (h : Heap) : Prop :=
  kvs.length ≤ sizeLine ∧ (a == sysModules) = false ∧ (kvs.map (·.1)).Nodup ∧ ∃ xs, KN kvs xs ∧ h.get? a = some o ∧ o.ExactDict ∧ ∃ es ep, o.data = .dict es ep ∧ es.toList = xs.map (entryOfKey (nestedKind P w))
/-- a dict with such keys, at a: the object o -/
def dNO (P : Program) (w : World) (a : Addr) (o : Obj) (kvs : List NE) : HO := .ext (RawN P w a o kvs)
def valN (kvs : List NE) (k : NK) : Option V := (kvs.find? fun e => decide (e.1 = k)).map (·.2.2)
def putN (kvs : List NE) (k : NK) (b : Addr) (v : V) : List NE := if (kvs.any fun e => decide (e.1 = k)) = true then kvs.map (fun e => if e.1 = k then (e.1, e.2.1, v) else e) else kvs ++ [(k, b, v)]
theorem putN_len (kvs : List NE) (k : NK) (b : Addr) (v : V) : (putN kvs k b v).length ≤ kvs.length + 1 := by
  unfold putN
  split
  · rw [List.length_map]; omega
  · rw [List.length_append, List.length_singleton]; omega
theorem valN_any (k : NK) : ∀ kvs : List NE, (kvs.any fun e => decide (e.1 = k)) = (valN kvs k).isSome
  | [] => rfl
  | e :: r => by
    rw [List.any_cons, valN_any k r]
    unfold valN
    by_cases h : e.1 = k
    · rw [List.find?_cons_of_pos (by simpa using h), decide_eq_true h]; rfl
    · rw [List.find?_cons_of_neg (by simpa using h), decide_eq_false h, Bool.false_or]
theorem KN.val (k : NK) : ∀ {kvs : List NE} {xs : List (NK × Addr × Value)}, KN kvs xs → RelO (valN kvs k) ((atKey xs k).map (·.2))
  | _, _, .nil => True.intro
  | _, _, .cons (a := p) (b := q) (l₁ := ps) (l₂ := qs) h t => by
    have ih := KN.val k t
    unfold valN atKey at ih ⊢
    by_cases e : p.1 = k
    · rw [List.find?_cons_of_pos (by simpa using e), List.find?_cons_of_pos (by simpa using h.1.symm.trans e)]
      exact h.2.2
    · rw [List.find?_cons_of_neg (by simpa using e), List.find?_cons_of_neg (by simpa using fun z => e (h.1.trans z))]
      exact ih
theorem KN.repl (k : NK) {v : V} {u : Value} (r : RelV v u) : ∀ {kvs : List NE} {xs : List (NK × Addr × Value)}, KN kvs xs → KN (kvs.map fun e => if e.1 = k then (e.1, e.2.1, v) else e) (xs.map (putAt k u))
  | _, _, .nil => .nil
  | _, _, .cons (a := p) (b := q) h t => by
    rw [List.map_cons, List.map_cons]
    refine .cons ?_ (KN.repl k r t)
    unfold putAt
    by_cases e : p.1 = k
    · rw [if_pos e, if_pos (h.1.symm.trans e)]; exact ⟨h.1, h.2.1, r⟩
    · rw [if_neg e, if_neg fun z => e (h.1.trans z)]; exact h
theorem KN.put {kvs : List NE} {xs : List (NK × Addr × Value)} (h : KN kvs xs) (k : NK) (b : Addr) {v : V} {u : Value} (r : RelV v u) : KN (putN kvs k b v) (storedH xs k b u) := by
  have e : (kvs.any fun e => decide (e.1 = k)) = (atKey xs k).isSome := by rw [valN_any, (h.val k).isSome_eq, Option.isSome_map]
  unfold putN storedH
  rw [e]
  by_cases q : (atKey xs k).isSome = true
  · rw [if_pos q, if_pos q]; exact h.repl k r
  · rw [if_neg q, if_neg q]; exact Paired.snoc h ⟨rfl, rfl, r⟩
theorem KN.keys : ∀ {kvs : List NE} {xs : List (NK × Addr × Value)}, KN kvs xs → kvs.map (·.1) = xs.map (·.1)
  | _, _, .nil => rfl
  | _, _, .cons h t => by rw [List.map_cons, List.map_cons, h.1, KN.keys t]
def NkOk (P : Program) (w : World) (H : Hp) (b : Addr) (k : NK) : Prop := k.depth ≤ 8 ∧ ∀ h, HOk P w H h → NestedIs h k (.ref b)
def AllK (P : Program) (w : World) (H : Hp) (kvs : List NE) : Prop := ∀ e ∈ kvs, NkOk P w H e.2.1 e.1
section
variable {P : Program} {w : World} {H : Hp} {h : Heap} {a : Addr} {o : Obj} {kvs : List NE}
theorem dn_mk (r : RawN P w a o kvs h) : ObjOk P w H h a (dNO P w a o kvs) := by
  refine ⟨r, ?_, fun h1 h2 r k => ?_⟩
  · obtain ⟨_, _, _, _, _, e, _⟩ := r; exact ⟨o, e⟩
  · obtain ⟨z, y, nd, xs, kn, e, q⟩ := r
    exact ⟨z, y, nd, xs, kn, k o e, q⟩
theorem dn_of (ok : HOk P w H h) (e : H a = some (dNO P w a o kvs)) : RawN P w a o kvs h := (show ObjOk P w H h a (dNO P w a o kvs) from ok a _ e).1
theorem dn_dict (ok : HOk P w H h) (e : H a = some (dNO P w a o kvs)) (ak : AllK P w H kvs) : kvs.length ≤ sizeLine ∧ (a == sysModules) = false ∧ ∃ xs, KN kvs xs ∧ h.DictOfH (nestedKind P w) a xs := by
  obtain ⟨z, y, nd, xs, kn, e1, e2, es, ep, e3, e4⟩ := dn_of ok e
  refine ⟨z, y, xs, kn, o, es, ep, e1, e2, e3, e4, fun x hx => ?_, by rw [← kn.keys]; exact nd⟩
  have all : ∀ {l : List NE} {m : List (NK × Addr × Value)}, KN l m → (∀ e ∈ l, NkOk P w H e.2.1 e.1) → ∀ x ∈ m, (nestedKind P w).is h x.1 x.2.1 := by
    intro l m q
    induction q with
    | nil => intro _ x hx; exact nomatch hx
    | cons hq t ih =>
      intro hk x hx
      rcases List.mem_cons.mp hx with rfl | hx
      · have := hk _ List.mem_cons_self
        rw [hq.1, hq.2.1] at this
        exact ⟨this.2 h ok, this.1⟩
      · exact ih (fun e he => hk e (List.mem_cons_of_mem _ he)) x hx
  exact all kn ak x hx
end
/-! ### readings -/
def tDNewN (P : Program) (w : World) : TE := fun _ H Q => ∀ p o, H p = none → Q (.ref p) (upd H p (dNO P w p o []))
/-- what the dict at x holds at the key y -/
def NGet (P : Program) (w : World) (H : Hp) (x y : V) (a : Addr) (r : Option V) : Prop := ∃ o kvs b k, x = .ref a ∧ H a = some (dNO P w a o kvs) ∧ AllK P w H kvs ∧ y = .ref b ∧ NkOk P w H b k ∧ r = valN kvs k
def tNGet (P : Program) (w : World) (td ty : TE) : TE := fun σ H Q => td σ H fun x H1 => ty σ H1 fun y H2 => ∃ a v, NGet P w H2 x y a (some v) ∧ Q v H2
def tNIn (P : Program) (w : World) (ty td : TE) : TE := fun σ H Q => ty σ H fun y H1 => td σ H1 fun x H2 => ∃ a o, NGet P w H2 x y a o ∧ Q (.bl o.isSome) H2
def tNNotIn (P : Program) (w : World) (ty td : TE) : TE := fun σ H Q => ty σ H fun y H1 => td σ H1 fun x H2 => ∃ a o, NGet P w H2 x y a o ∧ Q (.bl (!o.isSome)) H2
def tNGet1 (P : Program) (w : World) (td ty : TE) : TE := fun σ H Q => td σ H fun x H1 => (∃ a o kvs, x = .ref a ∧ H1 a = some (dNO P w a o kvs)) ∧ ty σ H1 fun y H2 => ∃ a o, NGet P w H2 x y a o ∧ Q (o.getD .non) H2
def sNPut (P : Program) (w : World) (td ty tv : TE) : TS := fun D σ H => tv σ H fun v H1 => td σ H1 fun x H2 => ty σ H2 fun y H3 => ∃ a o kvs b k, x = .ref a ∧ H3 a = some (dNO P w a o kvs) ∧ AllK P w H3 kvs ∧ y = .ref b ∧ NkOk P w H3 b k ∧ kvs.length < sizeLine ∧ ∀ o', D.nx σ (upd H3 a (dNO P w a o' (putN kvs k b v)))
section
variable {X : Cx} {o i e value : Expr} {pos pos' tpos apos cpos : Pos} {td ty tv : TE}
theorem pe_dnewN : PE X (.Dict [] [] pos) (tDNewN X.prog X.w) := ⟨fun pins s σ H Q I h =>
  wpAny_Dict_empty ⟨.ref s.heap.objs.size, _, I.laid (a := s.heap.objs.size) (o := dNO X.prog X.w s.heap.objs.size { cls := .type "dict", data := .dict #[] } []) (t' := s.toks) (fun _ _ q => Heap.get?_push_of_some _ q) (Nat.le_refl _)
    (dn_mk ⟨Nat.zero_le _, beq_eq_false_iff_ne.mpr (Ne.symm (Nat.ne_of_lt I.big)), List.nodup_nil, [], .nil, Heap.get?_push_size _ rfl, ⟨rfl, rfl, rfl⟩, #[], 0, rfl, rfl⟩), rfl, h _ _ (I.hok.fresh (Nat.le_refl _))⟩⟩
theorem ng_type {pins : List (Addr × Obj)} {σ : L2.St} {H : Hp} {s : Shared} {a : Addr} {ob : Obj} {kvs : List NE} (I : Inv X pins σ H s) (e : H a = some (dNO X.prog X.w a ob kvs)) : s.TypeIs (.ref a) "dict" ∧ (∀ b, Value.ref a = .ref b → ∃ ob, s.heap.get? b = some ob ∧ ob.dict = none) := by
  obtain ⟨_, _, _, xs, _, e1, e2, _⟩ := dn_of I.hok e
  exact ⟨⟨ob, e1, e2.1⟩, fun b q => by cases q; exact ⟨ob, e1, e2.2.1⟩⟩
theorem pe_nget (hu : X.A.in1.units + 8 < cLine) (ho : PE X o td) (hi : PE X i ty) (hs : NoSl i) : PE X (.Subscript o i pos) (tNGet X.prog X.w td ty) := ⟨fun pins s σ H Q I h => by
  refine subD_of PySem.F.slot_dict_getitem.lookup hs (thn (ho.run pins s σ H _ I h) fun u s1 ⟨x, H1, I1, rx, q1⟩ => thn (hi.run pins s1 σ H1 _ I1 q1) fun iv s2 ⟨y, H2, I2, ry, a, v, g, q2⟩ => ?_)
  obtain ⟨od, kvs, b, k, rfl, hp, ak, rfl, nk, l⟩ := g
  obtain rfl : u = Value.ref a := rx
  obtain rfl : iv = Value.ref b := ry
  obtain ⟨z, hd, xs, kn, dd⟩ := dn_dict I2.hok hp ak
  obtain ⟨w', hw, rw'⟩ := RelO.some_of (v := v) (o := (atKey xs k).map (·.2)) (by rw [l]; exact kn.val k)
  obtain ⟨p, hp1, hp2⟩ := Option.map_eq_some_iff.mp hw
  refine ⟨(ng_type I2 hp).1, wpAny_getItem_heap (knd := nestedKind X.prog X.w) hu ⟨nk.2 _ I2.hok, nk.1⟩ dd hp1 ?_⟩
  rw [hp2]
  exact ⟨v, H2, I2.tok _, rw', q2⟩⟩
theorem pc_nin (hu : X.A.in1.units + 8 < cLine) (hi : PE X i ty) (ho : PE X o td) : PC X .In i o (tNIn X.prog X.w ty td) := ⟨fun pins s σ H Q I h => by
  refine thn (hi.run pins s σ H _ I h) fun iv s1 ⟨y, H1, I1, ry, q1⟩ => thn (ho.run pins s1 σ H1 _ I1 q1) fun u s2 ⟨x, H2, I2, rx, a, ov, g, q2⟩ => ?_
  obtain ⟨od, kvs, b, k, rfl, hp, ak, rfl, nk, rfl⟩ := g
  obtain rfl : u = Value.ref a := rx
  obtain rfl : iv = Value.ref b := ry
  obtain ⟨z, hd, xs, kn, dd⟩ := dn_dict I2.hok hp ak
  refine wpAny_in_heap (knd := nestedKind X.prog X.w) hu ⟨nk.2 _ I2.hok, nk.1⟩ hd dd ?_
  have q := (kn.val k).isSome_eq
  rw [Option.isSome_map] at q
  exact ⟨.bl _, H2, I2.tok _, by show _ = _; rw [q], q2⟩⟩
theorem pc_nnotin (hu : X.A.in1.units + 8 < cLine) (hi : PE X i ty) (ho : PE X o td) : PC X .NotIn i o (tNNotIn X.prog X.w ty td) := ⟨fun pins s σ H Q I h => by
  refine thn (hi.run pins s σ H _ I h) fun iv s1 ⟨y, H1, I1, ry, q1⟩ => thn (ho.run pins s1 σ H1 _ I1 q1) fun u s2 ⟨x, H2, I2, rx, a, ov, g, q2⟩ => ?_
  obtain ⟨od, kvs, b, k, rfl, hp, ak, rfl, nk, rfl⟩ := g
  obtain rfl : u = Value.ref a := rx
  obtain rfl : iv = Value.ref b := ry
  obtain ⟨z, hd, xs, kn, dd⟩ := dn_dict I2.hok hp ak
  refine wpAny_notIn_heap (knd := nestedKind X.prog X.w) hu ⟨nk.2 _ I2.hok, nk.1⟩ hd dd ?_
  have q := (kn.val k).isSome_eq
  rw [Option.isSome_map] at q
  exact ⟨.bl _, H2, I2.tok _, by show _ = _; rw [q], q2⟩⟩
theorem pe_nget1 (hu : X.A.in1.units + 8 < cLine) (ho : PE X o td) (he : PE X e ty) (m : M1 X o "get" apos e cpos) : PE X (.Call (.Attribute o "get" apos) [e] [] cpos) (tNGet1 X.prog X.w td ty) := ⟨fun pins s σ H Q I h => by
  refine wpAny_Call_method m.base m.few m.line PySem.F.plainAttrs_dict PySem.F.slot_dict_get PySem.F.type_dict_get (thn (ho.run pins s σ H _ I h) fun u s1 ⟨x, H1, I1, rx, q0, q1⟩ => ?_)
  obtain ⟨a0, o0, kvs0, ex0, hp0⟩ := q0
  subst ex0
  obtain rfl : u = Value.ref a0 := rx
  obtain ⟨t1, t2⟩ := ng_type I1 hp0
  refine ⟨t1, t2, ?_⟩
  rw [m.trees]
  refine Calls.callWith_builtin rfl (Calls.evalArgs_plain (Calls.spliced_cons (thn (he.run pins s1 σ H1 _ I1 q1) fun iv s2 ⟨y, H2, I2, ry, a, ov, g, q2⟩ => Calls.spliced_nil ?_)))
  obtain ⟨od, kvs, b, k, ex, hp, ak, rfl, nk, rfl⟩ := g
  cases ex
  obtain rfl : iv = Value.ref b := ry
  obtain ⟨z, hd, xs, kn, dd⟩ := dn_dict I2.hok hp ak
  exact call_meetsIn PySem.F.slot_dict_get dd.typeIs PySem.F.entry_dict_get (PySem.F.args_dict_get_2 _ _) (meetsH_dict_get (nestedKind X.prog X.w) a0 b hd) ⟨hu, k, xs, ⟨nk.2 _ I2.hok, nk.1⟩, dd, ⟨_, H2, I2.tok _, RelO.getD (d := V.non) (d' := Value.none) (kn.val k) (show Value.none = Value.none from rfl), q2⟩⟩⟩
theorem putN_nodup {kvs : List NE} {k : NK} {b : Addr} {v : V} (h : (kvs.map (·.1)).Nodup) : ((putN kvs k b v).map (·.1)).Nodup := by
  unfold putN
  split
  · rw [List.map_map]
    have : ((fun e : NE => e.1) ∘ fun e : NE => if e.1 = k then (e.1, e.2.1, v) else e) = fun e => e.1 := by
      funext e
      show (if e.1 = k then (e.1, e.2.1, v) else e).1 = e.1
      split <;> rfl
    rw [this]; exact h
  · rename_i hn
    rw [List.map_append]
    refine List.nodup_append.mpr ⟨h, by simp, fun x hx y hy e => ?_⟩
    have hy' : y = k := by simpa using hy
    obtain ⟨z, hz, rfl⟩ := List.mem_map.mp hx
    exact hn (List.any_eq_true.mpr ⟨z, hz, decide_eq_true (e.trans hy')⟩)
theorem ps_nput (hu : X.A.in1.units + 8 < cLine) (ho : PE X o td) (hi : PE X i ty) (hv : PE X value tv) (hs : swapsWith value (some (.Subscript o i pos')) pos.line X.env = pure false) :
    PS X (.Assign [.Subscript o i pos'] value pos) (sNPut X.prog X.w td ty tv) := ⟨fun pins s σ H D I h => by
  refine wpAny_Assign_Subscript (thn (hv.run pins s σ H _ I h) fun r s1 ⟨v, H1, I1, rv, q1⟩ => thn (ho.run pins s1 σ H1 _ I1 q1) fun u s2 ⟨x, H2, I2, rx, q2⟩ => thn (hi.run pins s2 σ H2 _ I2 q2) fun iv s3 ⟨y, H3, I3, ry, a, od, kvs, b, k, ex, hp, ak, ey, nk, hl, q3⟩ => ?_) hs
  subst ex ey
  obtain rfl : u = Value.ref a := rx
  obtain rfl : iv = Value.ref b := ry
  obtain ⟨z, hd, xs, kn, dd⟩ := dn_dict I3.hok hp ak
  have nd := (dn_of I3.hok hp).2.2.1
  refine wpAny_setItem_heap (knd := nestedKind X.prog X.w) (hsz := by rw [← Paired.len kn]; exact z) hu ⟨nk.2 _ I3.hok, nk.1⟩ dd fun h' dd' hs => ?_
  obtain ⟨q, es, ep, hq, h2, h3, h4, _, h5⟩ := dd'
  refine ⟨σ, _, ?_, q3 q⟩
  refine d_write I3 (by rw [hp]; exact True.intro) hs ⟨q, hq⟩ (dn_mk ⟨?_, hd, putN_nodup nd, _, kn.put k b rv, hq, h2, es, ep, h3, h4⟩)
  have := putN_len kvs k b v
  omega⟩
end
end G

set_option maxHeartbeats 4000000
/-! # G: such dicts: what an expression gives -/
namespace G
variable [TabL]

open PySem PySem.Spec PyProof.Rows L2
/-- a key that is a tuple -/
structure KyN {κ : Type} [DecidableEq κ] (r : Rp κ) where
  key : κ → NK
  inj : ∀ {a b}, key a = key b → a = b
  dep : ∀ k, (key k).depth ≤ 8
  ref : ∀ {H v k}, r.rel H v k → ∃ b, v = .ref b
  is : ∀ {P w} {H : Hp} {h : Heap} {b : Addr} {k : κ}, HOk P w H h → r.rel H (.ref b) k → NestedIs h (key k) (.ref b)
section
variable {P : Program} {w : World} {κ β α γ : Type} [DecidableEq κ] {rk : Rp κ} {rv : Rp β} {r : Rp α} {te ta tb tk tv : TE} {Γ Γ1 Γ2 : List Sl} {K : PySem.W.Frag}
def NRel (ky : KyN rk) (rv : Rp β) (H : Hp) (e : NE) (x : κ × β) : Prop := e.1 = ky.key x.1 ∧ rk.rel H (.ref e.2.1) x.1 ∧ rv.rel H e.2.2 x.2
theorem NRel.mono {ky : KyN rk} {H H' : Hp} (s : Same H H') {e : NE} {x : κ × β} (h : NRel ky rv H e x) : NRel ky rv H' e x := ⟨h.1, rk.mono s h.2.1, rv.mono s h.2.2⟩
def rDicN (P : Program) (w : World) (ky : KyN rk) (rv : Rp β) : Rp (List (κ × β)) := ⟨fun H v l => ∃ p o kvs, v = .ref p ∧ H p = some (dNO P w p o kvs) ∧ Paired (NRel ky rv H) kvs l, fun s ⟨p, o, kvs, e, h, k⟩ => ⟨p, o, kvs, e, s _ _ h, Paired.imp2 (fun _ _ q => q.mono s) k⟩⟩
def cDicN (P : Program) (w : World) (p : Addr) (ky : KyN rk) (rv : Rp β) : Cl (List (κ × β)) := ⟨fun H o l => ∃ ob kvs, o = dNO P w p ob kvs ∧ Paired (NRel ky rv H) kvs l, fun s ⟨ob, kvs, e, k⟩ => ⟨ob, kvs, e, Paired.imp2 (fun _ _ q => q.mono s) k⟩⟩
theorem nn_dicN {ky : KyN rk} : NN (rDicN P w ky rv) := fun _ _ _ ⟨p, _, _, e, _⟩ e' => by rw [e'] at e; cases e
theorem nk_ok (ky : KyN rk) {H : Hp} {b : Addr} {k : κ} (h : rk.rel H (.ref b) k) : NkOk P w H b (ky.key k) := ⟨ky.dep k, fun _ ok => ky.is ok h⟩
theorem allKN (ky : KyN rk) {H : Hp} : ∀ {kvs : List NE} {l : List (κ × β)}, Paired (NRel ky rv H) kvs l → AllK P w H kvs
  | _, _, .nil => fun _ z => nomatch z
  | _, _, .cons q t => fun e he => by
    rcases List.mem_cons.mp he with rfl | he
    · have := nk_ok (P := P) (w := w) ky q.2.1
      rw [q.1]; exact this
    · exact allKN ky t e he
theorem any_keyN (ky : KyN rk) {H : Hp} (k : κ) : ∀ {kvs : List NE} {l : List (κ × β)}, Paired (NRel ky rv H) kvs l → (kvs.any fun e => decide (e.1 = ky.key k)) = l.any fun e => decide (e.1 = k)
  | _, _, .nil => rfl
  | _, _, .cons (a := a) (b := b) q t => by
    rw [List.any_cons, List.any_cons, any_keyN ky k t]
    congr 1
    by_cases h : b.1 = k
    · rw [decide_eq_true h, decide_eq_true (by rw [q.1, h])]
    · rw [decide_eq_false h, decide_eq_false fun e => h (ky.inj (by rw [← q.1]; exact e))]
theorem map_pairN (ky : KyN rk) {H : Hp} {k : κ} {v : V} {b : β} (hv : rv.rel H v b) : ∀ {kvs : List NE} {l : List (κ × β)}, Paired (NRel ky rv H) kvs l → Paired (NRel ky rv H) (kvs.map fun e => if e.1 = ky.key k then (e.1, e.2.1, v) else e) (l.map fun e => if e.1 = k then (e.1, b) else e)
  | _, _, .nil => .nil
  | _, _, .cons (a := a) (b := b') q t => by
    rw [List.map_cons, List.map_cons]
    refine .cons ?_ (map_pairN ky hv t)
    by_cases e : b'.1 = k
    · rw [if_pos e, if_pos (by rw [q.1, e])]; exact ⟨q.1, q.2.1, hv⟩
    · rw [if_neg e, if_neg fun z => e (ky.inj (by rw [← q.1]; exact z))]; exact q
theorem put_pairN (ky : KyN rk) {H : Hp} {k : κ} {c : Addr} {v : V} {b : β} (hk : rk.rel H (.ref c) k) (hv : rv.rel H v b) {kvs : List NE} {l : List (κ × β)} (h : Paired (NRel ky rv H) kvs l) : Paired (NRel ky rv H) (putN kvs (ky.key k) c v) (putM l k b) := by
  unfold putN putM
  rw [any_keyN ky k h]
  split
  · exact map_pairN ky hv h
  · exact Paired.app h (.cons ⟨rfl, hk, hv⟩ .nil)
theorem get_pairN (ky : KyN rk) {H : Hp} (k : κ) : ∀ {kvs : List NE} {l : List (κ × β)}, Paired (NRel ky rv H) kvs l → (∀ b, getM l k = some b → ∃ v, valN kvs (ky.key k) = some v ∧ rv.rel H v b) ∧ (getM l k = none → valN kvs (ky.key k) = none)
  | _, _, .nil => ⟨(fun b e => by cases e), fun _ => rfl⟩
  | _, _, .cons (a := a) (b := b) (l₁ := l1) (l₂ := l2) q t => by
    have ih := get_pairN ky k t
    unfold getM valN at ih ⊢
    by_cases h : b.1 = k
    · have h2 : a.1 = ky.key k := by rw [q.1, h]
      rw [List.find?_cons_of_pos (by simpa using h), List.find?_cons_of_pos (by simpa using h2)]
      exact ⟨fun c e => ⟨a.2.2, rfl, by have e' : b.2 = c := Option.some.inj e; exact e' ▸ q.2.2⟩, fun e => by cases e⟩
    · have h2 : ¬ a.1 = ky.key k := fun e => h (ky.inj (by rw [← q.1]; exact e))
      rw [List.find?_cons_of_neg (by simpa using h), List.find?_cons_of_neg (by simpa using h2)]
      exact ih
theorem some_getN (ky : KyN rk) {H : Hp} {k : κ} {kvs : List NE} {l : List (κ × β)} (h : Paired (NRel ky rv H) kvs l) : (valN kvs (ky.key k)).isSome = (getM l k).isSome := by
  obtain ⟨h1, h2⟩ := get_pairN ky k h
  cases q : getM l k with
  | none => rw [h2 q]; rfl
  | some b => obtain ⟨v, e, _⟩ := h1 b q; rw [e]; rfl
theorem ob_dicN (ky : KyN rk) {B H : Hp} {u : V} {l : List (κ × β)} (s : Same B H) (h : (rDicN P w ky rv).rel B u l) : ∃ p o kvs, u = .ref p ∧ H p = some (dNO P w p o kvs) ∧ Paired (NRel ky rv H) kvs l := by
  obtain ⟨p, o, kvs, e, hp, k⟩ := (rDicN P w ky rv).mono s h
  exact ⟨p, o, kvs, e, hp, k⟩
theorem ng_of (ky : KyN rk) {B H : Hp} {u y : V} {k : κ} {l : List (κ × β)} (s : Same B H) (h : (rDicN P w ky rv).rel B u l) (hk : rk.rel B y k) : ∃ p kvs, Paired (NRel ky rv H) kvs l ∧ NGet P w H u y p (valN kvs (ky.key k)) := by
  obtain ⟨p, o, kvs, rfl, hp, kp⟩ := ob_dicN ky s h
  obtain ⟨b, rfl⟩ := ky.ref hk
  exact ⟨p, kvs, kp, o, kvs, b, ky.key k, rfl, hp, allKN ky kp, rfl, nk_ok ky (rk.mono s hk), rfl⟩
theorem ev_nin (ky : KyN rk) {k : κ} {l : List (κ × β)} (hk : EvX rk tk Γ Γ1 k) (hd : EvX (rDicN P w ky rv) ta Γ1 Γ2 l) : EvX rBool (tNIn P w tk ta) Γ Γ2 ((getM l k).isSome) := fun A σ H B F Q q =>
  hk A σ H B F _ fun y H1 B1 F1 s1 k1 => hd A σ H1 B1 F1 _ fun x H2 B2 F2 s2 k2 => by
    obtain ⟨p, kvs, kp, g⟩ := ng_of ky F2.bh k2 (rk.mono s2 k1)
    exact ⟨p, _, g, q _ _ _ F2 (s1.trans s2) (by show V.bl _ = V.bl _; rw [some_getN ky kp])⟩
theorem ev_nnin (ky : KyN rk) {k : κ} {l : List (κ × β)} (hk : EvX rk tk Γ Γ1 k) (hd : EvX (rDicN P w ky rv) ta Γ1 Γ2 l) : EvX rBool (tNNotIn P w tk ta) Γ Γ2 (!(getM l k).isSome) := fun A σ H B F Q q =>
  hk A σ H B F _ fun y H1 B1 F1 s1 k1 => hd A σ H1 B1 F1 _ fun x H2 B2 F2 s2 k2 => by
    obtain ⟨p, kvs, kp, g⟩ := ng_of ky F2.bh k2 (rk.mono s2 k1)
    exact ⟨p, _, g, q _ _ _ F2 (s1.trans s2) (by show V.bl _ = V.bl _; rw [some_getN ky kp])⟩
theorem ev_nget (ky : KyN rk) {k : κ} {l : List (κ × β)} {b : β} (hd : EvX (rDicN P w ky rv) ta Γ Γ1 l) (hk : EvX rk tk Γ1 Γ2 k) (e : getM l k = some b) : EvX rv (tNGet P w ta tk) Γ Γ2 b := fun A σ H B F Q q =>
  hd A σ H B F _ fun x H1 B1 F1 s1 k1 => hk A σ H1 B1 F1 _ fun y H2 B2 F2 s2 k2 => by
    obtain ⟨p2, o2, kvs2, ex2, hp2, kp2⟩ := (rDicN P w ky rv).mono s2 k1
    obtain ⟨v2, ev2, kv2⟩ := (get_pairN ky k kp2).1 b e
    obtain ⟨c, rfl⟩ := ky.ref k2
    subst ex2
    exact ⟨p2, v2, ⟨o2, kvs2, c, ky.key k, rfl, F2.bh _ _ hp2, allKN ky (Paired.imp2 (fun _ _ q => q.mono F2.bh) kp2), rfl, nk_ok ky (rk.mono F2.bh k2), ev2.symm⟩, q _ _ _ F2 (s1.trans s2) kv2⟩
theorem ev_nget1 (ky : KyN rk) (nn : NN rv) {k : κ} {l : List (κ × β)} (hd : EvX (rDicN P w ky rv) ta Γ Γ1 l) (hk : EvX rk tk Γ1 Γ2 k) : EvX (rOpt rv) (tNGet1 P w ta tk) Γ Γ2 (getM l k) := fun A σ H B F Q q =>
  hd A σ H B F _ fun x H1 B1 F1 s1 k1 => by
    obtain ⟨p, o, kvs, rfl, hp, kp⟩ := k1
    refine ⟨⟨p, o, kvs, rfl, F1.bh _ _ hp⟩, hk A σ H1 B1 F1 _ fun y H2 B2 F2 s2 k2 => ?_⟩
    have kp2 : Paired (NRel ky rv B2) kvs l := Paired.imp2 (fun _ _ q => q.mono s2) kp
    obtain ⟨c, rfl⟩ := ky.ref k2
    refine ⟨p, _, ⟨o, kvs, c, ky.key k, rfl, F2.bh _ _ (s2 _ _ hp), allKN ky (Paired.imp2 (fun _ _ q => q.mono F2.bh) kp2), rfl, nk_ok ky (rk.mono F2.bh k2), rfl⟩, q _ _ _ F2 (s1.trans s2) ?_⟩
    obtain ⟨g1, g2⟩ := get_pairN ky k kp2
    cases e : getM l k with
    | none => rw [g2 e]; rfl
    | some b =>
      obtain ⟨v, ev, kv⟩ := g1 b e
      rw [ev]
      exact ⟨kv, nn _ _ _ kv⟩
/-! ### a dict of one's own -/
variable {A : Amb} {D : Ends} {u : TS} {i j : Nat} {p : Addr}
theorem sq_newN (ky : KyN rk) (rv : Rp β) (k : ∀ p, ¬ A.m p → Nx A (u D) (Γ.set i (.cel p (cDicN P w p ky rv) []))) : Nx A (tSeq (tAsg (tDNewN P w) (gName i)) u D) Γ := fun σ H B F => fun p ob hp => by
  have F2 := F.fresh (o := dNO P w p ob []) hp True.intro
  exact k p (fun m => F.mh.al p m (F.H0none hp)) _ _ _ (F2.own1 (F.H0none hp) F.sub F.mh ⟨ob, [], rfl, .nil⟩)
theorem cel_dicN {σ : L2.St} {H B : Hp} {ky : KyN rk} {l : List (κ × β)} (F : Frm A σ H B Γ) (h : Γ[i]? = some (.cel p (cDicN P w p ky rv) l)) : σ[i]? = some (some (V.ref p)) ∧ ∃ ob kvs, H p = some (dNO P w p ob kvs) ∧ Paired (NRel ky rv B) kvs l := by
  obtain ⟨e, o, ho, ob, kvs, rfl, k⟩ := cel_at F h
  exact ⟨e, ob, kvs, ho, k⟩
theorem ng_cel {σ : L2.St} {H B : Hp} {ky : KyN rk} {l : List (κ × β)} {y : V} {k : κ} (F : Frm A σ H B Γ) (h : Γ[i]? = some (.cel p (cDicN P w p ky rv) l)) (hk : rk.rel B y k) : σ[i]? = some (some (V.ref p)) ∧ ∃ kvs, Paired (NRel ky rv B) kvs l ∧ NGet P w H (.ref p) y p (valN kvs (ky.key k)) := by
  obtain ⟨e, ob, kvs, hp, kp⟩ := cel_dicN F h
  obtain ⟨c, rfl⟩ := ky.ref hk
  exact ⟨e, kvs, kp, ob, kvs, c, ky.key k, rfl, hp, allKN ky (Paired.imp2 (fun _ _ q => q.mono F.bh) kp), rfl, nk_ok ky (rk.mono F.bh hk), rfl⟩
theorem ev_ninCelN {ky : KyN rk} {l : List (κ × β)} {k : κ} (hk : EvX rk tk Γ Γ1 k) (h : Γ1[i]? = some (.cel p (cDicN P w p ky rv) l)) : EvX rBool (tNIn P w tk (tVar i)) Γ Γ1 ((getM l k).isSome) := fun A σ H B F Q q =>
  hk A σ H B F _ fun y H1 B1 F1 s1 k1 => by
    obtain ⟨e, kvs, kp, g⟩ := ng_cel F1 h k1
    exact ⟨_, e, p, _, g, q _ _ _ F1 s1 (by show V.bl _ = V.bl _; rw [some_getN ky kp])⟩
theorem ev_nninCelN {ky : KyN rk} {l : List (κ × β)} {k : κ} (hk : EvX rk tk Γ Γ1 k) (h : Γ1[i]? = some (.cel p (cDicN P w p ky rv) l)) : EvX rBool (tNNotIn P w tk (tVar i)) Γ Γ1 (!(getM l k).isSome) := fun A σ H B F Q q =>
  hk A σ H B F _ fun y H1 B1 F1 s1 k1 => by
    obtain ⟨e, kvs, kp, g⟩ := ng_cel F1 h k1
    exact ⟨_, e, p, _, g, q _ _ _ F1 s1 (by show V.bl _ = V.bl _; rw [some_getN ky kp])⟩
def pyPutD {κ β : Type} [DecidableEq κ] (l : List (κ × β)) (k : κ) (v : β) : Option (List (κ × β)) := if l.length < 1000000 then some (putM l k v) else none
theorem sq_nput {ky : KyN rk} {l l' : List (κ × β)} {k : κ} {b : β} (hv : EvX rv tv Γ Γ1 b) (hk : EvX rk tk Γ1 Γ2 k) (h1 : Γ1[i]? = some (.cel p (cDicN P w p ky rv) l)) (h2 : Γ2[i]? = some (.cel p (cDicN P w p ky rv) l)) (e : pyPutD l k b = some l') (n : Nx A (u D) (Γ2.set i (.cel p (cDicN P w p ky rv) l'))) :
    Nx A (tSeq (sNPut P w (tVar i) tk tv) u D) Γ := fun σ H B F => by
  unfold pyPutD at e
  split at e
  · rename_i hl
    cases e
    refine hv A σ H B F _ fun v H1 B1 F1 s1 k1 => ⟨_, (cel_dicN F1 h1).1, hk A σ H1 B1 F1 _ fun y H2 B2 F2 s2 k2 => ?_⟩
    obtain ⟨e2, ob, kvs, hp, kp⟩ := cel_dicN F2 h2
    obtain ⟨c, rfl⟩ := ky.ref k2
    have pw := put_pairN ky k2 (rv.mono s2 k1) kp
    refine ⟨p, ob, kvs, c, ky.key k, rfl, hp, allKN ky (Paired.imp2 (fun _ _ q => q.mono F2.bh) kp), rfl, nk_ok ky (rk.mono F2.bh k2), ?_, fun o' => n _ _ _ (F2.write h2 ⟨o', _, rfl, pw⟩ True.intro)⟩
    rw [Paired.len kp]
    exact Nat.lt_of_lt_of_le hl (by decide)
  · cases e
/-- what is handed back is changed no more -/
theorem sq_retCelN {ky : KyN rk} {l b : List (κ × β)} (hi : Γ[i]? = some (.cel p (cDicN P w p ky rv) l)) (hm : ∀ q, ¬ A.m q) (e : some l = some b) (k : Rt A (psi (rDicN P w ky rv)) b D.rt) : Nx A (tSeq (tRet (tVar i)) u D) Γ := fun σ H B F => by
  cases e
  obtain ⟨o, ho, e1, s, Q, q⟩ := post_own F hi (hm p)
  obtain ⟨p', o', ev, hp', ob, kvs, rfl, kp⟩ := q
  cases ev
  exact ⟨_, e1, k H _ _ Q ⟨p, ob, kvs, rfl, hp', kp⟩⟩
end
/-! ### (a text, numbers) as a key -/
abbrev rPlc : Rp (Str × List Int) := rOb (cTup (wC rStr (w1 (rOb (cTpl rInt)))))
def keyPlc (k : Str × List Int) : NK := .tup [.text k.1, .tup (k.2.map .num)]
theorem ints_is {h : Heap} : ∀ {is : List Int} {us : List Value}, Vals (is.map V.int) us → NestedAll h (is.map .num) us
  | [], us, r => by cases r; exact .nil
  | i :: is, us, r => by
    cases r with
    | cons q t => obtain ⟨tk, rfl⟩ := q; exact .cons (.int i tk) (ints_is t)
theorem rint_map {H : Hp} : ∀ {vs : List V} {is : List Int}, Paired (rInt.rel H) vs is → vs = is.map V.int
  | _, _, .nil => rfl
  | _, _, .cons q t => by rw [List.map_cons, ← rint_map t, show _ = V.int _ from q]
theorem tup_at {P : Program} {w : World} {H : Hp} {h : Heap} (ok : HOk P w H h) {b : Addr} {vs : List V} (e : H b = some (.tup vs)) : ∃ its : List Value, Vals vs its ∧ ∃ o n, h.get? b = some o ∧ o.cls = .type "tuple" ∧ o.data = .seq its.toArray n := by
  obtain ⟨_, its, r, o, h1, h2, n, h3⟩ := (show ObjOk P w H h b (.tup vs) from ok b _ e)
  exact ⟨its, r, o, n, h1, h2, h3⟩
theorem nums_inj : ∀ {a b : List Int}, a.map NestedKey.num = b.map NestedKey.num → a = b
  | [], [], _ => rfl
  | [], _ :: _, e => by cases e
  | _ :: _, [], e => by cases e
  | x :: a, y :: b, e => by
    injection e with e1 e2
    injection e1 with e1
    rw [e1, nums_inj e2]
theorem dep_nums : ∀ is : List Int, NestedKey.depthAll (is.map .num) = 0
  | [] => by simp [NestedKey.depthAll]
  | i :: is => by rw [List.map_cons]; simp [NestedKey.depthAll, NestedKey.depth, dep_nums is]
def kyPlc : KyN rPlc where
  key := keyPlc
  inj := fun {a b} e => by
    injection e with e
    injection e with e1 e2
    injection e1 with e1
    injection e2 with e2 _
    injection e2 with e2
    exact Prod.ext e1 (nums_inj e2)
  dep := fun k => by unfold keyPlc; simp [NestedKey.depth, NestedKey.depthAll, dep_nums]
  ref := fun ⟨p, o, e, _⟩ => ⟨p, e⟩
  is := fun {P w H h b k} ok ⟨p, o, e, hp, vs, ho, v, t, ev, k1, v2, et, k2⟩ => by
    cases e
    subst ho et ev
    obtain ⟨q, o2, rfl, hq, vs2, rfl, kk⟩ := k2
    cases (show v = V.str k.1 from k1)
    rw [rint_map kk] at hq
    obtain ⟨its, r, ob, n, g1, g2, g3⟩ := tup_at ok hp
    obtain ⟨its2, r2, ob2, n2, g4, g5, g6⟩ := tup_at ok hq
    cases r with
    | cons ra rb => cases rb with
      | cons rc rd =>
        cases rd
        obtain ⟨tk, rfl⟩ := ra
        cases (show _ = Value.ref q from rc)
        refine .tup g1 g2 g3 ?_
        exact .cons (.text k.1 tk) (.cons (.tup g4 g5 g6 (ints_is r2)) .nil)
end G

set_option maxHeartbeats 4000000
/-! # G: walks over such dicts -/
namespace G
variable [TabL]
open PySem PySem.Spec PyProof.Rows L2
def Itkn (P : Program) (w : World) (d : Addr) (o : Obj) (kvs : List NE) : It :=
  ⟨fun i H => H d = some (dNO P w d o kvs) ∧ i < kvs.length, fun i H x H' => H' = H ∧ ∃ e, kvs[i]? = some e ∧ x = .ref e.2.1, fun i H => H d = some (dNO P w d o kvs) ∧ kvs.length ≤ i⟩
section
variable {P : Program} {w : World} {K : PySem.W.Frag} {tg : Expr} {d : Addr} {o : Obj} {es : Array DictEntry} {ep : Nat}
theorem dn_raw {H : Hp} {h : Heap} {kvs : List NE} (ok : HOk P w H h) (e : H d = some (dNO P w d o kvs)) : (d == sysModules) = false ∧ h.get? d = some o ∧ o.ExactDict ∧ ∃ es ep, o.data = .dict es ep ∧ es.size = kvs.length ∧ ∀ (i : Nat) (q : NE), kvs[i]? = some q → ∃ en : DictEntry, es[i]? = some en ∧ en.key = .ref q.2.1 := by
  obtain ⟨z, y, nd, xs, kn, e1, e2, es, ep, e3, e4⟩ := dn_of ok e
  refine ⟨y, e1, e2, es, ep, e3, ?_, fun i q hq => ?_⟩
  · have l1 : es.size = xs.length := size_of_entries e4
    have l2 : kvs.length = xs.length := Paired.len kn
    omega
  · obtain ⟨b, hb, k1, k2, k3⟩ := paired_get kn hq
    have q2 := entry_at e4 i
    rw [hb] at q2
    exact ⟨_, q2, by rw [k2]; rfl⟩
theorem turn_keysN {kvs : List NE} (it : Addr) (hod : o.data = .dict es ep) : Turn P w K tg (Itkn P w d o kvs) [it] it (fun i h => h.IsKeyIter it d i kvs.length ep) where
  mem := by simp
  obj := fun i h ⟨oi, e, c, dd⟩ b hb => by
    obtain rfl : b = it := by simpa using hb
    exact ⟨oi, e, fun v z => by rw [dd] at z; cases z⟩
  keep := fun i h h' st k => st.at fun oi e => k it (by simp) oi e
  item := by
    intro X hP hw hK hc i pins s σ H E I hf st hg
    subst hP; subst hw; subst hK
    obtain ⟨hd, hi⟩ := hg
    obtain ⟨f0, f1, f2, f3, f4, f5⟩ := hf it (by simp)
    obtain ⟨hs, hgd, hx, es', ep', hdt, hsz, ent⟩ := dn_raw I.hok hd
    obtain ⟨rfl, rfl⟩ := dict_ep hod hdt
    obtain ⟨q, hq⟩ : ∃ q, kvs[i]? = some q := ⟨kvs[i], List.getElem?_eq_getElem hi⟩
    obtain ⟨en, hen, hkey⟩ := ent i q hq
    refine next_key_item st hgd hdt hsz hen fun h' st' sb => ?_
    have I1 : Inv X pins σ H { s with heap := h' } := I.turned (t' := s.toks) (fun b ob hb e => (sb.2 b hb).trans e) f0 f1 f3 f4 f5
    obtain ⟨oi, e, c, dd⟩ := id st'
    exact ⟨en.key, rfl, go_of (s := { s with heap := h' }) e c dd (by decide) ⟨.ref q.2.1, H, I1, hkey, ⟨rfl, q, hq, rfl⟩, st', fun b hb => (hf b hb).1⟩⟩
  done := by
    intro X hP hw hK hc i pins s σ H E I hf st hg
    subst hP; subst hw; subst hK
    obtain ⟨hd, hi⟩ := hg
    obtain ⟨f0, f1, f2, f3, f4, f5⟩ := hf it (by simp)
    obtain ⟨hs, hgd, hx, es', ep', hdt, hsz, ent⟩ := dn_raw I.hok hd
    obtain ⟨rfl, rfl⟩ := dict_ep hod hdt
    exact next_key_end (I.ok.hd hc) st hgd hdt hsz hi fun h' eb => ⟨rfl, I.turned (t' := s.toks) (fun b ob hb e => eb b ob hb e) f0 f1 f3 f4 f5⟩
  self := fun A i s Q E st h => by
    refine wpAny_pyIter_slot st.typeIs F.slot_dict_keyiterator_iter (wpAny_call_entry F.slot_dict_keyiterator_iter st.typeIs F.entry_dict_keyiterator_iter ?_ (F.args_dict_keyiterator_iter_1 _))
    show wpAny _ _ (ret (.ref it)) _ _ s
    exact wpAny_pure ⟨_, rfl, "dict_keyiterator", _, st.typeIs, F.slot_dict_keyiterator_next.lookup, h⟩
end
def iKeysN (P : Program) (w : World) (td : TE) : TI := fun σ H R => td σ H fun x H1 => ∃ d o kvs, x = .ref d ∧ H1 d = some (dNO P w d o kvs) ∧ R (Itkn P w d o kvs) H1
theorem pi_keysN {X : Cx} {tg e : Expr} {td : TE} (he : PE X e td) : PI X tg e (iKeysN X.prog X.w td) := ⟨fun pins s σ H R I h => by
  refine thn (he.run pins s σ H _ I h) fun u s1 ⟨x, H1, I1, rx, d, o, kvs, ex, hd, q⟩ => ?_
  subst ex
  obtain rfl : u = Value.ref d := rx
  obtain ⟨hs, hgd, hx, es, ep, hdt, hsz, ent⟩ := dn_raw I1.hok hd
  refine iter_keys hs hgd hx hdt (pi_one (tk := s1.toks) I1 _ (turn_keysN _ hdt) ⟨_, Heap.get?_push_size _ rfl, rfl, ?_⟩ q)
  rw [hsz] <;> rfl⟩
section
variable {P : Program} {w : World} {κ β : Type} [DecidableEq κ] {rk : Rp κ} {rv : Rp β} {te : TE} {Γ Γ1 : List Sl} {l : List (κ × β)}
theorem it_keysN (ky : KyN rk) (h : EvX (rDicN P w ky rv) te Γ Γ1 l) (hl : l.length ≤ 1000000) : ItX rk (iKeysN P w te) Γ Γ1 (l.map Prod.fst) := fun A σ H B F R q => h A σ H B F _ fun v H' B' F' s k => by
  obtain ⟨p, o, kvs, rfl, hp, kp⟩ := k
  refine ⟨p, o, kvs, rfl, F'.bh _ _ hp, q _ H' B' F' s ⟨by rw [List.length_map]; exact Nat.le_trans hl (by decide), fun H2 B2 s1 s2 => ?_, fun i H2 B2 s1 s2 hi => ?_, fun i x H2 B2 v H3 s1 s2 hx hy A σ Γ F => ?_⟩⟩
  · exact ⟨s2 _ _ (s1 _ _ hp), by rw [List.length_map, Paired.len kp]; exact Nat.le_refl _⟩
  · rw [List.length_map] at hi
    exact ⟨s2 _ _ (s1 _ _ hp), by rw [Paired.len kp]; exact hi⟩
  · obtain ⟨rfl, e, he, rfl⟩ := hy
    rw [List.getElem?_map] at hx
    cases q2 : l[i]? with
    | none => rw [q2] at hx; cases hx
    | some y =>
      rw [q2] at hx; cases hx
      obtain ⟨e2, he2, k2⟩ := Paired.getR kp q2
      rw [he] at he2; cases he2
      exact ⟨B2, F, Same.refl _, rk.mono s1 k2.2.1⟩
end
end G

set_option maxHeartbeats 4000000
/-! # G: sorted lists of tuples in tuples -/
namespace G
open PySem PySem.Spec PyProof.Rows L2
/-! ### orders and ranks -/
structure Ord (α : Type) where
  lt : α → α → Bool
  irr : ∀ a, lt a a = false
  tr : ∀ {a b c}, lt a b = true → lt b c = true → lt a c = true
  tri : ∀ {a b}, lt a b = false → lt b a = false → a = b
section
variable {α : Type} (O : Ord α)
theorem Ord.not {a b : α} (h : O.lt a b = true) : O.lt b a = false := by
  cases q : O.lt b a with
  | false => rfl
  | true => have := O.tr h q; rw [O.irr] at this; cases this
def Ord.sort (xs : List α) : List α := xs.mergeSort fun a b => !O.lt b a
theorem Ord.tot (a b : α) : ((!O.lt b a) || (!O.lt a b)) = true := by
  cases q : O.lt b a with
  | false => rfl
  | true => rw [O.not q]; rfl
theorem Ord.trn (a b c : α) (h1 : (!O.lt b a) = true) (h2 : (!O.lt c b) = true) : (!O.lt c a) = true := by
  cases q : O.lt c a with
  | false => rfl
  | true =>
    have e1 : O.lt b a = false := by simpa using h1
    have e2 : O.lt c b = false := by simpa using h2
    cases q2 : O.lt a b with
    | true => have := O.tr q q2; rw [e2] at this; cases this
    | false => rw [O.tri q2 e1] at q; rw [q] at e2; cases e2
theorem Ord.sort_perm (xs : List α) : (O.sort xs).Perm xs := List.mergeSort_perm _ _
theorem Ord.sort_asc (xs : List α) : (O.sort xs).Pairwise fun a b => O.lt b a = false :=
  (List.pairwise_mergeSort (le := fun a b => !O.lt b a) (fun a b c h1 h2 => O.trn a b c h1 h2) (fun a b => O.tot a b) xs).imp fun q => by simpa using q
theorem Ord.sort_eq {xs ys : List α} (h1 : ys.Perm xs) (h2 : ys.Pairwise fun a b => O.lt b a = false) : ys = O.sort xs :=
  List.Perm.eq_of_pairwise (fun a b _ _ h1 h2 => O.tri h2 h1) h2 (O.sort_asc xs) (h1.trans (O.sort_perm xs).symm)
def Ord.rk (L : List α) (k : α) : Int := ((L.countP fun j => O.lt j k : Nat) : Int)
theorem countP_strict {p q : α → Bool} (h : ∀ x, p x = true → q x = true) : ∀ {L : List α} {a : α}, a ∈ L → p a = false → q a = true → L.countP p < L.countP q
  | x :: L, a, hm, hp, hq => by
    rw [List.countP_cons, List.countP_cons]
    rcases List.mem_cons.mp hm with rfl | hm
    · have := List.countP_mono_left (l := L) (fun x _ => h x)
      rw [hp, hq]
      simp only [Bool.false_eq_true, if_false, if_true]
      omega
    · have ih := countP_strict h hm hp hq
      cases e : p x with
      | true => rw [h x e]; simp only [if_true]; omega
      | false => simp only [Bool.false_eq_true, if_false]; omega
theorem Ord.rk_lt {L : List α} {a b : α} (h : O.lt a b = true) (hm : a ∈ L) : O.rk L a < O.rk L b := by
  have := countP_strict (p := fun j => O.lt j a) (q := fun j => O.lt j b) (fun x hx => O.tr hx h) hm (O.irr a) h
  unfold Ord.rk
  omega
theorem Ord.rk_le {L : List α} {a b : α} (h : O.lt a b = false) : O.rk L b ≤ O.rk L a := by
  have := List.countP_mono_left (l := L) (p := fun j => O.lt j b) (q := fun j => O.lt j a) (fun x _ hx => by
    cases q : O.lt b a with
    | true => exact O.tr hx q
    | false => rw [O.tri h q]; exact hx)
  unfold Ord.rk
  omega
theorem Ord.rk_iff {L : List α} {a b : α} (hm : a ∈ L) : decide (O.rk L a < O.rk L b) = O.lt a b := by
  cases h : O.lt a b with
  | true => exact decide_eq_true (O.rk_lt h hm)
  | false => exact decide_eq_false (by have := O.rk_le (L := L) h; omega)
end
def ltI : List Int → List Int → Bool
  | [], [] => false
  | [], _ :: _ => true
  | _ :: _, [] => false
  | x :: xs, y :: ys => if x = y then ltI xs ys else decide (x < y)
theorem ltI_irr : ∀ a, ltI a a = false
  | [] => rfl
  | x :: xs => by unfold ltI; rw [if_pos rfl]; exact ltI_irr xs
theorem ltI_tr : ∀ {a b c}, ltI a b = true → ltI b c = true → ltI a c = true
  | [], [], _, h, _ => by cases h
  | [], _ :: _, [], _, h => by cases h
  | [], _ :: _, _ :: _, _, _ => rfl
  | _ :: _, [], _, h, _ => by cases h
  | _ :: _, _ :: _, [], _, h => by cases h
  | x :: xs, y :: ys, z :: zs, h1, h2 => by
    unfold ltI at h1 h2 ⊢
    by_cases e1 : x = y
    · rw [if_pos e1] at h1
      by_cases e2 : y = z
      · rw [if_pos e2] at h2; rw [if_pos (e1.trans e2)]; exact ltI_tr h1 h2
      · rw [if_neg e2] at h2; rw [e1, if_neg e2]; exact h2
    · rw [if_neg e1] at h1
      have q1 := of_decide_eq_true h1
      by_cases e2 : y = z
      · rw [← e2, if_neg e1]; exact h1
      · rw [if_neg e2] at h2
        have q2 := of_decide_eq_true h2
        rw [if_neg (by omega)]; exact decide_eq_true (by omega)
theorem ltI_tri : ∀ {a b}, ltI a b = false → ltI b a = false → a = b
  | [], [], _, _ => rfl
  | [], _ :: _, h, _ => by cases h
  | _ :: _, [], _, h => by cases h
  | x :: xs, y :: ys, h1, h2 => by
    unfold ltI at h1 h2
    by_cases e : x = y
    · rw [if_pos e] at h1; rw [if_pos e.symm] at h2; rw [e, ltI_tri h1 h2]
    · rw [if_neg e] at h1; rw [if_neg (fun z => e z.symm)] at h2
      have q1 := of_decide_eq_false h1; have q2 := of_decide_eq_false h2
      omega
def oI : Ord (List Int) := ⟨ltI, ltI_irr, ltI_tr, ltI_tri⟩
def ltS (a b : Str) : Bool := decide (a.cps.toList < b.cps.toList)
theorem str_ext {a b : Str} (h : a.cps.toList = b.cps.toList) : a = b := by
  cases a; cases b
  congr 1
  exact Array.toList_inj.mp h
theorem ltS_tri {a b : Str} (h1 : ltS a b = false) (h2 : ltS b a = false) : a = b :=
  str_ext (List.le_antisymm (List.not_lt.mp (of_decide_eq_false h2)) (List.not_lt.mp (of_decide_eq_false h1)))
def ltP (a b : Str × List Int) : Bool := if a.1 = b.1 then ltI a.2 b.2 else ltS a.1 b.1
def oP : Ord (Str × List Int) where
  lt := ltP
  irr := fun a => by unfold ltP; rw [if_pos rfl]; exact ltI_irr _
  tr := fun {a b c} h1 h2 => by
    unfold ltP at h1 h2 ⊢
    by_cases e1 : a.1 = b.1
    · rw [if_pos e1] at h1
      by_cases e2 : b.1 = c.1
      · rw [if_pos e2] at h2; rw [if_pos (e1.trans e2)]; exact ltI_tr h1 h2
      · rw [if_neg e2] at h2; rw [e1, if_neg e2]; exact h2
    · rw [if_neg e1] at h1
      have q1 := of_decide_eq_true h1
      by_cases e2 : b.1 = c.1
      · rw [← e2, if_neg e1]; exact h1
      · rw [if_neg e2] at h2
        have q2 := of_decide_eq_true h2
        have q3 : a.1.cps.toList < c.1.cps.toList := List.lt_trans q1 q2
        rw [if_neg (fun z => by rw [z] at q3; exact List.lt_irrefl _ q3)]; exact decide_eq_true q3
  tri := fun {a b} h1 h2 => by
    unfold ltP at h1 h2
    by_cases e : a.1 = b.1
    · rw [if_pos e] at h1; rw [if_pos e.symm] at h2; exact Prod.ext e (ltI_tri h1 h2)
    · rw [if_neg e] at h1; rw [if_neg (fun z => e z.symm)] at h2; exact absurd (ltS_tri h1 h2) e
/-! ### the sort's questions -/
def PlcIn (h : Heap) (v : Value) (k : Str × List Int) : Prop := ∃ (a q : Addr) (t : Tok) (xs : Array Value), v = .ref a ∧ IsTup h a #[.str k.1 t, .ref q] ∧ IsTup h q xs ∧ IntsAre xs.toList k.2
theorem PlcIn.keeps {h h' : Heap} {v : Value} {k : Str × List Int} (x : PlcIn h v k) (kp : ∀ b o, h.get? b = some o → o.cls = .type "tuple" → h'.get? b = some o) : PlcIn h' v k := by
  obtain ⟨a, q, t, xs, e, ⟨o, ho, hc, r⟩, ⟨o2, ho2, hc2, r2⟩, i⟩ := x
  exact ⟨a, q, t, xs, e, ⟨o, kp _ _ ho hc, hc, r⟩, ⟨o2, kp _ _ ho2 hc2, hc2, r2⟩, i⟩
theorem PlcIn.uniq {h : Heap} {v : Value} {k m : Str × List Int} (x : PlcIn h v k) (y : PlcIn h v m) : k = m := by
  obtain ⟨a, q, t, xs, rfl, ⟨o, ho, hc, n, hd⟩, ⟨o2, ho2, hc2, n2, hd2⟩, i⟩ := x
  obtain ⟨a', q', t', xs', e, ⟨o', ho', hc', n', hd'⟩, ⟨o2', ho2', hc2', n2', hd2'⟩, i'⟩ := y
  cases e
  rw [ho] at ho'; cases ho'
  rw [hd] at hd'
  injection hd' with e1 _
  injection e1 with e1
  injection e1 with e2 e3
  injection e2 with e2 _
  injection e3 with e3 _
  injection e3 with e3
  subst e3
  rw [ho2] at ho2'; cases ho2'
  rw [hd2] at hd2'
  injection hd2' with e4 _
  subst e4
  exact Prod.ext e2 (i.nums.symm.trans i'.nums)
theorem firstLt_map (e r : Nat → Bool) (fin : Bool) : ∀ l : List Nat, SeqAt.firstLt e r fin (l.map Nat.succ) = SeqAt.firstLt (fun j => e (j + 1)) (fun j => r (j + 1)) fin l
  | [] => rfl
  | j :: t => by
    rw [List.map_cons]
    unfold SeqAt.firstLt
    rw [firstLt_map e r fin t]
theorem firstLt_ints : ∀ (a b : List Int), SeqAt.firstLt (fun j => decide (a.getD j 0 = b.getD j 0)) (fun j => decide (a.getD j 0 < b.getD j 0)) (decide (a.length < b.length)) (List.range (min a.length b.length)) = ltI a b
  | [], [] => rfl
  | [], y :: b => by simp [SeqAt.firstLt, ltI]
  | x :: a, [] => by simp [SeqAt.firstLt, ltI]
  | x :: a, y :: b => by
    rw [List.length_cons, List.length_cons, show min (a.length + 1) (b.length + 1) = min a.length b.length + 1 by omega, List.range_succ_eq_map]
    unfold SeqAt.firstLt ltI
    rw [firstLt_map]
    have ih := firstLt_ints a b
    simp only [List.getD_cons_zero, List.getD_cons_succ, Nat.add_lt_add_iff_right] at ih ⊢
    by_cases h : x = y
    · simp only [h, decide_true, if_true]; exact ih
    · simp only [h, decide_false, Bool.false_eq_true, if_false]
theorem ints_at {xs : List Value} {ns : List Int} (i : IntsAre xs ns) : ∀ (j : Nat), j < xs.length → ∃ t, xs[j]? = some (.int (ns.getD j 0) t) := by
  induction i with
  | nil => intro j h; cases h
  | @cons p t xs ns i ih =>
    intro j h
    cases j with
    | zero => exact ⟨t, rfl⟩
    | succ j =>
      obtain ⟨t', e⟩ := ih j (by rw [List.length_cons] at h; omega)
      exact ⟨t', by simpa using e⟩
variable [TabL]
section
variable {prog : Program} {w : World} {A : Around} {E : Value → Shared → Prop} {s : Shared}
theorem lt_ints {l b : Addr} {xs ys : Array Value} {ns ms : List Int} (hl : IsTup s.heap l xs) (hb : IsTup s.heap b ys) (i1 : IntsAre xs.toList ns) (i2 : IntsAre ys.toList ms) (hu : A.units < cLine) : SeqAt.RcLt A s (.ref l) (.ref b) (ltI ns ms) := by
  have l1 : xs.size = ns.length := by have := i1.length; rw [Array.length_toList] at this; exact this
  have l2 : ys.size = ms.length := by have := i2.length; rw [Array.length_toList] at this; exact this
  have at1 : ∀ j (h : j < xs.size), ∃ t, xs[j] = .int (ns.getD j 0) t := fun j h => by
    obtain ⟨t, e⟩ := ints_at i1 j (by rw [Array.length_toList]; exact h)
    refine ⟨t, ?_⟩
    rw [Array.getElem?_toList, Array.getElem?_eq_getElem h] at e
    exact Option.some.inj e
  have at2 : ∀ j (h : j < ys.size), ∃ t, ys[j] = .int (ms.getD j 0) t := fun j h => by
    obtain ⟨t, e⟩ := ints_at i2 j (by rw [Array.length_toList]; exact h)
    refine ⟨t, ?_⟩
    rw [Array.getElem?_toList, Array.getElem?_eq_getElem h] at e
    exact Option.some.inj e
  have z := SeqAt.RcLt.tuples (A := A) (s := s) (e := fun j => decide (ns.getD j 0 = ms.getD j 0)) (r := fun j => decide (ns.getD j 0 < ms.getD j 0)) (show s.heap.IsTuple l xs from hl) (show s.heap.IsTuple b ys from hb) hu
    (fun j h1 h2 => by
      obtain ⟨t, e⟩ := at1 j h1
      obtain ⟨u, e2⟩ := at2 j h2
      rw [e, e2]
      have q := SeqAt.EqAt.int_int (A := A.in1) (s := s) (ns.getD j 0) t (ms.getD j 0) u
      have eb : (ns.getD j 0 == ms.getD j 0) = decide (ns.getD j 0 = ms.getD j 0) := rfl
      rw [← eb]; exact q)
    (fun j h1 h2 _ => by
      obtain ⟨t, e⟩ := at1 j h1
      obtain ⟨u, e2⟩ := at2 j h2
      rw [e, e2]
      exact fun prog w E Q h => (PyProof.Rows.lt_int h : wpAny (model prog w) A.in1 (compareOp .Lt (.int _ t) (.int _ u)) Q E s))
  rw [l1, l2, firstLt_ints] at z
  exact z
theorem plc_firsts {h : Heap} : ∀ vs : List Value, (∀ v ∈ vs, ∃ k, PlcIn h v k) → ∃ fs, PySem.W.KatTups h vs fs ∧ fs.length = vs.length ∧ ∀ f ∈ fs, ∃ x t, f = Value.str x t
  | [], _ => ⟨[], PySem.W.KatTups.nil, rfl, fun f hf => by simp at hf⟩
  | v :: vs, x => by
    obtain ⟨fs, k, hl, hi⟩ := plc_firsts vs fun u hu => x u (List.mem_cons_of_mem _ hu)
    obtain ⟨ky, a, q, t, xs, rfl, ⟨o, ho, hc, n, hd⟩, _, _⟩ := x v List.mem_cons_self
    refine ⟨.str ky.1 t :: fs, PySem.W.KatTups.cons ho hc hd rfl k, by simp [hl], fun f hf => ?_⟩
    rcases List.mem_cons.mp hf with rfl | hf
    · exact ⟨_, t, rfl⟩
    · exact hi f hf
theorem inl_inj : ∀ {a b : List Int}, (a.map Sum.inl : List L2.Key) = b.map Sum.inl → a = b
  | [], [], _ => rfl
  | [], _ :: _, e => by cases e
  | _ :: _, [], e => by cases e
  | x :: a, y :: b, e => by
    injection e with e1 e2
    injection e1 with e1
    rw [e1, inl_inj e2]
theorem ints_key {h : Heap} {q : Addr} {xs : Array Value} {ns : List Int} (t : IsTup h q xs) (i : IntsAre xs.toList ns) : IsTupleKey (L2.mixKind prog w) h (ns.map Sum.inl) q := by
  obtain ⟨o, ho, hc, n, hd⟩ := t
  refine ⟨o, xs, n, ho, hc, hd, ?_⟩
  have := items_are (P := prog) (w := w) (ks := ns.map Sum.inl) (us := xs.toList) (by
    rw [List.map_map]
    generalize xs.toList = l at i
    induction i with
    | nil => exact .nil
    | @cons p t xs ns i ih => exact .cons ⟨t, rfl⟩ ih)
  exact this
theorem plc_kind {vs : List Value} {r : Value → Int} (h2 : 2 ≤ vs.length) (hu : A.units + 4 < cLine) (x : ∀ v ∈ vs, ∃ k, PlcIn s.heap v k) (hr : ∀ u ∈ vs, ∀ v ∈ vs, ∀ k m, PlcIn s.heap u k → PlcIn s.heap v m → decide (r u < r v) = ltP k m) (Q : SortKind → Shared → Prop)
    (h : ∀ κ, TS.Cmp prog w A s κ (pairsOf vs) r → Q κ s) : wpAny (model prog w) A (keyKind' vs.toArray) Q E s := by
  obtain ⟨fs, k, hl, hi⟩ := plc_firsts vs x
  refine PySem.W.kat_kind (T := Value.type "str") k (by omega) (fun f hf => ?_) rfl (h _ ?_)
  · obtain ⟨n, t, rfl⟩ := hi f hf
    exact PySem.W.Looks.of_pure rfl
  · intro p q hp hq Q' E' hQ
    rw [pairsOf_toList] at hp hq
    have mp := (mem_zip_self hp).2
    have mq := (mem_zip_self hq).2
    obtain ⟨k1, a, qa, t, xs, e1, ⟨o, ho, hc, n, hd⟩, ta, ia⟩ := x _ mp
    obtain ⟨k2, b, qb, u, ys, e2, ⟨o', ho', hc', n', hd'⟩, tb, ib⟩ := x _ mq
    have hQ' : Q' (ltP k1 k2) s := by
      have z := hr _ mp _ mq k1 k2 ⟨a, qa, t, xs, e1, ⟨o, ho, hc, n, hd⟩, ta, ia⟩ ⟨b, qb, u, ys, e2, ⟨o', ho', hc', n', hd'⟩, tb, ib⟩
      rw [← z]; exact hQ
    rw [e1, e2]
    refine PySem.W.kat_lt ho hd ho' hd' ?_
    show PySem.W.KatLex prog w A true false Q' [(Value.str k1.1 t, Value.str k2.1 u), (Value.ref qa, Value.ref qb)] 0 s
    refine PySem.W.kat_cons (wpAny_eqBool_str ?_)
    unfold ltP at hQ'
    by_cases e : k1.1 = k2.1
    · rw [if_pos e] at hQ'
      rw [decide_eq_true e]
      refine PySem.W.kat_yes (PySem.W.kat_cons (wpAny_eqBool_tuple (by omega) (ints_key ta ia) (ints_key tb ib) ?_))
      refine PySem.W.kat_go (fun e0 => ?_) (fun e0 => ?_)
      · have e3 : k1.2 = k2.2 := by
          have := of_decide_eq_true e0
          exact inl_inj this
        rw [e3, ltI_irr] at hQ'
        exact PySem.W.kat_yes (PySem.W.kat_nil hQ')
      · refine PySem.W.kat_no ?_
        show wpAny _ _ (oneLt' false _ _) _ _ _
        exact PySem.W.kat_one _ _ (lt_ints ta tb ia ib (by omega) prog w _ _ hQ')
    · rw [if_neg e] at hQ'
      rw [decide_eq_false e]
      exact PySem.W.kat_no (PyProof.Rows.oneLt_str hQ')
theorem plc_mid {h h' : Heap} {vs : List Value} {r : Value → Int} (kp : ∀ b o, h.get? b = some o → o.cls = .type "tuple" → h'.get? b = some o) (x : ∀ v ∈ vs, ∃ k, PlcIn h v k) (hr : ∀ u ∈ vs, ∀ v ∈ vs, ∀ k m, PlcIn h u k → PlcIn h v m → decide (r u < r v) = ltP k m) :
    (∀ v ∈ vs, ∃ k, PlcIn h' v k) ∧ ∀ u ∈ vs, ∀ v ∈ vs, ∀ k m, PlcIn h' u k → PlcIn h' v m → decide (r u < r v) = ltP k m := by
  refine ⟨fun v hv => let ⟨k, y⟩ := x v hv; ⟨k, y.keeps kp⟩, fun u hu v hv k m yk ym => ?_⟩
  obtain ⟨k0, y0⟩ := x u hu
  obtain ⟨m0, z0⟩ := x v hv
  rw [yk.uniq (y0.keeps kp), ym.uniq (z0.keeps kp)]
  exact hr u hu v hv k0 m0 y0 z0
theorem plc_sort {a : Addr} {vs : List Value} {n : Nat} {R : PySem.Fin → Shared → Prop} {r : Value → Int} (ho : s.heap.get? a = some (seqObj "list" vs.toArray n)) (h64 : vs.length < 64) (hu : A.units + 4 < cLine) (x : ∀ v ∈ vs, ∃ k, PlcIn s.heap v k)
    (hr : ∀ u ∈ vs, ∀ v ∈ vs, ∀ k m, PlcIn s.heap u k → PlcIn s.heap v m → decide (r u < r v) = ltP k m)
    (h : ∀ out : Array Value, out.toList.Perm vs → (out.toList.Pairwise fun u v => r u ≤ r v) → R (.done (.ret .none)) { s with heap := sortedHeap s.heap a vs out }) : wpAny (model prog w) A (Builtin.«list.sort» ⟨[.ref a], []⟩) R E s := by
  have kp : ∀ b o, s.heap.get? b = some o → o.cls = .type "tuple" → (TS.midHeap s.heap a vs).get? b = some o := fun b o e hc => TS.midHeap_old (by
    rintro rfl
    rw [ho] at e; cases e
    exact absurd (by injection hc) (show ¬ ("list" : String) = "tuple" by decide)) e
  obtain ⟨x2, hr2⟩ := plc_mid kp x hr
  exact SK.plain_sort (r := r) ho h64 (fun h2 Q hQ => plc_kind (s := { s with heap := TS.midHeap s.heap a vs }) h2 hu x2 hr2 Q hQ) fun ps out h1 h2 h3 => (fun z => h out z.1 z.2) (TS.out_rank h1 h2 h3)
theorem plc_sorted {l : Addr} {vs : List Value} {r : Value → Int} {Q : Value → Shared → Prop} (hl : s.heap.IsList l vs.toArray) (h64 : vs.length < 64) (hu : A.units + 16 < cLine) (x : ∀ v ∈ vs, ∃ k, PlcIn s.heap v k)
    (hr : ∀ u ∈ vs, ∀ v ∈ vs, ∀ k m, PlcIn s.heap u k → PlcIn s.heap v m → decide (r u < r v) = ltP k m)
    (h : ∀ out : Array Value, out.toList.Perm vs → (out.toList.Pairwise fun u v => r u ≤ r v) → Q (.ref (s.heap.objs.size + 1)) { s with heap := sortedAll s.heap vs out }) : wpAny (model prog w) A (call (.builtin "sorted") [.ref l]) Q E s := by
  refine Calls.call_function_entry (kind_sorted) (plain_sorted) (entry_sorted) (args_sorted1 _) ?_
  unfold Builtin.«sorted»
  refine wpAny_bind (m := (checkCount "sorted" 1 1 _)) (wpAny_pure ?_)
  have hz : vs.length ≤ sizeLine := Nat.le_of_lt (Nat.lt_of_lt_of_le h64 (by decide))
  refine wpAny_bind (collect_list hl ?_ (by rw [sizeLine_eq]; omega))
  refine wpAny_bind (wpAny_newList ?_ (by rw [sizeLine_eq]; omega))
  have sz : ((s.heap.push (seqObj "list" #[] 0)).update s.heap.objs.size (Obj.mapSeq (· ++ vs.toArray))).objs.size = s.heap.objs.size + 1 := by rw [Heap.size_update, size_push']
  generalize hg : (s.heap.push (seqObj "list" #[] 0)).update s.heap.objs.size (Obj.mapSeq (· ++ vs.toArray)) = g at sz
  have gl : (g.push (seqObj "list" vs.toArray 0)).get? (s.heap.objs.size + 1) = some (seqObj "list" vs.toArray 0) := by rw [← sz]; exact Heap.get?_push_size _ rfl
  have kp : ∀ b o, s.heap.get? b = some o → o.cls = .type "tuple" → (g.push (seqObj "list" vs.toArray 0)).get? b = some o := fun b o q _ => by
    have lt : b < s.heap.objs.size := Heap.lt_size q
    rw [Heap.get?_push_ne _ _ _ (by rw [sz]; exact Nat.ne_of_lt (Nat.lt_succ_of_lt lt)), ← hg, Heap.get?_update_ne _ _ _ _ (Nat.ne_of_lt lt), Heap.get?_push_ne _ _ _ (Nat.ne_of_lt lt)]
    exact q
  obtain ⟨x2, hr2⟩ := plc_mid kp x hr
  show wpAny _ _ _ _ _ { s with heap := g.push (seqObj "list" vs.toArray 0) }
  rw [sz]
  refine wpAny_bind (wpAny_holding (wpAny_call_entry slot_list_sort ⟨_, gl, rfl⟩ entry_list_sort (plc_sort (r := r) gl h64 (by show A.units + 1 + 1 + 4 < cLine; omega) x2 hr2 fun out a1 a2 => ⟨_, rfl, ?_⟩) (args_list_sort _)))
  exact wpAny_pure ⟨_, rfl, by have := h out a1 a2; unfold sortedAll at this; rw [hg] at this; exact this⟩
end
/-! ### the rule -/
def PlcV (K : PySem.W.Frag) (H : Hp) (x : V) (k : Str × List Int) : Prop := ∃ b q, x = .ref b ∧ SqT K H b [.str k.1, .ref q] ∧ SqT K H q (k.2.map V.int)
theorem plcV_raw {X : Cx} {pins : List (Addr × Obj)} {σ : L2.St} {H : Hp} {s : Shared} (I : Inv X pins σ H s) {b : Addr} {k : Str × List Int} (h : PlcV X.K H (.ref b) k) : PlcIn s.heap (.ref b) k := by
  obtain ⟨b', q, e, h1, h2⟩ := h
  cases e
  obtain ⟨its, r1, t1, _⟩ := I.tuple h1
  obtain ⟨its2, r2, t2, _⟩ := I.tuple h2
  cases r1 with
  | cons ra rb => cases rb with
    | cons rc rd =>
      cases rd
      obtain ⟨tk, rfl⟩ := ra
      cases (show _ = Value.ref q from rc)
      refine ⟨b, q, tk, its2.toArray, rfl, t1, t2, ?_⟩
      rw [List.toList_toArray]
      exact ints_vals r2
where
  ints_vals : ∀ {ns : List Int} {us : List Value}, Vals (ns.map V.int) us → IntsAre us ns
  | [], us, r => by cases r; exact .nil
  | n :: ns, us, r => by
    cases r with
    | cons q t => obtain ⟨tk, rfl⟩ := q; exact .cons n tk (ints_vals t)
def rSortN (K : PySem.W.Frag) : List V → Hp → VK → Prop := fun vs H Q => ∃ (a : Addr) (xs : List V) (ks : List (Str × List Int)) (F : V → Str × List Int → Prop), vs = [V.ref a] ∧ SqL K H a xs ∧ xs.length < 64 ∧ Paired F xs ks ∧ (∀ x k, F x k → PlcV K H x k) ∧
  ∀ (ys : List V) (p : Addr), Paired F ys (oP.sort ks) → H p = none → Q (.ref p) (upd H p (.lst ys))
open Classical in
noncomputable def keyOf (h : Heap) (u : Value) : Str × List Int := if e : ∃ k, PlcIn h u k then choose e else (Str.ofString "", [])
theorem keyOf_eq {h : Heap} {u : Value} {k : Str × List Int} (e : PlcIn h u k) : keyOf h u = k := by
  unfold keyOf
  rw [dif_pos ⟨k, e⟩]
  exact (Classical.choose_spec (⟨k, e⟩ : ∃ k, PlcIn h u k)).uniq e
theorem keys_back {F : V → Str × List Int → Prop} {f : Value → Str × List Int} : ∀ {its : List Value} {ks : List (Str × List Int)}, Paired F (its.map bkV) ks → (∀ u ∈ its, ∀ k, F (bkV u) k → f u = k) → its.map f = ks ∧ ∀ u ∈ its, F (bkV u) (f u)
  | [], _, h, _ => by cases h; exact ⟨rfl, fun _ z => nomatch z⟩
  | u :: its, ks, h, g => by
    cases h with
    | cons q t =>
      obtain ⟨e1, e2⟩ := keys_back t fun u hu => g u (List.mem_cons_of_mem _ hu)
      have e := g u List.mem_cons_self _ q
      refine ⟨by rw [List.map_cons, e, e1], fun v hv => ?_⟩
      rcases List.mem_cons.mp hv with rfl | hv
      · rw [e]; exact q
      · exact e2 v hv
theorem paired_maps {α β γ : Type} {F : β → γ → Prop} {f : α → β} {g : α → γ} : ∀ {l : List α}, (∀ u ∈ l, F (f u) (g u)) → Paired F (l.map f) (l.map g)
  | [], _ => .nil
  | u :: l, h => .cons (h u List.mem_cons_self) (paired_maps fun v hv => h v (List.mem_cons_of_mem _ hv))
theorem cr_sortN {X : Cx} (hu : X.A.units + 16 < cLine) : CallR X (.builtin "sorted") (rSortN X.K) := by
  intro pins s σ H vs us Q I rr h
  obtain ⟨a, xs, ks, F, rfl, hs, h64, pk, hF, q⟩ := h
  obtain ⟨its, rv, hl, hz⟩ := I.list hs
  rw [Vals.ref1 rr]
  have isr : ∀ x ∈ xs, ∃ t, x = V.ref t := fun x hx => by
    obtain ⟨j, hj⟩ := List.mem_iff_getElem?.mp hx
    obtain ⟨k, _, hk⟩ := Paired.getL pk hj
    obtain ⟨b, _, e, _⟩ := hF _ _ hk
    exact ⟨b, e⟩
  obtain ⟨e1, e2⟩ := bkV_refs rv isr
  rw [e1] at pk
  have un : ∀ u ∈ its, ∀ k, F (bkV u) k → PlcIn s.heap u k := fun u hu k hk => by
    obtain ⟨b, rfl⟩ := e2 u hu
    exact plcV_raw I (hF _ _ hk)
  obtain ⟨e3, e4⟩ := keys_back (f := keyOf s.heap) pk fun u hu k hk => keyOf_eq (un u hu k hk)
  have inn : ∀ u ∈ its, PlcIn s.heap u (keyOf s.heap u) := fun u hu => un u hu _ (e4 u hu)
  have hk : ∀ u ∈ its, keyOf s.heap u ∈ ks := fun u hu => by rw [← e3]; exact List.mem_map_of_mem hu
  refine plc_sorted (r := fun u => oP.rk ks (keyOf s.heap u)) hl.isList (by rw [← rv.length]; exact h64) hu (fun v hv => ⟨_, inn v hv⟩) (fun u hu v hv k m yk ym => ?_) fun out h1 h2 => ?_
  · rw [keyOf_eq yk, keyOf_eq ym]
    have := hk u hu
    rw [keyOf_eq yk] at this
    exact oP.rk_iff this
  · obtain ⟨ep, he⟩ := PyProof.Rows.sortedAll_at s.heap its out
    have mem : ∀ u ∈ out.toList, u ∈ its := fun u hu => h1.mem_iff.mp hu
    have h3 : ∀ u ∈ out.toList, ∃ a, u = Value.ref a := fun u hu => e2 u (mem u hu)
    have srt : out.toList.map (keyOf s.heap) = oP.sort ks := oP.sort_eq (by rw [← e3]; exact h1.map _) (by
      rw [List.pairwise_map]
      refine h2.imp_of_mem fun {u v} hu hv hle => ?_
      have z := oP.rk_iff (L := ks) (a := keyOf s.heap v) (b := keyOf s.heap u) (hk v (mem v hv))
      rw [← z]
      exact decide_eq_false (by omega))
    have hp : Paired F (out.toList.map bkV) (oP.sort ks) := by
      rw [← srt]
      exact paired_maps fun u hu => e4 u (mem u hu)
    have hlen : (out.toList.map bkV).length ≤ sizeLine := by
      rw [List.length_map, h1.length_eq, ← rv.length]; exact hz
    exact ⟨.ref _, upd H (s.heap.objs.size + 1) (.lst (out.toList.map bkV)), I.laid (t' := s.toks) (fun _ _ => PyProof.Rows.sortedAll_old) (Nat.le_succ _) ⟨hlen, out.toList, ep, bkV_vals h3, he⟩, rfl, q _ _ hp (I.hok.fresh (Nat.le_succ _))⟩
section
variable {te : TE} {Γ Γ1 : List Sl} {K : PySem.W.Frag} {xs : List (Str × List Int)}
def pySortN (xs : List (Str × List Int)) : Option (List (Str × List Int)) := if xs.length < 64 then some (oP.sort xs) else none
theorem plc_rel {B H : Hp} (s : Same B H) {v : V} {k : Str × List Int} (h : rPlc.rel B v k) : PlcV K H v k := by
  obtain ⟨p, o, rfl, hp, vs, rfl, v1, t1, rfl, k1, v2, rfl, q, o2, rfl, hq, vs2, rfl, kk⟩ := h
  cases (show v1 = V.str k.1 from k1)
  rw [rint_map kk] at hq
  exact ⟨p, q, rfl, SqT.of (s _ _ hp), SqT.of (s _ _ hq)⟩
theorem ec_sortN {ys : List (Str × List Int)} (h : EvX (rLst rPlc) te Γ Γ1 xs) (e : pySortN xs = some ys) : EvC (cLst rPlc) (tCB (rSortN K) (tCons te tNil)) Γ Γ1 ys := by
  unfold pySortN at e
  split at e
  · rename_i hl
    cases e
    exact ec_B1 h fun H B u z s k Q q => by
      obtain ⟨p, vs, rfl, hp, kv⟩ := ob_lst s k
      refine ⟨p, vs, xs, rPlc.rel B, rfl, SqL.of hp, by rw [Paired.len kv]; exact hl, kv, fun x k hk => plc_rel s hk, fun ws l pk hn => ?_⟩
      refine q l _ hn ?_ ⟨ws, rfl, pk⟩
      show ws.length ≤ _
      rw [Paired.len pk, (oP.sort_perm xs).length_eq]
      exact Nat.le_of_lt (Nat.lt_of_lt_of_le hl (by decide))
  · cases e
end
end G

set_option maxHeartbeats 4000000
/-! # G: list(d), d a dict with such keys -/
namespace G
variable [TabL]
open PySem PySem.Spec PyProof.Rows L2
def rListN (P : Program) (w : World) : List V → Hp → VK → Prop := fun xs H Q => ∃ d o kvs, xs = [V.ref d] ∧ H d = some (dNO P w d o kvs) ∧ ∀ p, H p = none → Q (.ref p) (upd H p (.lst (kvs.map fun e => V.ref e.2.1)))
theorem call_listN {X : Cx} (hc : X.calm = true) : CallR X (.type "list") (rListN X.prog X.w) := by
  intro pins s σ H xs us Q I r h
  obtain ⟨d, o, kvs, rfl, hd, q⟩ := h
  obtain ⟨u, rfl, rx⟩ := r.one
  cases rx
  obtain ⟨hs, ho, hx, es, ep, hdt, hsz, ent⟩ := dn_raw I.hok hd
  have z := (dn_of I.hok hd).1
  refine PySem.W.kdl_call (kdl_raw hs hx hdt) (I.ok.hd hc) ho (by omega) fun h' tk acc c' kp e it => ?_
  have eb : acc.toList = (kvs.map fun e => e.2.1).map Value.ref := by
    have hl : acc.toList.length = kvs.length := by rw [Array.length_toList, it.1]; exact hsz
    apply List.ext_getElem?
    intro j
    rw [List.getElem?_map, List.getElem?_map]
    cases hj : acc.toList[j]? with
    | none => rw [List.getElem?_eq_none (by have := List.getElem?_eq_none_iff.mp hj; omega)]; rfl
    | some v =>
      have hjl : j < kvs.length := by rw [← hl]; exact (List.getElem?_eq_some_iff.mp hj).1
      obtain ⟨en, hen, hv⟩ := it.2 j v (by rw [← Array.getElem?_toList]; exact hj)
      obtain ⟨en2, h2, hk⟩ := ent j _ (List.getElem?_eq_getElem hjl)
      rw [hen] at h2; cases h2
      rw [List.getElem?_eq_getElem hjl, hv, hk]; rfl
  have rv : Vals ((kvs.map fun e => e.2.1).map V.ref) acc.toList := by rw [eb]; exact vals_refs _
  have em : (kvs.map fun e => V.ref e.2.1) = (kvs.map fun e => e.2.1).map V.ref := by rw [List.map_map]; rfl
  refine ⟨.ref s.heap.objs.size, _, I.laid (t' := tk) (o := .lst (kvs.map fun e => V.ref e.2.1)) kp (Nat.le_refl _) ?_, rfl, q _ (I.hok.fresh (Nat.le_refl _))⟩
  exact ⟨by rw [List.length_map]; exact z, acc.toList, c', by rw [em]; exact rv, by rw [Array.toArray_toList]; exact e⟩
section
variable {P : Program} {w : World} {κ β : Type} [DecidableEq κ] {rk : Rp κ} {rv : Rp β} {te : TE} {Γ Γ1 : List Sl} {l : List (κ × β)}
theorem ec_listN (ky : KyN rk) (h : EvX (rDicN P w ky rv) te Γ Γ1 l) (hl : l.length ≤ 1000000) : EvC (cLst rk) (tCB (rListN P w) (tCons te tNil)) Γ Γ1 (l.map Prod.fst) := ec_B1 h fun H B u z s k Q q => by
  obtain ⟨p, o, kvs, rfl, hp, kp⟩ := k
  have pk : ∀ {kvs : List NE} {l : List (κ × β)}, Paired (NRel ky rv B) kvs l → Paired (rk.rel B) (kvs.map fun e => V.ref e.2.1) (l.map Prod.fst) := by
    intro kvs l h
    induction h with
    | nil => exact .nil
    | cons a t ih => exact .cons a.2.1 ih
  refine ⟨p, o, kvs, rfl, s _ _ hp, fun l hn => q l _ hn ?_ ⟨_, rfl, pk kp⟩⟩
  show (kvs.map _).length ≤ _
  rw [List.length_map, Paired.len kp]
  exact Nat.le_trans hl (by decide)
end
def pyKeysD {κ β : Type} (l : List (κ × β)) : Option (List κ) := if l.length ≤ 1000000 then some (l.map Prod.fst) else none
section
variable {P : Program} {w : World} {κ β : Type} [DecidableEq κ] {rk : Rp κ} {rv : Rp β} {te : TE} {Γ Γ1 : List Sl} {l : List (κ × β)} {ks : List κ}
theorem ec_listN' (ky : KyN rk) (h : EvX (rDicN P w ky rv) te Γ Γ1 l) (e : pyKeysD l = some ks) : EvC (cLst rk) (tCB (rListN P w) (tCons te tNil)) Γ Γ1 ks := by
  unfold pyKeysD at e; split at e
  · cases e; exact ec_listN ky h (by assumption)
  · cases e
theorem it_keysN' (ky : KyN rk) (h : EvX (rDicN P w ky rv) te Γ Γ1 l) (e : pyKeysD l = some ks) : ItX rk (iKeysN P w te) Γ Γ1 ks := by
  unfold pyKeysD at e; split at e
  · cases e; exact it_keysN ky h (by assumption)
  · cases e
end
end G

set_option maxHeartbeats 4000000
/-! # G: parts of tuples, tuples joined, deep in, an item of an own list stored -/
namespace G
variable [TabL]
open PySem PySem.Spec PyProof.Rows L2
theorem _root_.L2.Room.units65 {k : Nat} {A : Around} (r : L2.Room k A) : A.units + 65 < cLine := by have := r.un; omega
theorem _root_.L2.Room.units16 {k : Nat} {A : Around} (r : L2.Room k A) : A.units + 16 < cLine := by have := r.un; omega
theorem _root_.L2.Room.units8 {k : Nat} {A : Around} (r : L2.Room k A) : A.in1.units + 8 < cLine := by have := r.un; show A.units + 1 + 8 < cLine; omega
section
variable {X : Cx} {K : PySem.W.Frag}
theorem sl_tupK (h : X.K = K) : SlR X (rSlT K) := by subst h; exact sl_tup
theorem inDK (h : X.K = K) (hu : X.A.units + 65 < cLine) : OpR X (compareOp .In) (rInD K) := by subst h; exact op_inD hu
theorem notInDK (h : X.K = K) (hu : X.A.units + 65 < cLine) : OpR X (compareOp .NotIn) (rNotInD K) := by subst h; exact op_notInD hu
theorem catAK (h : X.K = K) : OpR X (binaryOp .Add) (rCatA K) := by subst h; exact op_catA
theorem sortNK (h : X.K = K) (hu : X.A.units + 16 < cLine) : CallR X (.builtin "sorted") (rSortN K) := by subst h; exact cr_sortN hu
end
/-- the first k of a row, the row behind them -/
def Tk {α β : Type} (w : Rw α) (k : Nat) (w' : Rw β) (f : α → β) : Prop := ∀ B vs a, w.rel B vs a → k < vs.length ∧ w'.rel B (vs.take k) (f a)
def Dk {α β : Type} (w : Rw α) (k : Nat) (w' : Rw β) (f : α → β) : Prop := ∀ B vs a, w.rel B vs a → k < vs.length ∧ w'.rel B (vs.drop k) (f a)
section
variable {α β γ δ : Type} {r : Rp α} {ra : Rp α} {rb : Rp β} {w : Rw β} {w2 : Rw γ} {wa : Rw α} {wd : Rw δ} {f : β → γ} {k : Nat} {K : PySem.W.Frag} {te ta tb tj : TE} {Γ Γ1 Γ2 Γ3 : List Sl} {xs ys : List α} {A : Amb} {D : Ends} {u : TS} {i : Nat} {p : Addr} {a : α}
theorem row_ne {B : Hp} {vs : List V} {b : β} {n : Nat} [q : WLen w n] (hn : 0 < n) (h : w.rel B vs b) : 0 < vs.length := by rw [q.len h]; exact hn
theorem tk_1 {n : Nat} [q : WLen w n] (hn : 0 < n) : Tk (wC r w) 1 (w1 r) (fun a => a.1) := fun B vs a ⟨v, t, e, h, k⟩ => by
  subst e
  exact ⟨by rw [List.length_cons]; have := row_ne hn k; omega, v, rfl, h⟩
theorem tk_S (t : Tk w k w2 f) : Tk (wC r w) (k + 1) (wC r w2) (fun a => (a.1, f a.2)) := fun B vs a ⟨v, l, e, h, q⟩ => by
  subst e
  obtain ⟨h1, h2⟩ := t B l a.2 q
  exact ⟨by rw [List.length_cons]; omega, v, l.take k, rfl, h, h2⟩
theorem dk_1 {n : Nat} [q : WLen w n] (hn : 0 < n) : Dk (wC r w) 1 w (fun a => a.2) := fun B vs a ⟨v, t, e, h, k⟩ => by
  subst e
  exact ⟨by rw [List.length_cons]; have := row_ne hn k; omega, k⟩
theorem dk_S (t : Dk w k w2 f) : Dk (wC r w) (k + 1) w2 (fun a => f a.2) := fun B vs a ⟨v, l, e, h, q⟩ => by
  subst e
  obtain ⟨h1, h2⟩ := t B l a.2 q
  exact ⟨by rw [List.length_cons]; omega, h2⟩
theorem ob_row {B H : Hp} {v : V} {a : α} (s : Same B H) (h : (rOb (cTup wa)).rel B v a) : ∃ p vs, v = .ref p ∧ H p = some (.tup vs) ∧ wa.rel B vs a := by
  obtain ⟨p, o, rfl, hp, vs, rfl, k⟩ := h
  exact ⟨p, vs, rfl, s _ _ hp, k⟩
theorem ec_slTk {g : α → δ} (h : EvX (rOb (cTup wa)) te Γ Γ1 a) (t : Tk wa k wd g) : EvC (cTup wd) (L2.tSl (rSlT K) te tNoPart (tPart (tC (.int (k : Int))))) Γ Γ1 (g a) := fun A σ H B F Q q => h A σ H B F _ fun v H1 B1 F1 s1 k1 => by
  obtain ⟨p, vs, rfl, hp, kw⟩ := ob_row F1.bh k1
  obtain ⟨hk, kd⟩ := t B1 vs a kw
  have e1 : HT.sIx vs.length vs.length (some (k : Int)) = k := by rw [HT.sIx_nat]; omega
  refine ⟨(k : Int), rfl, p, vs, rfl, SqT.of hp, fun z => by have := z.2; rw [e1] at this; omega, fun l hl => ?_⟩
  have ev : cutV vs none (some (k : Int)) = vs.take k := by
    unfold cutV
    rw [e1, HT.sIx_none, List.drop_zero, Nat.sub_zero]
  rw [ev]
  exact ec_fresh (c := cTup wd) (o := .tup (vs.take k)) F1 hl (by show (vs.take k).length ≤ _; rw [List.length_take]; have := F1.sz _ _ hp; exact Nat.le_trans (Nat.min_le_right _ _) this) (fun p o H2 B2 F2 n2 s4 k2 => q p o H2 B2 F2 n2 (s1.trans s4) k2) ⟨_, rfl, kd⟩
theorem ec_slDk {g : α → δ} (h : EvX (rOb (cTup wa)) te Γ Γ1 a) (t : Dk wa k wd g) (h0 : 0 < k := by decide) : EvC (cTup wd) (L2.tSl (rSlT K) te (tPart (tC (.int (k : Int)))) tNoPart) Γ Γ1 (g a) := fun A σ H B F Q q => h A σ H B F _ fun v H1 B1 F1 s1 k1 => by
  obtain ⟨p, vs, rfl, hp, kw⟩ := ob_row F1.bh k1
  obtain ⟨hk, kd⟩ := t B1 vs a kw
  have e1 : HT.sIx vs.length 0 (some (k : Int)) = k := by rw [HT.sIx_nat]; omega
  refine ⟨(k : Int), rfl, p, vs, rfl, SqT.of hp, fun z => by have := z.1; rw [e1] at this; omega, fun l hl => ?_⟩
  have ev : cutV vs (some (k : Int)) none = vs.drop k := by
    unfold cutV
    rw [e1, HT.sIx_none, List.take_of_length_le (by rw [List.length_drop]; exact Nat.le_refl _)]
  rw [ev]
  exact ec_fresh (c := cTup wd) (o := .tup (vs.drop k)) F1 hl (by show (vs.drop k).length ≤ _; rw [List.length_drop]; have := F1.sz _ _ hp; exact Nat.le_trans (Nat.sub_le _ _) this) (fun p o H2 B2 F2 n2 s4 k2 => q p o H2 B2 F2 n2 (s1.trans s4) k2) ⟨_, rfl, kd⟩
/-! ### tuples joined -/
theorem ob_tplM {B H : Hp} {v : V} {xs : List α} (s : Same B H) (h : (rTpl r).rel B v xs) : ∃ p vs, v = .ref p ∧ H p = some (.tup vs) ∧ B p = some (.tup vs) ∧ Paired (r.rel B) vs xs := by
  obtain ⟨p, o, rfl, hp, vs, rfl, k⟩ := h
  exact ⟨p, vs, rfl, s _ _ hp, hp, k⟩
theorem ev_catA {zs : List α} (ha : EvX (rTpl r) ta Γ Γ1 xs) (hb : EvX (rTpl r) tb Γ1 Γ2 ys) (e : pyCat xs ys = some zs) : EvX (rTpl r) (tOp (rCatA K) ta tb) Γ Γ2 zs := by
  unfold pyCat at e
  split at e
  · rename_i hl
    cases e
    exact fun A σ H B F Q q => ha A σ H B F _ fun v H1 B1 F1 s1 k1 => hb A σ H1 B1 F1 _ fun v2 H2 B2 F2 s2 k2 => by
      have k1' := (rTpl r).mono s2 k1
      obtain ⟨p1, vs, rfl, hp1, hb1, kp1⟩ := ob_tplM F2.bh k1'
      obtain ⟨p2, ws, rfl, hp2, hb2, kp2⟩ := ob_tplM F2.bh k2
      have hz : vs.length + ws.length ≤ sizeLine := by rw [Paired.len kp1, Paired.len kp2]; exact Nat.le_trans hl (by decide)
      have app := Paired.app kp1 kp2
      refine ⟨p1, p2, vs, ws, rfl, rfl, SqT.of hp1, SqT.of hp2, hz, fun e0 => ?_, fun h0 e0 => ?_, fun h0 h1 l hn => ?_⟩
      · subst e0
        exact q _ H2 B2 F2 (s1.trans s2) ⟨p2, _, rfl, hb2, _, rfl, app⟩
      · subst e0
        rw [List.append_nil] at app
        exact q _ H2 B2 F2 (s1.trans s2) ⟨p1, _, rfl, hb1, _, rfl, app⟩
      · exact ev_freshT F2 hn (by show (vs ++ ws).length ≤ _; rw [List.length_append]; exact hz) (s1.trans s2) q app
  · cases e
where
  ev_freshT {A : Amb} {σ : L2.St} {H B B0 : Hp} {Γ : List Sl} {l : Addr} {vs : List V} {zs : List α} {Q : VK} (F : Frm A σ H B Γ) (hn : H l = none) (hz : szO (.tup vs)) (s : Same B0 B) (q : ∀ v H' B', Frm A σ H' B' Γ → Same B0 B' → (rTpl r).rel B' v zs → Q v H') (k : Paired (r.rel B) vs zs) : Q (.ref l) (upd H l (.tup vs)) := by
    have hB : B l = none := by
      cases e : B l with
      | none => rfl
      | some u => have := F.bh l u e; rw [hn] at this; cases this
    have s' : Same B (upd B l (.tup vs)) := fun b u e => by rw [upd_ne (ne_of_none e hB)]; exact e
    exact q _ _ _ (F.plus (o := .tup vs) hn hz) (s.trans s') ⟨l, _, rfl, upd_same, _, rfl, Paired.monoR s' k⟩
/-! ### deep in -/
def pyInD (d : PyData) (ds : List PyData) : Option Bool := if SeqAt.shaped d = true ∧ SeqAt.shaped (.list ds) = true then some (ds.any fun z => PyData.eqv z d) else none
theorem ev_inD {b : Bool} {x : α} {ys : List β} {f : α → PyData} {g : β → PyData} (da : Da K ra f) (db : Da K rb g) (ha : EvX ra ta Γ Γ1 x) (hb : EvX (rLst rb) tb Γ1 Γ2 ys) (e : pyInD (f x) (ys.map g) = some b) : EvX rBool (tOp (rInD K) ta tb) Γ Γ2 b := by
  unfold pyInD at e
  split at e
  · rename_i hs
    cases e
    exact ev_op ha hb fun H B u v s ku kv Q q => ⟨_, _, dp_mono s _ _ (da _ _ _ ku), dp_mono s _ _ (da_lst db _ _ _ kv), hs.1, hs.2, q _ rfl⟩
  · cases e
theorem ev_ninD {b : Bool} {x : α} {ys : List β} {f : α → PyData} {g : β → PyData} (da : Da K ra f) (db : Da K rb g) (ha : EvX ra ta Γ Γ1 x) (hb : EvX (rLst rb) tb Γ1 Γ2 ys) (e : pyInD (f x) (ys.map g) = some b) : EvX rBool (tOp (rNotInD K) ta tb) Γ Γ2 (!b) := by
  unfold pyInD at e
  split at e
  · rename_i hs
    cases e
    exact ev_op ha hb fun H B u v s ku kv Q q => ⟨_, _, dp_mono s _ _ (da _ _ _ ku), dp_mono s _ _ (da_lst db _ _ _ kv), hs.1, hs.2, q _ rfl⟩
  · cases e
/-! ### an item of an own list is stored -/
def pySet {α : Type} (xs : List α) (j : Int) (a : α) : Option (List α) := (ixN xs.length j).map fun n => xs.set n a
theorem paired_set {F : V → α → Prop} {v : V} {a : α} (h : F v a) : ∀ {vs : List V} {xs : List α} (n : Nat), Paired F vs xs → Paired F (vs.set n v) (xs.set n a)
  | _, _, _, .nil => .nil
  | _, _, 0, .cons _ t => .cons h t
  | _, _, n + 1, .cons q t => .cons q (paired_set h n t)
theorem sq_setIx {j : Int} (h : EvX r te Γ Γ1 a) (h1 : Γ1[i]? = some (.cel p (cLst r) xs)) (hj : EvX rInt tj Γ1 Γ2 j) (h2 : Γ2[i]? = some (.cel p (cLst r) xs)) (e : pySet xs j a = some ys) (n : Nx A (u D) (Γ2.set i (.cel p (cLst r) ys))) : Nx A (tSeq (tAsg te (gSub (tVar i) tj rSetL)) u D) Γ := fun σ H B F =>
  h A σ H B F _ fun v H1 B1 F1 s1 k1 => ⟨_, (cel_lst F1 h1).1, hj A σ H1 B1 F1 _ fun y H2 B2 F2 s2 k2 => by
    obtain ⟨m, em, rfl⟩ := Option.map_eq_some_iff.mp e
    obtain ⟨e2, vs, hp, kp⟩ := cel_lst F2 h2
    refine ⟨p, vs, j, m, rfl, k2, hp, by rw [Paired.len kp]; exact em, n σ _ B2 (F2.write h2 (c' := cLst r) (o' := .lst (vs.set m v)) ⟨_, rfl, paired_set (r.mono s2 k1) m kp⟩ (by show (vs.set m v).length ≤ _; rw [List.length_set]; exact F2.sz _ _ hp))⟩⟩
end
end G

set_option maxHeartbeats 4000000
/-! # G: the rules of such dicts with the program named; what is never reached -/
namespace G
variable [TabL]

open PySem PySem.Spec PyProof.Rows L2
section
variable {X : Cx} {P : Program} {w : World} {o i e value : Expr} {pos pos' apos cpos : Pos} {td ty tv : TE} {tg : Expr}
theorem dnewK (hP : X.prog = P) (hw : X.w = w) : PE X (.Dict [] [] pos) (tDNewN P w) := by subst hP hw; exact pe_dnewN
theorem ngetK (hP : X.prog = P) (hw : X.w = w) (hu : X.A.in1.units + 8 < cLine) (ho : PE X o td) (hi : PE X i ty) (hs : NoSl i) : PE X (.Subscript o i pos) (tNGet P w td ty) := by subst hP hw; exact pe_nget hu ho hi hs
theorem ninK (hP : X.prog = P) (hw : X.w = w) (hu : X.A.in1.units + 8 < cLine) (hi : PE X i ty) (ho : PE X o td) : PC X .In i o (tNIn P w ty td) := by subst hP hw; exact pc_nin hu hi ho
theorem nnotinK (hP : X.prog = P) (hw : X.w = w) (hu : X.A.in1.units + 8 < cLine) (hi : PE X i ty) (ho : PE X o td) : PC X .NotIn i o (tNNotIn P w ty td) := by subst hP hw; exact pc_nnotin hu hi ho
theorem nget1K (hP : X.prog = P) (hw : X.w = w) (hu : X.A.in1.units + 8 < cLine) (ho : PE X o td) (he : PE X e ty) (m : M1 X o "get" apos e cpos) : PE X (.Call (.Attribute o "get" apos) [e] [] cpos) (tNGet1 P w td ty) := by subst hP hw; exact pe_nget1 hu ho he m
theorem nputK (hP : X.prog = P) (hw : X.w = w) (hu : X.A.in1.units + 8 < cLine) (ho : PE X o td) (hi : PE X i ty) (hv : PE X value tv) (hs : swapsWith value (some (.Subscript o i pos')) pos.line X.env = pure false) : PS X (.Assign [.Subscript o i pos'] value pos) (sNPut P w td ty tv) := by subst hP hw; exact ps_nput hu ho hi hv hs
theorem keysNK (hP : X.prog = P) (hw : X.w = w) (he : PE X e td) : PI X tg e (iKeysN P w td) := by subst hP hw; exact pi_keysN he
theorem listNK (hP : X.prog = P) (hw : X.w = w) (hc : X.calm = true) : CallR X (.type "list") (rListN P w) := by subst hP hw; exact call_listN hc
theorem ps_never {st : Stmt} : PS X st (fun _ _ _ => False) := ⟨fun _ _ _ _ _ _ h => h.elim⟩
end
end G

set_option maxHeartbeats 4000000
/-! # G: -x, x[k] and properties of own classes -/
namespace G
variable [TabL]
open PySem PySem.Spec PyProof.Rows L2
section
variable {X : Cx} {CX : CXT} {C f : Addr} {fd : FuncData} {ps : List Str} {n : Nat} {sp : Sp} {E : XK} {K : PySem.W.Frag} {a b : Expr} {ta tb : TE} {pos : Pos}
/-- -x, x of the class at C -/
def rNegO (C : Addr) (sp : Sp) (E : XK) : V → Hp → VK → Prop := fun x H Q => ∃ a dx fs, x = .ref a ∧ H a = some (.ins C dx fs) ∧ sp [x] H Q E
theorem op_negO (hK : X.K = K) (hm : Meth K C "__neg__" f) (F : FnOk X.prog X.w X.K X.mg X.base CX n f fd ps sp) (hr : Room n X.A) (hb : Binds K fd ps []) (hx : Passes CX X E) : UnR X (unaryOp .USub) (rNegO C sp E) := by
  subst hK
  intro pins s σ H x v Q I rx h
  obtain ⟨a, dx, fs, rfl, ha, q⟩ := h
  cases (show v = Value.ref a from rx)
  obtain ⟨mA, J, _⟩ := ins_get I.hok ha
  obtain ⟨od, J, _⟩ := J.look
  obtain ⟨m, hF⟩ := I.fr
  exact PySem.W.ksp_neg hF I.ok.mod.kin J hm.at_ hm.fn (run_fn (us := [.ref a]) (vs := [.ref a]) F hr hb .nil hx I (.cons rfl .nil) (by rw [List.append_nil]; exact q))
/-- x[y], x of the class at C -/
def rItO (C : Addr) (sp : Sp) (E : XK) : R2 := fun x y H Q => ∃ a dx fs, x = .ref a ∧ H a = some (.ins C dx fs) ∧ sp [x, y] H Q E
theorem pe_itO (hK : X.K = K) (hm : Meth K C "__getitem__" f) (hf : PySem.W.fnIn K f = true) (F : FnOk X.prog X.w X.K X.mg X.base CX n f fd ps sp) (hr : Room (n + 1) X.A) (hb : Binds K fd ps []) (hx : Passes CX X E) (ha : PE X a ta) (hb2 : PE X b tb)
    (hs : ∀ o i, subscripted b true o i = runValue (.builtin "lifetime.subscript" ⟨[o, i], []⟩)) : PE X (.Subscript a b pos) (tOp (rItO C sp E) ta tb) := by
  subst hK
  refine ⟨fun pins s σ H Q I h => ?_⟩
  refine Subscript_ (binT ha hb2 I h fun v u s2 x y H2 I2 rx ry q => ?_)
  obtain ⟨a, dx, fs, rfl, ha, q⟩ := q
  cases (show v = Value.ref a from rx)
  obtain ⟨mA, J, _⟩ := ins_get I2.hok ha
  obtain ⟨od, J, _⟩ := J.look
  obtain ⟨m, hF⟩ := I2.fr
  have hl : ([Value.ref a, u] : List Value).length = ps.length := by rw [← F.len _ _ _ _ q]; rfl
  refine PySem.W.sub_K hF I2.ok.mod.kin J hm.at_ hf hm.fn ?_ (hs _ _)
  refine wpAny_call (codeAny_mono (F.run X.A.in1 X.stack s2 H2 ⟨[.ref a, u], []⟩ [.ref a, u] [.ref a, y] Q E hr.in1 I2.env0.in1 (by have := hb s2 [.ref a, u] I2.kIn (by rw [List.append_nil]; exact hl); rwa [List.append_nil] at this) (.cons rfl (.cons ry .nil)) q) fun r s' hq => ?_)
  cases r with
  | error e => exact hx pins σ H2 s2 e s' I2 hq
  | ok fl =>
    cases fl with
    | ret u => exact I2.after hq
    | next => exact False.elim hq
    | brk => exact False.elim hq
    | cont => exact False.elim hq
end
section
variable {α β γ : Type} {r ra : Rp α} {rb : Rp β} {rc : Rp γ} {te ta tb : TE} {Γ Γ1 Γ2 : List Sl} {K : PySem.W.Frag} {w : Rw α} {C : Addr} {names : List Str} {x : α} {y : β} {E : XK}
theorem ev_negO {m : α → Option γ} {z : γ} (ha : EvX (rIns C names w) ta Γ Γ1 x) (e : m x = some z) : EvX rc (tUn (rNegO C (SpP (w1 (rIns C names w)) rc m) E) ta) Γ Γ1 z := fun A σ H B F Q q =>
  ha A σ H B F _ fun u H1 B1 F1 s1 k1 => by
    obtain ⟨p, dx, vs, rfl, hp, l, kw⟩ := ob_ins F1.bh k1
    exact ⟨p, dx, _, rfl, hp, B1, x, z, F1.szt, F1.bh, ⟨_, rfl, k1⟩, e, fun H3 B3 v3 P k3 => q _ H3 B3 (F1.after P) (s1.trans P.b0) k3⟩
theorem ev_itO {m : α × β → Option γ} {z : γ} (ha : EvX (rIns C names w) ta Γ Γ1 x) (hb : EvX rb tb Γ1 Γ2 y) (e : m (x, y) = some z) : EvX rc (tOp (rItO C (SpP (wC (rIns C names w) (w1 rb)) rc m) E) ta tb) Γ Γ2 z := fun A σ H B F Q q =>
  ha A σ H B F _ fun u H1 B1 F1 s1 k1 => hb A σ H1 B1 F1 _ fun v H2 B2 F2 s2 k2 => by
    have k1' := (rIns C names w).mono s2 k1
    obtain ⟨p, dx, vs, rfl, hp, l, kw⟩ := ob_ins F2.bh k1'
    exact ⟨p, dx, _, rfl, hp, B2, (x, y), z, F2.szt, F2.bh, ⟨_, _, rfl, k1', _, rfl, k2⟩, e, fun H3 B3 v3 P k3 => q _ H3 B3 (F2.after P) ((s1.trans s2).trans P.b0) k3⟩
theorem ev_prop {m : α → Option γ} {z : γ} (ha : EvX (rIns C names w) ta Γ Γ1 x) (e : m x = some z) : EvX rc (tProp C (SpP (w1 (rIns C names w)) rc m) [] E ta) Γ Γ1 z := fun A σ H B F Q q =>
  ha A σ H B F _ fun u H1 B1 F1 s1 k1 => by
    obtain ⟨p, dx, vs, rfl, hp, l, kw⟩ := ob_ins F1.bh k1
    exact ⟨p, dx, _, rfl, hp, B1, x, z, F1.szt, F1.bh, ⟨_, rfl, k1⟩, e, fun H3 B3 v3 P k3 => q _ H3 B3 (F1.after P) (s1.trans P.b0) k3⟩
end
end G
namespace G
variable [TabL]
open PySem PySem.Spec PyProof.Rows L2
section
variable {X : Cx} {CX : CXT} {C f : Addr} {fd : FuncData} {ps : List Str} {n : Nat} {sp : Sp} {E : XK} {P : Program} {w : World} {K : PySem.W.Frag} {mg : Str → Option Value} {base : Heap} {a b : Expr} {ta tb : TE} {pos : Pos}
theorem inOK (h1 : X.prog = P) (h2 : X.w = w) (hK : X.K = K) (h3 : X.mg = mg) (h4 : X.base = base) (hm : Meth K C "__contains__" f) (F : FnOk P w K mg base CX n f fd ps sp) (hr : Room n X.A) (hb : Binds K fd ps []) (hx : Passes CX X E) : OpR X (compareOp .In) (rInO C sp false E) := by
  subst h1 h2 hK h3 h4; exact op_inO rfl hm F hr hb hx
theorem ninOK (h1 : X.prog = P) (h2 : X.w = w) (hK : X.K = K) (h3 : X.mg = mg) (h4 : X.base = base) (hm : Meth K C "__contains__" f) (F : FnOk P w K mg base CX n f fd ps sp) (hr : Room n X.A) (hb : Binds K fd ps []) (hx : Passes CX X E) : OpR X (compareOp .NotIn) (rInO C sp true E) := by
  subst h1 h2 hK h3 h4; exact op_ninO rfl hm F hr hb hx
theorem makeNK {x : Str} {p pos : Pos} {e : Expr} {es : List Expr} {t : TA} {k : Nat} {dvs : List V} {ds : List Value} (h1 : X.prog = P) (h2 : X.w = w) (hK : X.K = K) (h3 : X.mg = mg) (h4 : X.base = base) (M : Mk K C f) (F : FnOk P w K mg base CX k f fd ps sp) (hr : Room (k + 1) X.A) (hg : Gl X x) (hm : mg x = some (.ref C)) (hb : Binds K fd ps ds) (hd : Vals dvs ds) (hx : Passes CX X E)
    (ha : PA X (e :: es) t) (hdb : (x == ("__debug__" : Str)) = false := by decide) (he : starEach (e :: es) X.env = (false, eval e X.env) :: starEach es X.env := by rfl) (hpl : (backTo pos (starEach es X.env)).any (·.1) = false := by rfl) :
    PE X (.Call (.Name x p) (e :: es) [] pos) (tMake C sp dvs E t) := by
  subst h1 h2 hK h3 h4; exact pe_make M F hr hg hm hb hd hx ha hdb he hpl
end
section
variable {κ β : Type} [DecidableEq κ] {rk : Rp κ} {P : Program} {w : World}
theorem paired_noN {ky : KyN rk} {rv : Rp β} [NoL rk] [NoL rv] {B : Hp} {p : Addr} {vs : List V} (hp : B p = some (.lst vs)) : ∀ {kvs : List NE} {l : List (κ × β)}, Paired (NRel ky rv B) kvs l → Paired (NRel ky rv (ers B p)) kvs l
  | _, _, .nil => .nil
  | _, _, .cons h t => .cons ⟨h.1, NoL.no hp h.2.1, NoL.no hp h.2.2⟩ (paired_noN hp t)
instance {ky : KyN rk} {rv : Rp β} [NoL rk] [NoL rv] : NoL (rDicN P w ky rv) := ⟨fun {B p vs v a} hp ⟨q, o, kvs, e, hq, k⟩ => ⟨q, o, kvs, e, by
  rw [ers_ne fun z => by rw [z, hp] at hq; cases hq]; exact hq, paired_noN hp k⟩⟩
end
end G

set_option maxHeartbeats 4000000
/-! # several except clauses with names -/
namespace L2
open PySem PySem.Spec PyProof.Rows
def wManyAs (K : PySem.W.Frag) (Wout : WX) (D : Ends) (l : List (Value × Nat × (Addr → Value → Option Addr → TS))) : WX := l.foldr (fun x W => wAs K x.1 x.2.1 x.2.2 W D) Wout
inductive HdsAs (X : Cx) : List ExceptHandler → List (Value × Nat × (Addr → Value → Option Addr → TS)) → Prop
  | nil : HdsAs X [] []
  | cons {x n : Str} {c : Value} {i : Nat} {ts : Addr → Value → Option Addr → TS} {b₀ : Stmt} {suite : List Stmt} {np pos' : Pos} {hds : List ExceptHandler} {l : List (Value × Nat × (Addr → Value → Option Addr → TS))}
      (hi : X.N[i]? = some n) (hln : X.env.kindOf n = some .local) (hc : Names X x c)
      (hsu : ∀ (a : Addr) (oe : Obj) (cls : Value) (d : Option Addr) (pn : List (Addr × Obj)), Zc cls d oe → (∃ vs, oe.data = .fields vs) → PSs (X.suite a ((a, oe) :: pn)) (b₀ :: suite) (ts a cls d)) (r : HdsAs X hds l) :
      HdsAs X (.ExceptHandler (some (.Name x np)) (some n) (b₀ :: suite) pos' :: hds) ((c, i, ts) :: l)
section
variable {X : Cx} {body : List Stmt} {h₀ : ExceptHandler} {hds : List ExceptHandler} {l : List (Value × Nat × (Addr → Value → Option Addr → TS))} {pos : Pos} {tb : WX → TS} {Wout : WX}
theorem ps_try_manyAs (hs : X.stack = X.env :: X.outer) (hf : X.env.frame = some X.env.locals) (hN : X.N.Nodup) (tk : Takes X Wout)
    (hb : ∀ (W : WX) (pn : List (Addr × Obj)) (xe : Value → Shared → Prop), Takes (X.tr pn xe) W → PassesOwn (model X.prog X.w) X.A X.env xe → PSs (X.tr pn xe) body (tb W))
    (hh : HdsAs X (h₀ :: hds) l) : PS X (.Try body (h₀ :: hds) [] [] pos) (fun D σ H => tb (wManyAs X.K Wout D l) D σ H) := by
  refine ⟨fun pins s σ H D I h => ?_⟩
  have ok := I.ok
  have hfr : X.A.frames = some (X.env :: X.outer) := by rw [ok.frames, hs]
  refine wpAny_Try_except ?_
  refine wpAny_mono ((hb (wManyAs X.K Wout D l) (X.pn ++ pins) (fun e s₁ => wpAny (model X.prog X.w) X.A (noteFrame e X.env) (fun _ s₂ => wpAny (model X.prog X.w) X.A (setFlight e none) (fun _ s₃ =>
    wpAny (model X.prog X.w) X.A (handleBy e X.env (h₀ :: hds)) (SP X pins D) X.xe s₃) X.xe s₂) X.xe s₁) (fun u s' xx => ?_) PassesOwn.looking).run [] s σ H D (I.toTry _) h) (fun f s1 hsp => ?_) (fun e s1 he => he)
  · -- the catch
    obtain ⟨a, B, sI, pins', σ', H', cls, d, rfl, J', nb, up, sky, na, os, ag, w⟩ := xx
    have J : Inv X pins σ' H' sI := J'.ofTry ok
    have sky' : Sky B (X.env :: X.outer) a (Zc cls d) X.env.locals s'.heap := by rw [← hs]; exact sky
    show wpAny (model X.prog X.w) X.A (noteFrame (.ref a) X.env) _ _ _
    refine Sky.land Zc.steady hfr hf sky' fun h3 fl3 up3 => ?_
    have J3 : Inv X pins σ' H' { s' with heap := h3 } := J.landed nb fl3.1 (up.trans up3) os ag
    obtain ⟨oe3, vs3, he3, hz3, hd3⟩ := fl3.there
    have notFr : ∀ {h : Heap} {o : Obj} {vs : Array Value}, h.FunFrames B (X.env :: X.outer) → h.get? a = some o → o.data = .fields vs → a ∉ frs (X.env :: X.outer) := fun {h o vs} ff e dd hm => by
      obtain ⟨_, o', e', hnf⟩ := ff.mem hm
      rw [e] at e'; cases e'
      exact hnf _ dd
    have nfr := notFr fl3.2.2.1 he3 hd3
    have nL : a ≠ X.env.locals := fun z => nfr (List.mem_filterMap.mpr ⟨X.env, List.mem_cons_self, by rw [hf, z]⟩)
    have nF : a ∉ X.fs := fun hm => by
      obtain ⟨e, he, q⟩ := List.mem_filterMap.mp hm
      exact nfr (List.mem_filterMap.mpr ⟨e, List.mem_cons_of_mem _ he, q⟩)
    have S3 := J3.suite he3 hd3 na nL nF
    have go : ∀ {hds' : List ExceptHandler} {l' : List (Value × Nat × (Addr → Value → Option Addr → TS))}, HdsAs X hds' l' → wManyAs X.K Wout D l' cls d σ' H' →
        wpAny (model X.prog X.w) X.A (handleBy (.ref a) X.env hds') (SP X pins D) X.xe { s' with heap := h3 } := by
      intro hds' l' hk
      induction hk with
      | nil =>
        intro w
        refine wpAny_handleBy_nil ?_
        obtain ⟨k1, k2, k3, oe, vs, T, oT, ts', he, hz, hd, h1, hr⟩ := id fl3
        unfold PySem.passOn
        refine wpAny_bind (wpAny_field he hd h1 ?_)
        rw [if_neg (show ¬ ((Value.ref T == Value.none) = true) from by simp)]
        have fin : wpAny (model X.prog X.w) X.A (setFlight (.ref a) X.env.frame) (fun _ s4 => wpAny (model X.prog X.w) X.A (throw (.ref a) : Sem Flow) (SP X pins D) X.xe s4) X.xe { s' with heap := h3 } := by
          rw [hf]
          refine HandSPX.setFlight_upZ fl3 fun h4 hh4 up4 => wpAny_throw (tk _ _ ?_)
          exact ⟨a, B, sI, pins, σ', H', cls, d, rfl, J, nb, (up.trans up3).trans up4, .inr (.inr (by rw [hs]; exact hh4)), na, os, ag, w⟩
        first
          | exact wpAny_bind (wpAny_pure (wpAny_bind fin))
          | exact wpAny_bind fin
      | @cons x n c i ts b₀ suite np pos' hds2 l2 hi hln hc hsu r ih =>
        intro w
        have hloc : Loc X.env.scope n := .inl hln
        have w' : wAs X.K c i ts (wManyAs X.K Wout D l2) D cls d σ' H' := w
        obtain ⟨b, hb1, hyes, hno⟩ := w'
        refine wpAny_handleBy_cons (codeAny_handlers_test ?_) (by intro q; cases q)
        have LT : PySem.W.Looks (model X.prog X.w) h3 (typeOf (.ref a)) cls := fun A Q E s k q => wpAny_typeOf_ref (k _ _ he3) (by rw [hz3.1]; exact q)
        have LM := PySem.W.exm_one (M := model X.prog X.w) (J3.kIn) LT hb1
        have test : ∀ {Q : Value → Shared → Prop} {E : Value → Shared → Prop}, Q c { s' with heap := h3 } → wpAny (model X.prog X.w) (X.A.mark (some (.ref a))) (eval (.Name x np) X.env) Q E { s' with heap := h3 } := fun {Q E} q => by
          obtain ⟨hg, hdbg, hm | ⟨hm, hv, hnn⟩⟩ := hc
          · exact ld_glob (X := X.suite a ((a, oe3) :: (X.pn ++ pins))) S3 hg hm q hdbg
          · exact ld_blt (X := X.suite a ((a, oe3) :: (X.pn ++ pins))) S3 hg hm hv q hnn hdbg
        refine test (LM.here ?_)
        cases b with
        | true =>
          refine codeAny_handlers_suite_as ?_
          refine HandSPX.lands_againZ fl3 fun h4 fl4 up4 => ?_
          have J4 : Inv X pins σ' H' { s' with heap := h4 } := J.landed nb fl4.1 ((up.trans up3).trans up4) os ag
          obtain ⟨oe4, vs4, he4, hz4, hd4⟩ := fl4.there
          have S4 := J4.suite he4 hd4 na nL nF
          refine store_ok (X := X.suite a ((a, oe4) :: (X.pn ++ pins))) (v := .ref a) S4 hN hi hloc rfl (fun s5 S5 => ?_) (.inr hln)
          refine wpAny_mono ((hsu a oe4 cls d (X.pn ++ pins) hz4 ⟨_, hd4⟩).run [] s5 _ H' _ S5 (hyes rfl a na)) (fun f s6 hsp => ?_) (fun _ _ z => False.elim z)
          have end_ : ∀ {σ6 : St} {H6 : Hp} {Q : Shared → Prop}, Inv (X.suite a ((a, oe4) :: (X.pn ++ pins))) [] σ6 H6 s6 → (∀ s7, Inv X pins (σ6.set i none) H6 s7 → Q s7) →
              wpAny (model X.prog X.w) X.A (do bindName X.env n .none; unbindBehindTheSuite X.env n pos') (fun _ s7 => Q s7) X.xe s6 := fun {σ6 H6 Q} S6 hq => gone_ok (S6.unsuite ok) hN hi hln hq
          cases f with
          | next =>
            obtain ⟨σ6, H6, S6, q6⟩ := hsp
            exact end_ S6 fun s7 J7 => ⟨_, _, J7, q6⟩
          | brk =>
            obtain ⟨σ6, H6, S6, q6⟩ := hsp
            exact end_ S6 fun s7 J7 => ⟨_, _, J7, q6⟩
          | cont =>
            obtain ⟨σ6, H6, S6, q6⟩ := hsp
            exact end_ S6 fun s7 J7 => ⟨_, _, J7, q6⟩
          | ret u =>
            obtain ⟨v6, σ6, H6, S6, r6, q6⟩ := hsp
            exact end_ S6 fun s7 J7 => ⟨_, _, _, J7, r6, q6⟩
        | false =>
          show wpAny _ X.A (handleBy (.ref a) X.env hds2) _ _ _
          exact ih (hno rfl)
    exact go hh w
  · cases f with
    | next =>
      obtain ⟨σ', H', J', q⟩ := hsp
      exact wpAny_execs_nil ⟨σ', H', J'.ofTry ok, q⟩
    | brk =>
      obtain ⟨σ', H', J', q⟩ := hsp
      exact ⟨σ', H', J'.ofTry ok, q⟩
    | cont =>
      obtain ⟨σ', H', J', q⟩ := hsp
      exact ⟨σ', H', J'.ofTry ok, q⟩
    | ret u =>
      obtain ⟨v, σ', H', J', r, q⟩ := hsp
      exact ⟨v, σ', H', J'.ofTry ok, r, q⟩
end
end L2
namespace G
variable [TabL]
open PySem PySem.Spec PyProof.Rows L2
/-- the clauses: class, slot of the name, suite -/
inductive HdsG (X : Cx) : List ExceptHandler → List (Value × Nat × List Stmt) → Prop
  | nil : HdsG X [] []
  | cons {x n : Str} {c : Value} {i : Nat} {b₀ : Stmt} {suite : List Stmt} {np pos' : Pos} {hds : List ExceptHandler} {l : List (Value × Nat × List Stmt)}
      (hi : X.N[i]? = some n) (hln : X.env.kindOf n = some .local) (hc : Names X x c) (r : HdsG X hds l) :
      HdsG X (.ExceptHandler (some (.Name x np)) (some n) (b₀ :: suite) pos' :: hds) ((c, i, b₀ :: suite) :: l)
abbrev suis (X : Cx) (l : List (Value × Nat × List Stmt)) : List (Value × Nat × (Addr → Value → Option Addr → TS)) := l.map fun x => (x.1, x.2.1, tSui X x.2.2)
theorem HdsG.as {X : Cx} : ∀ {hds : List ExceptHandler} {l : List (Value × Nat × List Stmt)}, HdsG X hds l → HdsAs X hds (suis X l)
  | _, _, .nil => .nil
  | _, _, .cons hi hln hc r => .cons hi hln hc (fun a oe cls d pn hz hf' => ⟨fun pins s σ H D I ⟨t, ht, q⟩ => (ht oe pn hz hf').run pins s σ H D I q⟩) r.as
theorem ps_tryM {X : Cx} {body : List Stmt} {h₀ : ExceptHandler} {hds : List ExceptHandler} {l : List (Value × Nat × List Stmt)} {pos : Pos} {Wout : WX} (hs : X.stack = X.env :: X.outer) (hf : X.env.frame = some X.env.locals) (hN : X.N.Nodup) (tk : Takes X Wout) (hh : HdsG X (h₀ :: hds) l) :
    PS X (.Try body (h₀ :: hds) [] [] pos) (fun D σ H => tBod X body (wManyAs X.K Wout D (suis X l)) D σ H) :=
  ps_try_manyAs (tb := fun W => tBod X body W) hs hf hN tk (fun W pn xe tk' po => ⟨fun pins s σ H D I ⟨t, ht, q⟩ => (ht pn xe tk' po).run pins s σ H D I q⟩) hh.as
section
variable {α β γ δ ε ε' : Type} {r : Rp α} {rb : Rp β} {rc : Rp γ} {te ta tb : TE} {t : TA} {Γ Γ1 Γ2 : List Sl} {K : PySem.W.Frag} {w : Rw α} {C : Addr} {names : List Str} {R : ER ε} {R1 : ER ε} {R2 : ER ε'} {A : Amb} {D : Ends} {u : TS} {i : Nat}
/-- the clause of another class -/
theorem nxe_no {c : Value} {ts : Addr → Value → Option Addr → TS} {W : WX} {e : α} (hx : PySem.W.exmOne K (.ref C) c = some false) (k : NxE W A Γ (fun B cls d x => ErAt B cls d C names w x) e) :
    NxE (wAs K c i ts W D) A Γ (fun B cls d x => ErAt B cls d C names w x) e := fun cls d σ H B F he => by
  obtain ⟨rfl, h⟩ := id he
  exact ⟨false, hx, fun q => Bool.noConfusion q, fun _ => k _ d σ H B F he⟩
def sumO {α β γ : Type} (x : α ⊕ β) (f : α → Option γ) (g : β → Option γ) : Option γ := match x with
  | .inl a => f a
  | .inr b => g b
@[simp] theorem sumO_l {α β γ : Type} (a : α) (f : α → Option γ) (g : β → Option γ) : sumO (.inl a) f g = f a := rfl
@[simp] theorem sumO_r {α β γ : Type} (b : β) (f : α → Option γ) (g : β → Option γ) : sumO (.inr b) f g = g b := rfl
theorem nxe_sum {W : WX} {x : ε ⊕ ε'} {f : ε → Option γ} {g : ε' → Option γ} {z : γ} (h : sumO x f g = some z) (k1 : ∀ a, f a = some z → NxE W A Γ R1 a) (k2 : ∀ b, g b = some z → NxE W A Γ R2 b) : NxE W A Γ (erS R1 R2) x := by
  cases x with
  | inl a => exact fun cls d σ H B F he => k1 a h cls d σ H B F he
  | inr b => exact fun cls d σ H B F he => k2 b h cls d σ H B F he
theorem sq_dropMk {W : WX} {wb : Rw β} {m : α → Option (Res ε β)} {a : α} {x : Res ε β} {k : β → Option γ} {l : ε → Option γ} {z : γ} (hmono : ∀ {H H' : Hp} {cls d e}, Same H H' → R H cls d e → R H' cls d e) (h : EvW w t Γ Γ1 a) (e : m a = some x) (q : resX x k l = some z)
    (ko : ∀ y, k y = some z → Nx A (u D) Γ1) (ke : ∀ y, l y = some z → NxE W A Γ1 R y) : Nx A (tSeq (tDrop (tMakeS C (SpI R C w (cIns C names wb) m) (WE W) t)) u D) Γ :=
  sq_dropR (tf := fun E => tMakeS C (SpI R C w (cIns C names wb) m) E t) (er_make (names := names) hmono h e) q ko ke
end
/-! ### x[y], which may raise -/
def tItX (C : Addr) (sp : Sp) (E : L2.St → XK) (ta tb : TE) : TE := fun σ H Q => ta σ H fun x H1 => tb σ H1 fun y H2 => ∃ a dx fs, x = .ref a ∧ H2 a = some (.ins C dx fs) ∧ sp [x, y] H2 Q (E σ)
section
variable {X : Cx} {CX : CXT} {C f : Addr} {fd : FuncData} {ps : List Str} {n : Nat} {sp : Sp} {E : L2.St → XK} {K : PySem.W.Frag} {a b : Expr} {ta tb : TE} {pos : Pos}
theorem pe_itX (hK : X.K = K) (hm : Meth K C "__getitem__" f) (hf : PySem.W.fnIn K f = true) (F : FnOk X.prog X.w X.K X.mg X.base CX n f fd ps sp) (hr : Room (n + 1) X.A) (hb : Binds K fd ps []) (hx : ∀ σ, PassesAt CX X σ (E σ)) (ha : PE X a ta) (hb2 : PE X b tb)
    (hs : ∀ o i, subscripted b true o i = runValue (.builtin "lifetime.subscript" ⟨[o, i], []⟩)) : PE X (.Subscript a b pos) (tItX C sp E ta tb) := by
  subst hK
  refine ⟨fun pins s σ H Q I h => ?_⟩
  refine Subscript_ (binT ha hb2 I h fun v u s2 x y H2 I2 rx ry q => ?_)
  obtain ⟨a, dx, fs, rfl, ha, q⟩ := q
  cases (show v = Value.ref a from rx)
  obtain ⟨mA, J, _⟩ := ins_get I2.hok ha
  obtain ⟨od, J, _⟩ := J.look
  obtain ⟨m, hF⟩ := I2.fr
  have hl : ([Value.ref a, u] : List Value).length = ps.length := by rw [← F.len _ _ _ _ q]; rfl
  refine PySem.W.sub_K hF I2.ok.mod.kin J hm.at_ hf hm.fn ?_ (hs _ _)
  refine wpAny_call (codeAny_mono (F.run X.A.in1 X.stack s2 H2 ⟨[.ref a, u], []⟩ [.ref a, u] [.ref a, y] Q (E σ) hr.in1 I2.env0.in1 (by have := hb s2 [.ref a, u] I2.kIn (by rw [List.append_nil]; exact hl); rwa [List.append_nil] at this) (.cons rfl (.cons ry .nil)) q) fun r s' hq => ?_)
  cases r with
  | error e => exact hx σ pins H2 s2 e s' I2 hq
  | ok fl =>
    cases fl with
    | ret u => exact I2.after hq
    | next => exact False.elim hq
    | brk => exact False.elim hq
    | cont => exact False.elim hq
end
section
variable {α β γ δ ε : Type} {ra : Rp α} {rb : Rp β} {rc : Rp γ} {ta tb : TE} {Γ Γ1 Γ2 : List Sl} {K : PySem.W.Frag} {w : Rw α} {C : Addr} {names : List Str} {R : ER ε} {A : Amb} {D : Ends} {u : TS} {i : Nat} {x : α} {y : β}
theorem er_itX {m : α × β → Option (Res ε γ)} {z : Res ε γ} (ha : EvX (rIns C names w) ta Γ Γ1 x) (hb : EvX rb tb Γ1 Γ2 y) (e : m (x, y) = some z) :
    EvR R rc (fun E => tItX C (SpX R (wC (rIns C names w) (w1 rb)) rc m) E ta tb) Γ Γ2 z := fun A σ H B F E Q qo qe =>
  ha A σ H B F _ fun u H1 B1 F1 s1 k1 => hb A σ H1 B1 F1 _ fun v H2 B2 F2 s2 k2 => by
    have k1' := (rIns C names w).mono s2 k1
    obtain ⟨p, dx, vs, rfl, hp, l, kw⟩ := ob_ins F2.bh k1'
    exact ⟨p, dx, _, rfl, hp, B2, (x, y), z, F2.szt, F2.bh, ⟨_, _, rfl, k1', _, rfl, k2⟩, e, fun b hb H3 B3 v3 P k3 => qo b hb v3 H3 B3 (F2.after P) ((s1.trans s2).trans P.b0) k3, fun b hb cls d H3 B3 P k3 => qe b hb cls d H3 B3 (F2.after P) ((s1.trans s2).trans P.b0) k3⟩
theorem ev_itOk {m : α × β → Option (Res ε γ)} {z : Res ε γ} {c : γ} (E : L2.St → XK) (ha : EvX (rIns C names w) ta Γ Γ1 x) (hb : EvX rb tb Γ1 Γ2 y) (e : m (x, y) = some z) (e2 : okR z = some c) :
    EvX rc (tItX C (SpX R (wC (rIns C names w) (w1 rb)) rc m) E ta tb) Γ Γ2 c := ev_ok (er_itX ha hb e) (okR_eq e2) E
theorem sq_asgIt {W : WX} {m : α × β → Option (Res ε γ)} {z : Res ε γ} {k : γ → Option δ} {l : ε → Option δ} {q : δ} (ha : EvX (rIns C names w) ta Γ Γ1 x) (hb : EvX rb tb Γ1 Γ2 y) (e : m (x, y) = some z) (h : resX z k l = some q)
    (ko : ∀ y, k y = some q → Nx A (u D) (Γ2.set i (.imm rc y))) (ke : ∀ y, l y = some q → NxE W A Γ2 R y) : Nx A (tSeq (tAsg (tItX C (SpX R (wC (rIns C names w) (w1 rb)) rc m) (WE W) ta tb) (gName i)) u D) Γ :=
  sq_asgR (tf := fun E => tItX C (SpX R (wC (rIns C names w) (w1 rb)) rc m) E ta tb) (er_itX ha hb e) h ko ke
theorem sq_dropIt {W : WX} {m : α × β → Option (Res ε γ)} {z : Res ε γ} {k : γ → Option δ} {l : ε → Option δ} {q : δ} (ha : EvX (rIns C names w) ta Γ Γ1 x) (hb : EvX rb tb Γ1 Γ2 y) (e : m (x, y) = some z) (h : resX z k l = some q)
    (ko : ∀ y, k y = some q → Nx A (u D) Γ2) (ke : ∀ y, l y = some q → NxE W A Γ2 R y) : Nx A (tSeq (tDrop (tItX C (SpX R (wC (rIns C names w) (w1 rb)) rc m) (WE W) ta tb)) u D) Γ :=
  sq_dropR (tf := fun E => tItX C (SpX R (wC (rIns C names w) (w1 rb)) rc m) E ta tb) (er_itX ha hb e) h ko ke
end
/-! ### len(x), the truth of x: by an own __len__ -/
section
variable {prog : Program} {w : World} {A : Around} {E : Value → Shared → Prop} {s : Shared} {K : PySem.W.Frag} {x C f : Addr} {ox : Obj} {odd : Option Obj}
theorem truth_len {Q : Bool → Shared → Prop} (X : K.In s.heap) (I : PySem.W.InstAt s.heap x ox C odd) (hn : PySem.W.findIn K (.ref C) "__bool__" = some none) (hs : PySem.W.findIn K (.ref C) "__len__" = some (some (.ref f))) (hf : PySem.W.isFn K (.ref f) = true)
    (h : wpAny (model prog w) A.in1 (call (.ref f) [.ref x]) (PySem.W.LenBack fun v s' => ∃ n t, v = .int n t ∧ Q (n != 0) s') E s) : wpAny (model prog w) A (truthy (.ref x)) Q E s := by
  unfold truthy
  refine wpAny_bind (m := callSpecial? (.ref x) (Str.ofString "__bool__")) (wpAny_bind (wpAny_bind (I.type.here ((PySem.W.looks_findIn X hn).here (wpAny_pure ?_)))))
  refine wpAny_bind (wpAny_bind (I.type.here ((PySem.W.looks_findIn X hs).here ?_)))
  show wpAny _ _ (do let v ← runValue (.builtin "len" ⟨[Value.ref x], []⟩); _) _ _ _
  refine wpAny_bind (wpAny_mono (Q := fun v s' => ∃ n t, v = Value.int n t ∧ Q (n != 0) s') (wpAny_runValue (codeAny_builtin entry_len ?_)) (fun v s' hv => ?_) fun _ _ y => y)
  · rw [Around.under_plainId plain_len _]
    refine wpAny_mono (Q := fun fin s' => ∃ r, fin = .done (.ret r) ∧ ∃ n t, r = Value.int n t ∧ Q (n != 0) s') ?_ (fun fin s' h' => by obtain ⟨r, rfl, hq⟩ := h'; exact hq) fun _ _ e => e
    unfold Builtin.«len»
    refine wpAny_bind (m := oneArg "len" _) (wpAny_pure ?_)
    refine wpAny_bind (m := callSpecial? (.ref x) (Str.ofString "__len__")) (PySem.W.special_fn X I hs (beq_iff_eq.mp hf) (wpAny_mono h (fun r s' hr => ?_) fun _ _ y => y))
    cases r <;> first | exact hr.elim | skip
    rename_i n u
    obtain ⟨⟨h0, h1⟩, hq⟩ := hr
    refine wpAny_bind (wpAny_holding (wpAny_pure ?_))
    refine wpAny_bind (wpAny_letGo ?_)
    show wpAny _ _ (if n < 0 then _ else _) _ _ _
    rw [if_neg (by omega)]
    show wpAny _ _ (if n ≥ 2 ^ 63 then _ else _) _ _ _
    rw [if_neg (by omega)]
    exact wpAny_bind (wpAny_mkInt (wpAny_pure ⟨_, rfl, hq⟩))
  · obtain ⟨n, t, rfl, q⟩ := hv
    exact wpAny_pure q
end
section
variable {X : Cx} {CX : CXT} {C f : Addr} {fd : FuncData} {ps : List Str} {n : Nat} {sp : Sp} {E : XK} {K : PySem.W.Frag}
def rLenO (C : Addr) (sp : Sp) (E : XK) : List V → Hp → VK → Prop := fun xs H Q => ∃ a dx fs, xs = [V.ref a] ∧ H a = some (.ins C dx fs) ∧ sp [.ref a] H (fun z H' => ∃ k : Int, z = .int k ∧ 0 ≤ k ∧ k < 2 ^ 63 ∧ Q z H') E
theorem call_lenO (hm : Meth X.K C "__len__" f) (F : FnOk X.prog X.w X.K X.mg X.base CX n f fd ps sp) (hr : Room (n + 1) X.A) (hb : Binds X.K fd ps []) (hx : Passes CX X E) : CallR X (.builtin "len") (rLenO C sp E) := by
  intro pins s σ H xs us Q I r h
  obtain ⟨a, dx, fs, rfl, ha, q⟩ := h
  rw [Vals.ref1 r]
  obtain ⟨mA, J, _⟩ := ins_get I.hok ha
  obtain ⟨od, J, _⟩ := J.look
  obtain ⟨m, hF⟩ := I.fr
  refine PySem.W.len_K hF I.ok.mod.kin J hm.at_ hm.fn (wpAny_mono (run_fnA (us := [.ref a]) (vs := [.ref a]) F (Room.in1 hr) I.env0.in1 hb hx I (.cons rfl .nil) q) (fun w s' z => ?_) fun _ _ y => y)
  obtain ⟨z', H', I', rz, k, rfl, h0, h1, qz⟩ := z
  obtain ⟨t, rfl⟩ : ∃ t, w = Value.int k t := rz
  exact ⟨⟨h0, h1⟩, .int k, H', I'.tok _, ⟨_, rfl⟩, qz⟩
def rTruL (C : Addr) (sp : Sp) (E : XK) : V → Hp → (Bool → Hp → Prop) → Prop := fun x H Q => ∃ a dx fs, x = V.ref a ∧ H a = some (.ins C dx fs) ∧ sp [.ref a] H (fun z H' => ∃ k : Int, z = .int k ∧ 0 ≤ k ∧ k < 2 ^ 63 ∧ Q (!decide (k = 0)) H') E
theorem tru_lenO (hm : Meth X.K C "__len__" f) (nb : PySem.W.findIn X.K (.ref C) "__bool__" = some none) (F : FnOk X.prog X.w X.K X.mg X.base CX n f fd ps sp) (hr : Room (n + 1) X.A) (hb : Binds X.K fd ps []) (hx : Passes CX X E) : TruR X (rTruL C sp E) := by
  intro pins s σ H x v Q I rx h
  obtain ⟨a, dx, fs, rfl, ha, q⟩ := h
  cases (show v = Value.ref a from rx)
  obtain ⟨mA, J, _⟩ := ins_get I.hok ha
  obtain ⟨od, J, _⟩ := J.look
  refine truth_len I.kIn J nb hm.at_ hm.fn (wpAny_mono (run_fnA (us := [.ref a]) (vs := [.ref a]) F (Room.in1 hr) I.env0.in1 hb hx I (.cons rfl .nil) q) (fun w s' z => ?_) fun _ _ y => y)
  obtain ⟨z', H', I', rz, k, rfl, h0, h1, qz⟩ := z
  obtain ⟨t, rfl⟩ : ∃ t, w = Value.int k t := rz
  refine ⟨⟨h0, h1⟩, k, _, rfl, H', I'.tok _, ?_⟩
  rw [show (k != 0) = !decide (k = 0) from rfl]
  exact qz
end
section
variable {prog : Program} {w : World} {A : Around} {E : Value → Shared → Prop} {s : Shared} {x : Addr}
theorem bool_tr {Q : Bool → Shared → Prop} (h : wpAny (model prog w) A.in1.in1 (truthy (.ref x)) Q E s) : wpAny (model prog w) A (call (.type "bool") [.ref x]) (fun v s' => ∃ b, v = .bool b ∧ Q b s') E s := by
  refine callType_codes (T := "bool") (Bi := Builtin.«object.__init__») (Q₁ := fun r s₁ => ∃ b, r = Value.bool b ∧ Q b s₁) PySem.F.called_bool (PySem.F.typeCall_bool_1 _) PySem.F.entry_object_init ?_ ?_
  · refine codeAny_of_tree ?_
    show wpAny _ A.in1.in1 (do checkBuiltinCall "bool.__new__" ⟨[.type "bool", .ref x], []⟩; again (.builtin "bool.__new__" ⟨[.type "bool", .ref x], []⟩)) _ _ s
    refine wpAny_bind (wpAny_of_eq (PySem.F.newCall_bool_1 _) (wpAny_pure ⟨plainId_quiet (by decide +kernel) _, codeAny_builtin PySem.F.entry_bool_new ?_⟩))
    rw [Around.under_plainId (by decide +kernel) _]
    unfold Builtin.«bool.__new__»
    refine wpAny_bind (wpAny_of_eq (a := true) (by first | rfl | kernel_rfl | (unfold isType; rw [isSubtype_type]; kernel_rfl)) ?_)
    refine PySem.W.KFB.if_not rfl ?_
    refine wpAny_bind (wpAny_of_eq (a := true) PySem.F.conv_sub_bool ?_)
    refine PySem.W.KFB.if_not rfl ?_
    refine wpAny_bind (wpAny_of_eq (a := [.ref x]) rfl ?_)
    show wpAny _ _ (do let b ← truthy (.ref x); ret (.bool b)) _ _ s
    exact wpAny_bind (wpAny_mono h (fun b s₁ hr => wpAny_pure ⟨b, rfl, hr⟩) fun _ _ y => y)
  · rintro obj s₁ ⟨b, rfl, hq⟩
    exact ⟨rfl, PySem.F.args_object_init_2 _ _, object_init_meets PySem.F.called_bool.init.lookup PySem.F.called_bool.made (by decide) prog w A.in1 _ s₁ ⟨rfl, rfl, b, rfl, hq⟩⟩
end
section
variable {X : Cx} {CX : CXT} {C f : Addr} {fd : FuncData} {ps : List Str} {n : Nat} {sp : Sp} {E : XK} {K : PySem.W.Frag}
def rBoolL (C : Addr) (sp : Sp) (E : XK) : List V → Hp → VK → Prop := fun xs H Q => ∃ a dx fs, xs = [V.ref a] ∧ H a = some (.ins C dx fs) ∧ sp [.ref a] H (fun z H' => ∃ k : Int, z = .int k ∧ 0 ≤ k ∧ k < 2 ^ 63 ∧ Q (.bl (!decide (k = 0))) H') E
theorem call_boolL (hm : Meth X.K C "__len__" f) (nb : PySem.W.findIn X.K (.ref C) "__bool__" = some none) (F : FnOk X.prog X.w X.K X.mg X.base CX n f fd ps sp) (hr : Room (n + 3) X.A) (hb : Binds X.K fd ps []) (hx : Passes CX X E) : CallR X (.type "bool") (rBoolL C sp E) := by
  intro pins s σ H xs us Q I r h
  obtain ⟨a, dx, fs, rfl, ha, q⟩ := h
  rw [Vals.ref1 r]
  obtain ⟨mA, J, _⟩ := ins_get I.hok ha
  obtain ⟨od, J, _⟩ := J.look
  have hr3 : Room n X.A.in1.in1.in1 := ((show Room (n + 2) X.A.in1 from Room.in1 hr).in1).in1
  refine wpAny_mono (bool_tr (Q := fun b s' => EP X pins σ Q (.bool b) s') (truth_len I.kIn J nb hm.at_ hm.fn (wpAny_mono (run_fnA (us := [.ref a]) (vs := [.ref a]) F hr3 I.env0.in1.in1.in1 hb hx I (.cons rfl .nil) q) (fun w s' z => ?_) fun _ _ y => y))) (fun w s' z => ?_) fun _ _ y => y
  · obtain ⟨z', H', I', rz, k, rfl, h0, h1, qz⟩ := z
    obtain ⟨t, rfl⟩ : ∃ t, w = Value.int k t := rz
    exact ⟨⟨h0, h1⟩, k, _, rfl, .bl _, H', I'.tok _, rfl, qz⟩
  · obtain ⟨b, rfl, z⟩ := z
    exact z
end
def lenOK (k : Int) : Option Int := if 0 ≤ k ∧ k < 9223372036854775808 then some k else none
section
variable {α β γ : Type} {te : TE} {Γ Γ1 : List Sl} {w : Rw α} {C : Addr} {names : List Str} {x : α} {E : XK}
theorem lenOK_eq {k b : Int} (h : lenOK k = some b) : b = k ∧ 0 ≤ k ∧ k < 2 ^ 63 := by
  unfold lenOK at h
  split at h
  · rename_i q; cases h; exact ⟨rfl, q.1, q.2⟩
  · cases h
theorem ev_lenO {m : α → Option Int} {b c : Int} (h : EvX (rIns C names w) te Γ Γ1 x) (e : m x = some b) (e2 : lenOK b = some c) : EvX rInt (tCB (rLenO C (SpP (w1 (rIns C names w)) rInt m) E) (tCons te tNil)) Γ Γ1 c := fun A σ H B F Q q => h A σ H B F _ fun v H1 B1 F1 s1 k1 => by
  obtain ⟨p, dx, vs, rfl, hp, l, kw⟩ := ob_ins F1.bh k1
  obtain ⟨rfl, h0, h1⟩ := lenOK_eq e2
  exact ⟨p, dx, _, rfl, hp, B1, x, c, F1.szt, F1.bh, ⟨_, rfl, k1⟩, e, fun H3 B3 v3 P k3 => ⟨c, k3, h0, h1, q _ H3 B3 (F1.after P) (s1.trans P.b0) k3⟩⟩
theorem ev_boolL {m : α → Option Int} {b c : Int} (h : EvX (rIns C names w) te Γ Γ1 x) (e : m x = some b) (e2 : lenOK b = some c) : EvX rBool (tCB (rBoolL C (SpP (w1 (rIns C names w)) rInt m) E) (tCons te tNil)) Γ Γ1 (!decide (c = 0)) := fun A σ H B F Q q => h A σ H B F _ fun v H1 B1 F1 s1 k1 => by
  obtain ⟨p, dx, vs, rfl, hp, l, kw⟩ := ob_ins F1.bh k1
  obtain ⟨rfl, h0, h1⟩ := lenOK_eq e2
  exact ⟨p, dx, _, rfl, hp, B1, x, c, F1.szt, F1.bh, ⟨_, rfl, k1⟩, e, fun H3 B3 v3 P k3 => ⟨c, k3, h0, h1, q _ H3 B3 (F1.after P) (s1.trans P.b0) rfl⟩⟩
theorem et_lenO {m : α → Option Int} {b c : Int} (h : EvX (rIns C names w) te Γ Γ1 x) (e : m x = some b) (e2 : lenOK b = some c) : EvT (fun σ H Q => te σ H fun z H' => rTruL C (SpP (w1 (rIns C names w)) rInt m) E z H' Q) Γ Γ1 (!decide (c = 0)) := fun A σ H B F Q q => h A σ H B F _ fun v H1 B1 F1 s1 k1 => by
  obtain ⟨p, dx, vs, rfl, hp, l, kw⟩ := ob_ins F1.bh k1
  obtain ⟨rfl, h0, h1⟩ := lenOK_eq e2
  exact ⟨p, dx, _, rfl, hp, B1, x, c, F1.szt, F1.bh, ⟨_, rfl, k1⟩, e, fun H3 B3 v3 P k3 => ⟨c, k3, h0, h1, q H3 B3 (F1.after P) (s1.trans P.b0)⟩⟩
end
end G
namespace G
variable [TabL]
open PySem PySem.Spec PyProof.Rows L2
section
variable {α β γ δ : Type} {ra : Rp α} {rb : Rp β} {rc : Rp γ} {te : TE} {Γ Γ1 : List Sl} {x : α ⊕ β}
theorem nn_alt (h : NN ra) (k : NN rb) : NN (rAlt ra rb) := fun H v a q => by
  cases a with
  | inl a => exact h _ _ _ q
  | inr b => exact k _ _ _ q
instance [NoL ra] [NoL rb] : NoL (rAlt ra rb) := ⟨fun {B p vs v a} hp h => by
  cases a with
  | inl a => exact NoL.no (r := ra) hp h
  | inr b => exact NoL.no (r := rb) hp h⟩
theorem ev_altW {f : α → γ} {g : β → γ} (hl : ∀ a, EvX ra te Γ Γ1 a → EvX rc te Γ Γ1 (f a)) (hr : ∀ b, EvX rb te Γ Γ1 b → EvX rc te Γ Γ1 (g b)) (h : EvX (rAlt ra rb) te Γ Γ1 x) : EvX rc te Γ Γ1 (altO x f g) := ev_altO (T := fun te => te) hl hr h
/-- without the last of three -/
def dropR {α β γ : Type} : α ⊕ (β ⊕ γ) → Option (α ⊕ β)
  | .inl a => some (.inl a)
  | .inr (.inl b) => some (.inr b)
  | .inr (.inr _) => none
theorem ev_dropR {y : α ⊕ (β ⊕ γ)} {z : α ⊕ β} (h : EvX (rAlt ra (rAlt rb rc)) te Γ Γ1 y) (e : dropR y = some z) : EvX (rAlt ra rb) te Γ Γ1 z := by
  cases y with
  | inl a => cases e; exact ev_inl (un_inl h)
  | inr y =>
    cases y with
    | inl b => cases e; exact ev_inr (un_inl (un_inr h))
    | inr c => cases e
end
end G
namespace G
variable [TabL]
open PySem PySem.Spec PyProof.Rows L2
section
variable {X : Cx} {a : Expr} {ta : TE} {pos : Pos} {r : V → Hp → (Bool → Hp → Prop) → Prop} {Γ Γ1 : List Sl} {c : Int}
/-- not x, x's truth by a rule -/
theorem pe_notR (ha : PE X a ta) (hr : TruR X r) : PE X (.UnaryOp .Not a pos) (fun σ H Q => (fun σ H Q => ta σ H fun x H' => r x H' Q) σ H fun c H1 => Q (.bl (!c)) H1) := by
  refine ⟨fun pins s σ H Q I h => ?_⟩
  refine UnaryOp_ (thn (ha.run pins s σ H _ I h) fun v s1 ⟨x, H1, I1, r1, q1⟩ => ?_)
  exact not_of (thn (hr pins s1 σ H1 x v (fun c H2 => Q (.bl (!c)) H2) I1 r1 q1) fun c s2 ⟨H2, I2, q2⟩ => ⟨.bl (!c), H2, I2, rfl, q2⟩)
theorem ev_notL {tt : TT} (h : EvT tt Γ Γ1 (!decide (c = 0))) : EvX rBool (fun σ H Q => tt σ H fun c H1 => Q (.bl (!c)) H1) Γ Γ1 (decide (c = 0)) := fun A σ H B F Q q => h A σ H B F _ fun H' B' F' s => q _ H' B' F' s (by rw [Bool.not_not]; rfl)
end
end G

set_option maxHeartbeats 4000000
/-! # G: what may raise, in each kind of statement -/
namespace G
variable [TabL]
open PySem PySem.Spec PyProof.Rows L2
section
variable {α β γ δ κ ρ ε : Type} {r : Rp α} {rb : Rp β} {rc : Rp γ} {ta tb : TE} {t : TA} {Γ Γ1 Γ2 : List Sl} {K : PySem.W.Frag} {w : Rw α} {C : Addr} {names : List Str} {R : ER ε} {tf : (L2.St → XK) → TE} {A : Amb} {D : Ends} {u : TS} {i : Nat} {W : WX}
/-- an error leaves the def -/
theorem nxe_out {E : XK} {e : ε} (k : RtE A R e E) : NxE (fun cls d _ H => E cls d H) A Γ R e := fun cls d σ H B F he => k cls d H B F.post he
theorem sq_retR {x : Res ε γ} {k : γ → Option δ} {l : ε → Option δ} {z : δ} (h : EvR R rc tf Γ Γ1 x) (e : resX x k l = some z) (ko : ∀ y, k y = some z → Rt A (psi rc) y D.rt) (ke : ∀ y, l y = some z → NxE W A Γ1 R y) : Nx A (tSeq (tRet (tf (WE W))) u D) Γ := fun σ H B F =>
  h A σ H B F (WE W) _ (fun b hb v H' B' F' _ q => ko b (by rw [hb] at e; exact e) H' B' v F'.post q) (fun y hy cls d H' B' F' _ q => ke y (by rw [hy] at e; exact e) _ _ _ _ _ F' q)
theorem sq_fldR {C0 : Addr} {names0 : List Str} {p : Addr} {nm0 : Str} {w0' : Rw β} {w' : Rw ρ} {f : β → γ → ρ} {a0 : β} {x : Res ε γ} {k : γ → Option δ} {l : ε → Option δ} {z : δ} (h : EvR R rc tf Γ Γ1 x) (e : resX x k l = some z)
    (hi : Γ1[i]? = some (.cel p (cIns C0 names0 w0') a0)) (sn : Snoc w0' rc w' f) (nn : nm0 ∉ names0) (hl : names0.length < 900) (c : Cls K C0) (na : NoAttr K C0 nm0)
    (ko : ∀ y, k y = some z → Nx A (u D) (Γ1.set i (.cel p (cIns C0 (names0 ++ [nm0]) w') (f a0 y)))) (ke : ∀ y, l y = some z → NxE W A Γ1 R y) : Nx A (tSeq (sFld K (tVar i) (tf (WE W)) nm0) u D) Γ := fun σ H B F =>
  h A σ H B F (WE W) _ (fun b hb v H1 B1 F1 s1 k1 => by
    obtain ⟨e', o, ho, dx, vs, rfl, l', kw⟩ := cel_at F1 hi
    refine ⟨_, e', p, C0, dx, _, rfl, ho, c, na, by rw [List.length_zip]; omega, ?_⟩
    exact ko b (by rw [hb] at e; exact e) σ _ B1 (F1.write hi (c' := cIns C0 (names0 ++ [nm0]) w') (o' := .ins C0 dx (putF nm0 v (names0.zip vs))) ⟨dx, vs ++ [v], by rw [putF_zip nn l'], by rw [List.length_append, List.length_append, l']; rfl, sn B1 vs a0 v b kw k1⟩ trivial)) (fun y hy cls d H' B' F' _ q => ke y (by rw [hy] at e; exact e) _ _ _ _ _ F' q)
theorem xaCall {wg : Rw κ} {m : κ → Option (Res ε γ)} {a : κ} {x : Res ε γ} (h : EvW wg t Γ Γ1 a) (e : m a = some x) {k : γ → Option δ} {l : ε → Option δ} {z : δ} (q : resX x k l = some z)
    (ko : ∀ y, k y = some z → Nx A (u D) (Γ1.set i (.imm rc y))) (ke : ∀ y, l y = some z → NxE W A Γ1 R y) : Nx A (tSeq (tAsg ((fun E => tCallS (SpX R wg rc m) E t) (WE W)) (gName i)) u D) Γ := sq_asgR (tf := fun E => tCallS (SpX R wg rc m) E t) (er_callX h e) q ko ke
theorem xdCall {wg : Rw κ} {m : κ → Option (Res ε γ)} {a : κ} {x : Res ε γ} (h : EvW wg t Γ Γ1 a) (e : m a = some x) {k : γ → Option δ} {l : ε → Option δ} {z : δ} (q : resX x k l = some z)
    (ko : ∀ y, k y = some z → Nx A (u D) Γ1) (ke : ∀ y, l y = some z → NxE W A Γ1 R y) : Nx A (tSeq (tDrop ((fun E => tCallS (SpX R wg rc m) E t) (WE W))) u D) Γ := sq_dropR (r := rc) (tf := fun E => tCallS (SpX R wg rc m) E t) (er_callX h e) q ko ke
theorem xrCall {wg : Rw κ} {m : κ → Option (Res ε γ)} {a : κ} {x : Res ε γ} (h : EvW wg t Γ Γ1 a) (e : m a = some x) {k : γ → Option δ} {l : ε → Option δ} {z : δ} (q : resX x k l = some z)
    (ko : ∀ y, k y = some z → Rt A (psi rc) y D.rt) (ke : ∀ y, l y = some z → NxE W A Γ1 R y) : Nx A (tSeq (tRet ((fun E => tCallS (SpX R wg rc m) E t) (WE W))) u D) Γ := sq_retR (tf := fun E => tCallS (SpX R wg rc m) E t) (er_callX h e) q ko ke
theorem xfCall {C0 : Addr} {names0 : List Str} {p : Addr} {nm0 : Str} {δ0 : Type} {w0' : Rw δ0} {w' : Rw ρ} {f : δ0 → γ → ρ} {a0 : δ0} {wg : Rw κ} {m : κ → Option (Res ε γ)} {a : κ} {x : Res ε γ} (h : EvW wg t Γ Γ1 a) (e : m a = some x) {k : γ → Option δ} {l : ε → Option δ} {z : δ} (q : resX x k l = some z)
    (hi : Γ1[i]? = some (.cel p (cIns C0 names0 w0') a0)) (sn : Snoc w0' rc w' f) (nn : nm0 ∉ names0) (hl : names0.length < 900) (c : Cls K C0) (na : NoAttr K C0 nm0)
    (ko : ∀ y, k y = some z → Nx A (u D) (Γ1.set i (.cel p (cIns C0 (names0 ++ [nm0]) w') (f a0 y)))) (ke : ∀ y, l y = some z → NxE W A Γ1 R y) : Nx A (tSeq (sFld K (tVar i) ((fun E => tCallS (SpX R wg rc m) E t) (WE W)) nm0) u D) Γ := sq_fldR (tf := fun E => tCallS (SpX R wg rc m) E t) (er_callX h e) q hi sn nn hl c na ko ke
theorem xaMake {wg : Rw κ} {wb : Rw γ} {m : κ → Option (Res ε γ)} {a : κ} {x : Res ε γ} (hmono : ∀ {H H' : Hp} {cls d e}, Same H H' → R H cls d e → R H' cls d e) (h : EvW wg t Γ Γ1 a) (e : m a = some x) {k : γ → Option δ} {l : ε → Option δ} {z : δ} (q : resX x k l = some z)
    (ko : ∀ y, k y = some z → Nx A (u D) (Γ1.set i (.imm (rIns C names wb) y))) (ke : ∀ y, l y = some z → NxE W A Γ1 R y) : Nx A (tSeq (tAsg ((fun E => tMakeS C (SpI R C wg (cIns C names wb) m) E t) (WE W)) (gName i)) u D) Γ := sq_asgR (tf := fun E => tMakeS C (SpI R C wg (cIns C names wb) m) E t) (er_make hmono h e) q ko ke
theorem xdMake {wg : Rw κ} {wb : Rw γ} {m : κ → Option (Res ε γ)} {a : κ} {x : Res ε γ} (hmono : ∀ {H H' : Hp} {cls d e}, Same H H' → R H cls d e → R H' cls d e) (h : EvW wg t Γ Γ1 a) (e : m a = some x) {k : γ → Option δ} {l : ε → Option δ} {z : δ} (q : resX x k l = some z)
    (ko : ∀ y, k y = some z → Nx A (u D) Γ1) (ke : ∀ y, l y = some z → NxE W A Γ1 R y) : Nx A (tSeq (tDrop ((fun E => tMakeS C (SpI R C wg (cIns C names wb) m) E t) (WE W))) u D) Γ := sq_dropR (r := (rIns C names wb)) (tf := fun E => tMakeS C (SpI R C wg (cIns C names wb) m) E t) (er_make hmono h e) q ko ke
theorem xrMake {wg : Rw κ} {wb : Rw γ} {m : κ → Option (Res ε γ)} {a : κ} {x : Res ε γ} (hmono : ∀ {H H' : Hp} {cls d e}, Same H H' → R H cls d e → R H' cls d e) (h : EvW wg t Γ Γ1 a) (e : m a = some x) {k : γ → Option δ} {l : ε → Option δ} {z : δ} (q : resX x k l = some z)
    (ko : ∀ y, k y = some z → Rt A (psi (rIns C names wb)) y D.rt) (ke : ∀ y, l y = some z → NxE W A Γ1 R y) : Nx A (tSeq (tRet ((fun E => tMakeS C (SpI R C wg (cIns C names wb) m) E t) (WE W))) u D) Γ := sq_retR (tf := fun E => tMakeS C (SpI R C wg (cIns C names wb) m) E t) (er_make hmono h e) q ko ke
theorem xfMake {C0 : Addr} {names0 : List Str} {p : Addr} {nm0 : Str} {δ0 : Type} {w0' : Rw δ0} {w' : Rw ρ} {f : δ0 → γ → ρ} {a0 : δ0} {wg : Rw κ} {wb : Rw γ} {m : κ → Option (Res ε γ)} {a : κ} {x : Res ε γ} (hmono : ∀ {H H' : Hp} {cls d e}, Same H H' → R H cls d e → R H' cls d e) (h : EvW wg t Γ Γ1 a) (e : m a = some x) {k : γ → Option δ} {l : ε → Option δ} {z : δ} (q : resX x k l = some z)
    (hi : Γ1[i]? = some (.cel p (cIns C0 names0 w0') a0)) (sn : Snoc w0' (rIns C names wb) w' f) (nn : nm0 ∉ names0) (hl : names0.length < 900) (c : Cls K C0) (na : NoAttr K C0 nm0)
    (ko : ∀ y, k y = some z → Nx A (u D) (Γ1.set i (.cel p (cIns C0 (names0 ++ [nm0]) w') (f a0 y)))) (ke : ∀ y, l y = some z → NxE W A Γ1 R y) : Nx A (tSeq (sFld K (tVar i) ((fun E => tMakeS C (SpI R C wg (cIns C names wb) m) E t) (WE W)) nm0) u D) Γ := sq_fldR (tf := fun E => tMakeS C (SpI R C wg (cIns C names wb) m) E t) (er_make hmono h e) q hi sn nn hl c na ko ke
theorem xaBin {m : α × α → Option (Res ε γ)} {x : Res ε γ} {y1 y2 : α} (h : EvX (rIns C names w) ta Γ Γ1 y1) (h2 : EvX (rIns C names w) tb Γ1 Γ2 y2) (e : m (y1, y2) = some x) {k : γ → Option δ} {l : ε → Option δ} {z : δ} (q : resX x k l = some z)
    (ko : ∀ y, k y = some z → Nx A (u D) (Γ2.set i (.imm rc y))) (ke : ∀ y, l y = some z → NxE W A Γ2 R y) : Nx A (tSeq (tAsg ((fun E => tBinX C (SpX R (wC (rIns C names w) (w1 (rIns C names w))) rc m) E ta tb) (WE W)) (gName i)) u D) Γ := sq_asgR (tf := fun E => tBinX C (SpX R (wC (rIns C names w) (w1 (rIns C names w))) rc m) E ta tb) (er_binX h h2 e) q ko ke
theorem xdBin {m : α × α → Option (Res ε γ)} {x : Res ε γ} {y1 y2 : α} (h : EvX (rIns C names w) ta Γ Γ1 y1) (h2 : EvX (rIns C names w) tb Γ1 Γ2 y2) (e : m (y1, y2) = some x) {k : γ → Option δ} {l : ε → Option δ} {z : δ} (q : resX x k l = some z)
    (ko : ∀ y, k y = some z → Nx A (u D) Γ2) (ke : ∀ y, l y = some z → NxE W A Γ2 R y) : Nx A (tSeq (tDrop ((fun E => tBinX C (SpX R (wC (rIns C names w) (w1 (rIns C names w))) rc m) E ta tb) (WE W))) u D) Γ := sq_dropR (r := rc) (tf := fun E => tBinX C (SpX R (wC (rIns C names w) (w1 (rIns C names w))) rc m) E ta tb) (er_binX h h2 e) q ko ke
theorem xrBin {m : α × α → Option (Res ε γ)} {x : Res ε γ} {y1 y2 : α} (h : EvX (rIns C names w) ta Γ Γ1 y1) (h2 : EvX (rIns C names w) tb Γ1 Γ2 y2) (e : m (y1, y2) = some x) {k : γ → Option δ} {l : ε → Option δ} {z : δ} (q : resX x k l = some z)
    (ko : ∀ y, k y = some z → Rt A (psi rc) y D.rt) (ke : ∀ y, l y = some z → NxE W A Γ2 R y) : Nx A (tSeq (tRet ((fun E => tBinX C (SpX R (wC (rIns C names w) (w1 (rIns C names w))) rc m) E ta tb) (WE W))) u D) Γ := sq_retR (tf := fun E => tBinX C (SpX R (wC (rIns C names w) (w1 (rIns C names w))) rc m) E ta tb) (er_binX h h2 e) q ko ke
theorem xfBin {C0 : Addr} {names0 : List Str} {p : Addr} {nm0 : Str} {δ0 : Type} {w0' : Rw δ0} {w' : Rw ρ} {f : δ0 → γ → ρ} {a0 : δ0} {m : α × α → Option (Res ε γ)} {x : Res ε γ} {y1 y2 : α} (h : EvX (rIns C names w) ta Γ Γ1 y1) (h2 : EvX (rIns C names w) tb Γ1 Γ2 y2) (e : m (y1, y2) = some x) {k : γ → Option δ} {l : ε → Option δ} {z : δ} (q : resX x k l = some z)
    (hi : Γ2[i]? = some (.cel p (cIns C0 names0 w0') a0)) (sn : Snoc w0' rc w' f) (nn : nm0 ∉ names0) (hl : names0.length < 900) (c : Cls K C0) (na : NoAttr K C0 nm0)
    (ko : ∀ y, k y = some z → Nx A (u D) (Γ2.set i (.cel p (cIns C0 (names0 ++ [nm0]) w') (f a0 y)))) (ke : ∀ y, l y = some z → NxE W A Γ2 R y) : Nx A (tSeq (sFld K (tVar i) ((fun E => tBinX C (SpX R (wC (rIns C names w) (w1 (rIns C names w))) rc m) E ta tb) (WE W)) nm0) u D) Γ := sq_fldR (tf := fun E => tBinX C (SpX R (wC (rIns C names w) (w1 (rIns C names w))) rc m) E ta tb) (er_binX h h2 e) q hi sn nn hl c na ko ke
theorem xaIt {m : α × β → Option (Res ε γ)} {x : Res ε γ} {y1 : α} {y2 : β} (h : EvX (rIns C names w) ta Γ Γ1 y1) (h2 : EvX rb tb Γ1 Γ2 y2) (e : m (y1, y2) = some x) {k : γ → Option δ} {l : ε → Option δ} {z : δ} (q : resX x k l = some z)
    (ko : ∀ y, k y = some z → Nx A (u D) (Γ2.set i (.imm rc y))) (ke : ∀ y, l y = some z → NxE W A Γ2 R y) : Nx A (tSeq (tAsg ((fun E => tItX C (SpX R (wC (rIns C names w) (w1 rb)) rc m) E ta tb) (WE W)) (gName i)) u D) Γ := sq_asgR (tf := fun E => tItX C (SpX R (wC (rIns C names w) (w1 rb)) rc m) E ta tb) (er_itX h h2 e) q ko ke
theorem xdIt {m : α × β → Option (Res ε γ)} {x : Res ε γ} {y1 : α} {y2 : β} (h : EvX (rIns C names w) ta Γ Γ1 y1) (h2 : EvX rb tb Γ1 Γ2 y2) (e : m (y1, y2) = some x) {k : γ → Option δ} {l : ε → Option δ} {z : δ} (q : resX x k l = some z)
    (ko : ∀ y, k y = some z → Nx A (u D) Γ2) (ke : ∀ y, l y = some z → NxE W A Γ2 R y) : Nx A (tSeq (tDrop ((fun E => tItX C (SpX R (wC (rIns C names w) (w1 rb)) rc m) E ta tb) (WE W))) u D) Γ := sq_dropR (r := rc) (tf := fun E => tItX C (SpX R (wC (rIns C names w) (w1 rb)) rc m) E ta tb) (er_itX h h2 e) q ko ke
theorem xrIt {m : α × β → Option (Res ε γ)} {x : Res ε γ} {y1 : α} {y2 : β} (h : EvX (rIns C names w) ta Γ Γ1 y1) (h2 : EvX rb tb Γ1 Γ2 y2) (e : m (y1, y2) = some x) {k : γ → Option δ} {l : ε → Option δ} {z : δ} (q : resX x k l = some z)
    (ko : ∀ y, k y = some z → Rt A (psi rc) y D.rt) (ke : ∀ y, l y = some z → NxE W A Γ2 R y) : Nx A (tSeq (tRet ((fun E => tItX C (SpX R (wC (rIns C names w) (w1 rb)) rc m) E ta tb) (WE W))) u D) Γ := sq_retR (tf := fun E => tItX C (SpX R (wC (rIns C names w) (w1 rb)) rc m) E ta tb) (er_itX h h2 e) q ko ke
theorem xfIt {C0 : Addr} {names0 : List Str} {p : Addr} {nm0 : Str} {δ0 : Type} {w0' : Rw δ0} {w' : Rw ρ} {f : δ0 → γ → ρ} {a0 : δ0} {m : α × β → Option (Res ε γ)} {x : Res ε γ} {y1 : α} {y2 : β} (h : EvX (rIns C names w) ta Γ Γ1 y1) (h2 : EvX rb tb Γ1 Γ2 y2) (e : m (y1, y2) = some x) {k : γ → Option δ} {l : ε → Option δ} {z : δ} (q : resX x k l = some z)
    (hi : Γ2[i]? = some (.cel p (cIns C0 names0 w0') a0)) (sn : Snoc w0' rc w' f) (nn : nm0 ∉ names0) (hl : names0.length < 900) (c : Cls K C0) (na : NoAttr K C0 nm0)
    (ko : ∀ y, k y = some z → Nx A (u D) (Γ2.set i (.cel p (cIns C0 (names0 ++ [nm0]) w') (f a0 y)))) (ke : ∀ y, l y = some z → NxE W A Γ2 R y) : Nx A (tSeq (sFld K (tVar i) ((fun E => tItX C (SpX R (wC (rIns C names w) (w1 rb)) rc m) E ta tb) (WE W)) nm0) u D) Γ := sq_fldR (tf := fun E => tItX C (SpX R (wC (rIns C names w) (w1 rb)) rc m) E ta tb) (er_itX h h2 e) q hi sn nn hl c na ko ke
theorem xaMe {wg : Rw κ} {nm : Str} {m : α × κ → Option (Res ε γ)} {x : Res ε γ} {y1 : α} {a : κ} (h : EvX (rIns C names w) ta Γ Γ1 y1) (h2 : EvW wg t Γ1 Γ2 a) (e : m (y1, a) = some x) (hn : nm ∉ names) {k : γ → Option δ} {l : ε → Option δ} {z : δ} (q : resX x k l = some z)
    (ko : ∀ y, k y = some z → Nx A (u D) (Γ2.set i (.imm rc y))) (ke : ∀ y, l y = some z → NxE W A Γ2 R y) : Nx A (tSeq (tAsg ((fun E => tMx C nm (SpX R (wC (rIns C names w) wg) rc m) E ta t) (WE W)) (gName i)) u D) Γ := sq_asgR (tf := fun E => tMx C nm (SpX R (wC (rIns C names w) wg) rc m) E ta t) (er_meth h h2 e hn) q ko ke
theorem xdMe {wg : Rw κ} {nm : Str} {m : α × κ → Option (Res ε γ)} {x : Res ε γ} {y1 : α} {a : κ} (h : EvX (rIns C names w) ta Γ Γ1 y1) (h2 : EvW wg t Γ1 Γ2 a) (e : m (y1, a) = some x) (hn : nm ∉ names) {k : γ → Option δ} {l : ε → Option δ} {z : δ} (q : resX x k l = some z)
    (ko : ∀ y, k y = some z → Nx A (u D) Γ2) (ke : ∀ y, l y = some z → NxE W A Γ2 R y) : Nx A (tSeq (tDrop ((fun E => tMx C nm (SpX R (wC (rIns C names w) wg) rc m) E ta t) (WE W))) u D) Γ := sq_dropR (r := rc) (tf := fun E => tMx C nm (SpX R (wC (rIns C names w) wg) rc m) E ta t) (er_meth h h2 e hn) q ko ke
theorem xrMe {wg : Rw κ} {nm : Str} {m : α × κ → Option (Res ε γ)} {x : Res ε γ} {y1 : α} {a : κ} (h : EvX (rIns C names w) ta Γ Γ1 y1) (h2 : EvW wg t Γ1 Γ2 a) (e : m (y1, a) = some x) (hn : nm ∉ names) {k : γ → Option δ} {l : ε → Option δ} {z : δ} (q : resX x k l = some z)
    (ko : ∀ y, k y = some z → Rt A (psi rc) y D.rt) (ke : ∀ y, l y = some z → NxE W A Γ2 R y) : Nx A (tSeq (tRet ((fun E => tMx C nm (SpX R (wC (rIns C names w) wg) rc m) E ta t) (WE W))) u D) Γ := sq_retR (tf := fun E => tMx C nm (SpX R (wC (rIns C names w) wg) rc m) E ta t) (er_meth h h2 e hn) q ko ke
theorem xfMe {C0 : Addr} {names0 : List Str} {p : Addr} {nm0 : Str} {δ0 : Type} {w0' : Rw δ0} {w' : Rw ρ} {f : δ0 → γ → ρ} {a0 : δ0} {wg : Rw κ} {nm : Str} {m : α × κ → Option (Res ε γ)} {x : Res ε γ} {y1 : α} {a : κ} (h : EvX (rIns C names w) ta Γ Γ1 y1) (h2 : EvW wg t Γ1 Γ2 a) (e : m (y1, a) = some x) (hn : nm ∉ names) {k : γ → Option δ} {l : ε → Option δ} {z : δ} (q : resX x k l = some z)
    (hi : Γ2[i]? = some (.cel p (cIns C0 names0 w0') a0)) (sn : Snoc w0' rc w' f) (nn : nm0 ∉ names0) (hl : names0.length < 900) (c : Cls K C0) (na : NoAttr K C0 nm0)
    (ko : ∀ y, k y = some z → Nx A (u D) (Γ2.set i (.cel p (cIns C0 (names0 ++ [nm0]) w') (f a0 y)))) (ke : ∀ y, l y = some z → NxE W A Γ2 R y) : Nx A (tSeq (sFld K (tVar i) ((fun E => tMx C nm (SpX R (wC (rIns C names w) wg) rc m) E ta t) (WE W)) nm0) u D) Γ := sq_fldR (tf := fun E => tMx C nm (SpX R (wC (rIns C names w) wg) rc m) E ta t) (er_meth h h2 e hn) q hi sn nn hl c na ko ke
theorem xaSm {wg : Rw κ} {m : κ → Option (Res ε γ)} {a : κ} {x : Res ε γ} (h : EvW wg t Γ Γ1 a) (e : m a = some x) {k : γ → Option δ} {l : ε → Option δ} {z : δ} (q : resX x k l = some z)
    (ko : ∀ y, k y = some z → Nx A (u D) (Γ1.set i (.imm rc y))) (ke : ∀ y, l y = some z → NxE W A Γ1 R y) : Nx A (tSeq (tAsg ((fun E => tSm (SpX R wg rc m) E t) (WE W)) (gName i)) u D) Γ := sq_asgR (tf := fun E => tSm (SpX R wg rc m) E t) (er_sm h e) q ko ke
theorem xdSm {wg : Rw κ} {m : κ → Option (Res ε γ)} {a : κ} {x : Res ε γ} (h : EvW wg t Γ Γ1 a) (e : m a = some x) {k : γ → Option δ} {l : ε → Option δ} {z : δ} (q : resX x k l = some z)
    (ko : ∀ y, k y = some z → Nx A (u D) Γ1) (ke : ∀ y, l y = some z → NxE W A Γ1 R y) : Nx A (tSeq (tDrop ((fun E => tSm (SpX R wg rc m) E t) (WE W))) u D) Γ := sq_dropR (r := rc) (tf := fun E => tSm (SpX R wg rc m) E t) (er_sm h e) q ko ke
theorem xrSm {wg : Rw κ} {m : κ → Option (Res ε γ)} {a : κ} {x : Res ε γ} (h : EvW wg t Γ Γ1 a) (e : m a = some x) {k : γ → Option δ} {l : ε → Option δ} {z : δ} (q : resX x k l = some z)
    (ko : ∀ y, k y = some z → Rt A (psi rc) y D.rt) (ke : ∀ y, l y = some z → NxE W A Γ1 R y) : Nx A (tSeq (tRet ((fun E => tSm (SpX R wg rc m) E t) (WE W))) u D) Γ := sq_retR (tf := fun E => tSm (SpX R wg rc m) E t) (er_sm h e) q ko ke
theorem xfSm {C0 : Addr} {names0 : List Str} {p : Addr} {nm0 : Str} {δ0 : Type} {w0' : Rw δ0} {w' : Rw ρ} {f : δ0 → γ → ρ} {a0 : δ0} {wg : Rw κ} {m : κ → Option (Res ε γ)} {a : κ} {x : Res ε γ} (h : EvW wg t Γ Γ1 a) (e : m a = some x) {k : γ → Option δ} {l : ε → Option δ} {z : δ} (q : resX x k l = some z)
    (hi : Γ1[i]? = some (.cel p (cIns C0 names0 w0') a0)) (sn : Snoc w0' rc w' f) (nn : nm0 ∉ names0) (hl : names0.length < 900) (c : Cls K C0) (na : NoAttr K C0 nm0)
    (ko : ∀ y, k y = some z → Nx A (u D) (Γ1.set i (.cel p (cIns C0 (names0 ++ [nm0]) w') (f a0 y)))) (ke : ∀ y, l y = some z → NxE W A Γ1 R y) : Nx A (tSeq (sFld K (tVar i) ((fun E => tSm (SpX R wg rc m) E t) (WE W)) nm0) u D) Γ := sq_fldR (tf := fun E => tSm (SpX R wg rc m) E t) (er_sm h e) q hi sn nn hl c na ko ke
end
theorem binds_nil {K : PySem.W.Frag} {fd : FuncData} {ps : List Str} {ds : List Value} (h : Binds K fd ps ds) (v : Vals [] ds) : Binds K fd ps [] := by
  cases v; exact h
end G

set_option maxHeartbeats 4000000
/-! # G: dicts whose keys are numbers or texts, the object known -/
namespace G
variable [TabL]
open PySem PySem.Spec PyProof.Rows L2
abbrev FE := L2.Key × V
def RawF (P : Program) (w : World) (a : Addr) (o : Obj) (kvs : List FE) (h : Heap) : Prop :=
  kvs.length ≤ sizeLine ∧ (a == sysModules) = false ∧ ∃ vs, KV kvs vs ∧ h.get? a = some o ∧ ∃ es ep, o.ExactDict ∧ o.data = .dict es ep ∧ KeysOf (mixKind P w) es ∧ Pairs (mixKind P w) es.toList vs ∧ (vs.map (·.1)).Nodup
/-- a dict with such keys, at a: the object o -/
def dFO (P : Program) (w : World) (a : Addr) (o : Obj) (kvs : List FE) : HO := .ext (RawF P w a o kvs)
section
variable {P : Program} {w : World} {H : Hp} {h : Heap} {a : Addr} {o : Obj} {kvs : List FE}
theorem df_mk (r : RawF P w a o kvs h) : ObjOk P w H h a (dFO P w a o kvs) := by
  refine ⟨r, ?_, fun h1 h2 r k => ?_⟩
  · obtain ⟨_, _, _, _, e, _⟩ := r; exact ⟨o, e⟩
  · obtain ⟨z, y, vs, kn, e, q⟩ := r
    exact ⟨z, y, vs, kn, k o e, q⟩
theorem df_of (ok : HOk P w H h) (e : H a = some (dFO P w a o kvs)) : RawF P w a o kvs h := (show ObjOk P w H h a (dFO P w a o kvs) from ok a _ e).1
theorem df_dict (ok : HOk P w H h) (e : H a = some (dFO P w a o kvs)) : kvs.length ≤ sizeLine ∧ (a == sysModules) = false ∧ ∃ vs, KV kvs vs ∧ h.DictOf (mixKind P w) a vs := by
  obtain ⟨z, y, vs, kv, e1, es, ep, e2, e3, e4, e5, e6⟩ := df_of ok e
  exact ⟨z, y, vs, kv, o, es, ep, e1, e2, e3, e4, e5, e6⟩
/-- the object of a dict that is known by its pairs -/
theorem raw_of {vs : List (L2.Key × Value)} (z : kvs.length ≤ sizeLine) (y : (a == sysModules) = false) (kv : KV kvs vs) (dd : h.DictOf (mixKind P w) a vs) : ∃ o, RawF P w a o kvs h := by
  obtain ⟨o, es, ep, e1, e2, e3, e4, e5, e6⟩ := dd
  exact ⟨o, z, y, vs, kv, e1, es, ep, e2, e3, e4, e5, e6⟩
end
/-! ### readings -/
def tDNewF (P : Program) (w : World) : TE := fun _ H Q => ∀ p o, H p = none → Q (.ref p) (upd H p (dFO P w p o []))
/-- what the dict at x holds at the key y -/
def FGet (P : Program) (w : World) (H : Hp) (x y : V) (a : Addr) (r : Option V) : Prop := ∃ o kvs k, x = .ref a ∧ H a = some (dFO P w a o kvs) ∧ y = kV k ∧ r = valV kvs k
def tFGet (P : Program) (w : World) (td ty : TE) : TE := fun σ H Q => td σ H fun x H1 => ty σ H1 fun y H2 => ∃ a v, FGet P w H2 x y a (some v) ∧ Q v H2
def tFIn (P : Program) (w : World) (ty td : TE) : TE := fun σ H Q => ty σ H fun y H1 => td σ H1 fun x H2 => ∃ a o, FGet P w H2 x y a o ∧ Q (.bl o.isSome) H2
def tFNotIn (P : Program) (w : World) (ty td : TE) : TE := fun σ H Q => ty σ H fun y H1 => td σ H1 fun x H2 => ∃ a o, FGet P w H2 x y a o ∧ Q (.bl (!o.isSome)) H2
def tFGet1 (P : Program) (w : World) (td ty : TE) : TE := fun σ H Q => td σ H fun x H1 => (∃ a o kvs, x = .ref a ∧ H1 a = some (dFO P w a o kvs)) ∧ ty σ H1 fun y H2 => ∃ a o, FGet P w H2 x y a o ∧ Q (o.getD .non) H2
def tFGet2 (P : Program) (w : World) (td ty tz : TE) : TE := fun σ H Q => td σ H fun x H1 => (∃ a o kvs, x = .ref a ∧ H1 a = some (dFO P w a o kvs)) ∧ ty σ H1 fun y H2 => tz σ H2 fun z H3 => ∃ a o, FGet P w H3 x y a o ∧ Q (o.getD z) H3
def sFPut (P : Program) (w : World) (td ty tv : TE) : TS := fun D σ H => tv σ H fun v H1 => td σ H1 fun x H2 => ty σ H2 fun y H3 => ∃ a o kvs k, x = .ref a ∧ H3 a = some (dFO P w a o kvs) ∧ y = kV k ∧ kvs.length < sizeLine ∧ ∀ o', D.nx σ (upd H3 a (dFO P w a o' (putK kvs k v)))
section
variable {X : Cx} {o i e f value : Expr} {pos pos' tpos apos cpos : Pos} {td ty tz tv : TE}
theorem pe_dnewF : PE X (.Dict [] [] pos) (tDNewF X.prog X.w) := ⟨fun pins s σ H Q I h =>
  wpAny_Dict_empty ⟨.ref s.heap.objs.size, _, I.laid (a := s.heap.objs.size) (o := dFO X.prog X.w s.heap.objs.size { cls := .type "dict", data := .dict #[] } []) (t' := s.toks) (fun _ _ q => Heap.get?_push_of_some _ q) (Nat.le_refl _)
    (df_mk ⟨Nat.zero_le _, beq_eq_false_iff_ne.mpr (Ne.symm (Nat.ne_of_lt I.big)), [], .nil, Heap.get?_push_size _ rfl, #[], 0, ⟨rfl, rfl, rfl⟩, rfl, (fun e h => absurd h (by simp)), .nil, List.nodup_nil⟩), rfl, h _ _ (I.hok.fresh (Nat.le_refl _))⟩⟩
theorem fg_type {pins : List (Addr × Obj)} {σ : L2.St} {H : Hp} {s : Shared} {a : Addr} {ob : Obj} {kvs : List FE} (I : Inv X pins σ H s) (e : H a = some (dFO X.prog X.w a ob kvs)) : s.TypeIs (.ref a) "dict" ∧ (∀ b, Value.ref a = .ref b → ∃ ob, s.heap.get? b = some ob ∧ ob.dict = none) := by
  obtain ⟨_, _, vs, _, e1, es, ep, e2, _⟩ := df_of I.hok e
  exact ⟨⟨ob, e1, e2.1⟩, fun b q => by cases q; exact ⟨ob, e1, e2.2.1⟩⟩
theorem pe_fget (ho : PE X o td) (hi : PE X i ty) (hs : NoSl i) : PE X (.Subscript o i pos) (tFGet X.prog X.w td ty) := ⟨fun pins s σ H Q I h => by
  refine subD_of PySem.F.slot_dict_getitem.lookup hs (thn (ho.run pins s σ H _ I h) fun u s1 ⟨x, H1, I1, rx, q1⟩ => thn (hi.run pins s1 σ H1 _ I1 q1) fun iv s2 ⟨y, H2, I2, ry, a, v, g, q2⟩ => ?_)
  obtain ⟨od, kvs, k, rfl, hp, rfl, l⟩ := g
  obtain rfl : u = Value.ref a := rx
  obtain ⟨z, hd, vs, kv, dd⟩ := df_dict I2.hok hp
  obtain ⟨w', hw, rw'⟩ := RelO.some_of (v := v) (o := valueAt vs k) (by rw [l]; exact kv.val k)
  exact ⟨(fg_type I2 hp).1, wpAny_getItem_of (kV_is ry) dd.mapOf hw ⟨v, H2, I2.tok _, rw', q2⟩⟩⟩
theorem pc_fin (hi : PE X i ty) (ho : PE X o td) : PC X .In i o (tFIn X.prog X.w ty td) := ⟨fun pins s σ H Q I h => by
  refine thn (hi.run pins s σ H _ I h) fun iv s1 ⟨y, H1, I1, ry, q1⟩ => thn (ho.run pins s1 σ H1 _ I1 q1) fun u s2 ⟨x, H2, I2, rx, a, ov, g, q2⟩ => ?_
  obtain ⟨od, kvs, k, rfl, hp, rfl, rfl⟩ := g
  obtain rfl : u = Value.ref a := rx
  obtain ⟨z, hd, vs, kv, dd⟩ := df_dict I2.hok hp
  refine wpAny_in_of (kV_is ry) hd dd.mapOf ?_
  exact ⟨.bl _, H2, I2.tok _, by show _ = _; rw [(kv.val k).isSome_eq], q2⟩⟩
theorem pc_fnotin (hi : PE X i ty) (ho : PE X o td) : PC X .NotIn i o (tFNotIn X.prog X.w ty td) := ⟨fun pins s σ H Q I h => by
  refine thn (hi.run pins s σ H _ I h) fun iv s1 ⟨y, H1, I1, ry, q1⟩ => thn (ho.run pins s1 σ H1 _ I1 q1) fun u s2 ⟨x, H2, I2, rx, a, ov, g, q2⟩ => ?_
  obtain ⟨od, kvs, k, rfl, hp, rfl, rfl⟩ := g
  obtain rfl : u = Value.ref a := rx
  obtain ⟨z, hd, vs, kv, dd⟩ := df_dict I2.hok hp
  refine wpAny_notIn_of (kV_is ry) hd dd.mapOf ?_
  exact ⟨.bl _, H2, I2.tok _, by show _ = _; rw [(kv.val k).isSome_eq], q2⟩⟩
theorem pe_fget1 (ho : PE X o td) (he : PE X e ty) (m : M1 X o "get" apos e cpos) : PE X (.Call (.Attribute o "get" apos) [e] [] cpos) (tFGet1 X.prog X.w td ty) := ⟨fun pins s σ H Q I h => by
  refine wpAny_Call_method m.base m.few m.line PySem.F.plainAttrs_dict PySem.F.slot_dict_get PySem.F.type_dict_get (thn (ho.run pins s σ H _ I h) fun u s1 ⟨x, H1, I1, rx, q0, q1⟩ => ?_)
  obtain ⟨a0, o0, kvs0, ex0, hp0⟩ := q0
  subst ex0
  obtain rfl : u = Value.ref a0 := rx
  obtain ⟨t1, t2⟩ := fg_type I1 hp0
  refine ⟨t1, t2, ?_⟩
  rw [m.trees]
  refine Calls.callWith_builtin rfl (Calls.evalArgs_plain (Calls.spliced_cons (thn (he.run pins s1 σ H1 _ I1 q1) fun iv s2 ⟨y, H2, I2, ry, a, ov, g, q2⟩ => Calls.spliced_nil ?_)))
  obtain ⟨od, kvs, k, ex, hp, rfl, rfl⟩ := g
  cases ex
  obtain ⟨z, hd, vs, kv, dd⟩ := df_dict I2.hok hp
  exact call_meetsIn PySem.F.slot_dict_get dd.typeIs PySem.F.entry_dict_get (PySem.F.args_dict_get_2 _ _) (meets_dict_get (mixKind X.prog X.w) a0 (kV_is ry) hd) ⟨_, dd.mapOf, _, H2, I2.tok _, RelO.getD (d := V.non) (d' := Value.none) (kv.val k) (show Value.none = Value.none from rfl), q2⟩⟩
theorem pe_fget2 (ho : PE X o td) (he : PE X e ty) (hf : PE X f tz) (m : M2 X o "get" apos e f cpos) : PE X (.Call (.Attribute o "get" apos) [e, f] [] cpos) (tFGet2 X.prog X.w td ty tz) := ⟨fun pins s σ H Q I h => by
  refine wpAny_Call_method m.base m.few m.line PySem.F.plainAttrs_dict PySem.F.slot_dict_get PySem.F.type_dict_get (thn (ho.run pins s σ H _ I h) fun u s1 ⟨x, H1, I1, rx, q0, q1⟩ => ?_)
  obtain ⟨a0, o0, kvs0, ex0, hp0⟩ := q0
  subst ex0
  obtain rfl : u = Value.ref a0 := rx
  obtain ⟨t1, t2⟩ := fg_type I1 hp0
  refine ⟨t1, t2, ?_⟩
  rw [m.trees]
  refine Calls.callWith_builtin rfl (Calls.evalArgs_plain (Calls.spliced_cons (thn (he.run pins s1 σ H1 _ I1 q1) fun iv s2 ⟨y, H2, I2, ry, q2⟩ =>
    Calls.spliced_cons (thn (hf.run pins s2 σ H2 _ I2 q2) fun fv s3 ⟨z, H3, I3, rz, a, ov, g, q3⟩ => Calls.spliced_nil ?_))))
  obtain ⟨od, kvs, k, ex, hp, rfl, rfl⟩ := g
  cases ex
  obtain ⟨zz, hd, vs, kv, dd⟩ := df_dict I3.hok hp
  exact call_meetsIn PySem.F.slot_dict_get dd.typeIs PySem.F.entry_dict_get (PySem.F.args_dict_get_3 _ _ _) (meets_dict_get_default (mixKind X.prog X.w) a0 (kV_is ry) hd fv) ⟨_, dd.mapOf, _, H3, I3.tok _, (kv.val k).getD rz, q3⟩⟩
theorem ps_fput (ho : PE X o td) (hi : PE X i ty) (hv : PE X value tv) (hs : swapsWith value (some (.Subscript o i pos')) pos.line X.env = pure false) :
    PS X (.Assign [.Subscript o i pos'] value pos) (sFPut X.prog X.w td ty tv) := ⟨fun pins s σ H D I h => by
  refine wpAny_Assign_Subscript (thn (hv.run pins s σ H _ I h) fun r s1 ⟨v, H1, I1, rv, q1⟩ => thn (ho.run pins s1 σ H1 _ I1 q1) fun u s2 ⟨x, H2, I2, rx, q2⟩ => thn (hi.run pins s2 σ H2 _ I2 q2) fun iv s3 ⟨y, H3, I3, ry, a, od, kvs, k, ex, hp, ey, hl, q3⟩ => ?_) hs
  subst ex ey
  obtain rfl : u = Value.ref a := rx
  obtain ⟨z, hd, vs, kv, dd⟩ := df_dict I3.hok hp
  refine wpAny_setItem_pairs (knd := mixKind X.prog X.w) (hsz := by rw [← kv.length]; exact z) (kV_is ry) dd fun h' dd' hs => ?_
  have hl2 : (putK kvs k v).length ≤ sizeLine := by have := length_putK kvs k v; omega
  obtain ⟨q, r⟩ := raw_of (kvs := putK kvs k v) hl2 hd (kv.put k rv) dd'
  have he : ∃ q, h'.get? a = some q := let ⟨q, _, _, hq, _⟩ := dd'; ⟨q, hq⟩
  exact ⟨σ, _, d_write I3 (by rw [hp]; exact True.intro) hs he (df_mk r), q3 q⟩⟩
/-- a dict that the library made, its object taken hold of -/
def tExF (P : Program) (w : World) (t : TE) : TE := fun σ H Q => t σ H fun v H' => ∃ a kvs, v = .ref a ∧ H' a = some (.dK kvs) ∧ ∀ o, Q v (upd H' a (dFO P w a o kvs))
theorem pe_exF {t : TE} (h : PE X e t) : PE X e (tExF X.prog X.w t) := ⟨fun pins s σ H Q I q => by
  refine thn (h.run pins s σ H _ I q) fun u s1 ⟨v, H1, I1, rv, a, kvs, ev, ha, q1⟩ => ?_
  subst ev
  obtain ⟨z, hd, vs, kv, dd⟩ := dk_of I1.hok ha
  obtain ⟨ob, r⟩ := raw_of z hd kv dd
  have he : ∃ q, s1.heap.get? a = some q := let ⟨q, _, _, hq, _⟩ := dd; ⟨q, hq⟩
  exact ⟨.ref a, _, d_write (t' := s1.toks) I1 (by rw [ha]; exact True.intro) ⟨rfl, fun _ _ => rfl⟩ he (df_mk r), rv, q1 ob⟩⟩
end
theorem paired_of {α β : Type} {F : α → β → Prop} : ∀ {l₁ : List α} {l₂ : List β}, l₁.length = l₂.length → (∀ (i : Nat) (a : α) (b : β), l₁[i]? = some a → l₂[i]? = some b → F a b) → Paired F l₁ l₂
  | [], [], _, _ => .nil
  | [], _ :: _, e, _ => by cases e
  | _ :: _, [], e, _ => by cases e
  | a :: l₁, b :: l₂, e, h => .cons (h 0 a b rfl rfl) (paired_of (by simpa using e) fun i x y hx hy => h (i + 1) x y (by simpa using hx) (by simpa using hy))
/-! ### walks -/
def Itkf (P : Program) (w : World) (d : Addr) (o : Obj) (kvs : List FE) : It :=
  ⟨fun i H => H d = some (dFO P w d o kvs) ∧ i < kvs.length, fun i H x H' => H' = H ∧ ∃ e, kvs[i]? = some e ∧ x = kV e.1, fun i H => H d = some (dFO P w d o kvs) ∧ kvs.length ≤ i⟩
def Itvf (P : Program) (w : World) (d : Addr) (o : Obj) (kvs : List FE) : It :=
  ⟨fun i H => H d = some (dFO P w d o kvs) ∧ i < kvs.length, fun i H x H' => H' = H ∧ ∃ e, kvs[i]? = some e ∧ x = e.2, fun i H => H d = some (dFO P w d o kvs) ∧ kvs.length ≤ i⟩
theorem pairs_at {P : Program} {w : World} {es : List DictEntry} {vs : List (L2.Key × Value)} (h : Pairs (mixKind P w) es vs) : ∀ (i : Nat) (q : L2.Key × Value), vs[i]? = some q → ∃ en, es[i]? = some en ∧ keyIs q.1 en.key = true ∧ en.val = q.2 := by
  induction h with
  | nil => intro i q e; simp at e
  | cons h1 h2 t ih =>
    intro i q e
    cases i with
    | zero => cases e; exact ⟨_, rfl, h1, h2⟩
    | succ i => exact ih i q (by simpa using e)
section
variable {P : Program} {w : World} {K : PySem.W.Frag} {tg : Expr} {d : Addr} {o : Obj} {es : Array DictEntry} {ep : Nat}
theorem df_raw {H : Hp} {h : Heap} {kvs : List FE} (ok : HOk P w H h) (e : H d = some (dFO P w d o kvs)) : (d == sysModules) = false ∧ h.get? d = some o ∧ o.ExactDict ∧ ∃ es ep, o.data = .dict es ep ∧ es.size = kvs.length ∧ ∀ (i : Nat) (q : FE), kvs[i]? = some q → ∃ en : DictEntry, es[i]? = some en ∧ RelV (kV q.1) en.key ∧ RelV q.2 en.val := by
  obtain ⟨z, y, vs, kv, e1, es, ep, e2, e3, e4, e5, e6⟩ := df_of ok e
  refine ⟨y, e1, e2, es, ep, e3, ?_, fun i q hq => ?_⟩
  · have l1 := e5.length
    have l2 : kvs.length = vs.length := kv.length
    rw [Array.length_toList] at l1
    omega
  · obtain ⟨b, hb, k1, k2⟩ := paired_get kv hq
    obtain ⟨en, h1, h2, h3⟩ := pairs_at e5 i b hb
    refine ⟨en, by rw [← Array.getElem?_toList]; exact h1, ?_, by rw [h3]; exact k2⟩
    rw [k1]; exact relV_key h2
theorem turn_keysF {kvs : List FE} (it : Addr) (hod : o.data = .dict es ep) : Turn P w K tg (Itkf P w d o kvs) [it] it (fun i h => h.IsKeyIter it d i kvs.length ep) where
  mem := by simp
  obj := fun i h ⟨oi, e, c, dd⟩ b hb => by
    obtain rfl : b = it := by simpa using hb
    exact ⟨oi, e, fun v z => by rw [dd] at z; cases z⟩
  keep := fun i h h' st k => st.at fun oi e => k it (by simp) oi e
  item := by
    intro X hP hw hK hc i pins s σ H E I hf st hg
    subst hP; subst hw; subst hK
    obtain ⟨hd, hi⟩ := hg
    obtain ⟨f0, f1, f2, f3, f4, f5⟩ := hf it (by simp)
    obtain ⟨hs, hgd, hx, es', ep', hdt, hsz, ent⟩ := df_raw I.hok hd
    obtain ⟨rfl, rfl⟩ := dict_ep hod hdt
    obtain ⟨q, hq⟩ : ∃ q, kvs[i]? = some q := ⟨kvs[i], List.getElem?_eq_getElem hi⟩
    obtain ⟨en, hen, hkey, _⟩ := ent i q hq
    refine next_key_item st hgd hdt hsz hen fun h' st' sb => ?_
    have I1 : Inv X pins σ H { s with heap := h' } := I.turned (t' := s.toks) (fun b ob hb e => (sb.2 b hb).trans e) f0 f1 f3 f4 f5
    obtain ⟨oi, e, c, dd⟩ := id st'
    exact ⟨en.key, rfl, go_of (s := { s with heap := h' }) e c dd (by decide) ⟨kV q.1, H, I1, hkey, ⟨rfl, q, hq, rfl⟩, st', fun b hb => (hf b hb).1⟩⟩
  done := by
    intro X hP hw hK hc i pins s σ H E I hf st hg
    subst hP; subst hw; subst hK
    obtain ⟨hd, hi⟩ := hg
    obtain ⟨f0, f1, f2, f3, f4, f5⟩ := hf it (by simp)
    obtain ⟨hs, hgd, hx, es', ep', hdt, hsz, ent⟩ := df_raw I.hok hd
    obtain ⟨rfl, rfl⟩ := dict_ep hod hdt
    exact next_key_end (I.ok.hd hc) st hgd hdt hsz hi fun h' eb => ⟨rfl, I.turned (t' := s.toks) (fun b ob hb e => eb b ob hb e) f0 f1 f3 f4 f5⟩
  self := fun A i s Q E st h => by
    refine wpAny_pyIter_slot st.typeIs F.slot_dict_keyiterator_iter (wpAny_call_entry F.slot_dict_keyiterator_iter st.typeIs F.entry_dict_keyiterator_iter ?_ (F.args_dict_keyiterator_iter_1 _))
    show wpAny _ _ (ret (.ref it)) _ _ s
    exact wpAny_pure ⟨_, rfl, "dict_keyiterator", _, st.typeIs, F.slot_dict_keyiterator_next.lookup, h⟩
end
def iKeysF (P : Program) (w : World) (td : TE) : TI := fun σ H R => td σ H fun x H1 => ∃ d o kvs, x = .ref d ∧ H1 d = some (dFO P w d o kvs) ∧ R (Itkf P w d o kvs) H1
theorem pi_keysF {X : Cx} {tg e : Expr} {td : TE} (he : PE X e td) : PI X tg e (iKeysF X.prog X.w td) := ⟨fun pins s σ H R I h => by
  refine thn (he.run pins s σ H _ I h) fun u s1 ⟨x, H1, I1, rx, d, o, kvs, ex, hd, q⟩ => ?_
  subst ex
  obtain rfl : u = Value.ref d := rx
  obtain ⟨hs, hgd, hx, es, ep, hdt, hsz, ent⟩ := df_raw I1.hok hd
  refine iter_keys hs hgd hx hdt (pi_one (tk := s1.toks) I1 _ (turn_keysF _ hdt) ⟨_, Heap.get?_push_size _ rfl, rfl, ?_⟩ q)
  rw [hsz] <;> rfl⟩
def rListF (P : Program) (w : World) : List V → Hp → VK → Prop := fun xs H Q => ∃ d o kvs, xs = [V.ref d] ∧ H d = some (dFO P w d o kvs) ∧ ∀ p, H p = none → Q (.ref p) (upd H p (.lst (kvs.map fun e => kV e.1)))
theorem call_listF {X : Cx} (hc : X.calm = true) : CallR X (.type "list") (rListF X.prog X.w) := by
  intro pins s σ H xs us Q I r h
  obtain ⟨d, o, kvs, rfl, hd, q⟩ := h
  obtain ⟨u, rfl, rx⟩ := r.one
  cases rx
  obtain ⟨hs, ho, hx, es, ep, hdt, hsz, ent⟩ := df_raw I.hok hd
  have z := (df_of I.hok hd).1
  refine PySem.W.kdl_call (kdl_raw hs hx hdt) (I.ok.hd hc) ho (by omega) fun h' tk acc c' kp e it => ?_
  have hl : acc.toList.length = kvs.length := by rw [Array.length_toList, it.1]; exact hsz
  have rv : Vals (kvs.map fun e => kV e.1) acc.toList := by
    refine paired_of (by rw [List.length_map, hl]) fun j v u hv hu => ?_
    rw [List.getElem?_map] at hv
    cases hq : kvs[j]? with
    | none => rw [hq] at hv; cases hv
    | some q0 =>
      rw [hq] at hv; cases hv
      obtain ⟨en, hen, hv⟩ := it.2 j u (by rw [← Array.getElem?_toList]; exact hu)
      obtain ⟨en2, h2, hk, _⟩ := ent j _ hq
      rw [hen] at h2; cases h2
      rw [hv]; exact hk
  refine ⟨.ref s.heap.objs.size, _, I.laid (t' := tk) (o := .lst (kvs.map fun e => kV e.1)) kp (Nat.le_refl _) ?_, rfl, q _ (I.hok.fresh (Nat.le_refl _))⟩
  exact ⟨by rw [List.length_map]; exact z, acc.toList, c', rv, by rw [Array.toArray_toList]; exact e⟩
end G

set_option maxHeartbeats 4000000
/-! # G: such dicts: what an expression gives; new dicts at an address that is told -/
namespace G
variable [TabL]
open PySem PySem.Spec PyProof.Rows L2
/-- a new object whose content speaks of its address -/
def EvD {α : Type} (c : Addr → Cl α) (t : TE) (Γ Γ' : List Sl) (a : α) : Prop := ∀ (A : Amb) (σ : L2.St) (H B : Hp), Frm A σ H B Γ → ∀ Q : VK, (∀ p o H' B', Frm (A.add p o) σ H' B' Γ' → A.H0 p = none → Same B B' → (c p).ok B' o a → Q (.ref p) H') → t σ H Q
def rOp {α : Type} (c : Addr → Cl α) : Rp α := ⟨fun H v a => ∃ p o, v = .ref p ∧ H p = some o ∧ (c p).ok H o a, fun s ⟨p, o, e, h, k⟩ => ⟨p, o, e, s p o h, (c p).mono s k⟩⟩
section
variable {α β γ : Type} {c : Addr → Cl α} {te : TE} {Γ Γ1 Γ2 : List Sl} {a a' : α} {A : Amb} {D : Ends} {u : TS} {i : Nat}
theorem ed_to (h : EvD c te Γ Γ1 a) (e : a = a') : EvD c te Γ Γ1 a' := e ▸ h
theorem ev_newD (h : EvD c te Γ Γ1 a) : EvX (rOp c) te Γ Γ1 a := fun A σ H B F Q q => h A σ H B F Q fun p o H' B' F' n s k => by
  have hB : B' p = none := F'.hidB n F.sub
  have s' : Same B' (upd B' p o) := fun b u e => by rw [upd_ne (ne_of_none e hB)]; exact e
  exact q _ H' (upd B' p o) (F'.adopt n F.sub F.mh) (s.trans s') ⟨p, o, rfl, upd_same, (c p).mono s' k⟩
theorem sq_asgD (h : EvD c te Γ Γ1 a) (k : ∀ p, ¬ A.m p → Nx A (u D) (Γ1.set i (.cel p (c p) a))) : Nx A (tSeq (tAsg te (gName i)) u D) Γ := fun σ H B F => h A σ H B F _ fun p o H' B' F' n _ q =>
  k p (fun m => F.mh.al p m n) _ _ _ (F'.own1 n F.sub F.mh q)
theorem nn_op : NN (rOp c) := fun _ _ _ ⟨p, _, e, _⟩ e' => by rw [e'] at e; cases e
/-- what is handed back is changed no more -/
theorem sq_retCelD {b : α} {p : Addr} (hi : Γ[i]? = some (.cel p (c p) a)) (hm : ∀ q, ¬ A.m q) (e : some a = some b) (k : Rt A (psi (rOp c)) b D.rt) : Nx A (tSeq (tRet (tVar i)) u D) Γ := fun σ H B F => by
  cases e
  obtain ⟨o, ho, e1, s, Q, q⟩ := post_own F hi (hm p)
  obtain ⟨p', o', ev, hp', k'⟩ := q
  cases ev
  exact ⟨_, e1, k H _ _ Q ⟨p, o', rfl, hp', k'⟩⟩
/-- the frame's own dict is changed no more -/
theorem nx_freezeD {p : Addr} {P : L2.St → Hp → Prop} (i : Nat) (hp : ¬ A.m p) (e : Γ[i]? = some (.cel p (c p) a)) (h : Nx A P (Γ.set i (.imm (rOp c) a))) : Nx A P Γ := fun σ H B F => by
  obtain ⟨e1, n, m, o, ho, k⟩ := F.sl i _ e
  obtain ⟨B', _, F'⟩ := F.freeze hp e
  refine h σ H B' ?_
  have hl : i < Γ.length := (List.getElem?_eq_some_iff.mp e).1
  have := F'.put (σ' := σ) (i := i) (s' := .imm (rOp c) a) rfl (fun _ _ => rfl) fun ow hlt hs => ?_
  · rw [List.set_set] at this; exact this
  · obtain ⟨v, hv, q⟩ := hs _ (by rw [List.getElem?_set_self hl])
    have hv' : σ[i]? = some (some (V.ref p)) := e1
    rw [hv'] at hv
    cases hv
    obtain ⟨p', o', ev, hp', k'⟩ := q
    cases ev
    exact ⟨.ref p, e1, p, o', rfl, hp', k'⟩
end
section
variable {κ β α γ : Type} [DecidableEq κ] {rk : Rp κ} {rv : Rp β} {r : Rp α} {te ta tb tk tv tz : TE} {Γ Γ1 Γ2 Γ3 : List Sl} {P : Program} {w : World} {A : Amb} {D : Ends} {u : TS} {i j : Nat} {p : Addr}
def cDicF (P : Program) (w : World) (ky : Ky rk) (rv : Rp β) (p : Addr) : Cl (List (κ × β)) := ⟨fun H o l => ∃ ob kvs, o = dFO P w p ob kvs ∧ Paired (DRel ky rv H) kvs l, fun s ⟨ob, kvs, e, k⟩ => ⟨ob, kvs, e, Paired.imp2 (fun _ _ q => ⟨q.1, rv.mono s q.2⟩) k⟩⟩
abbrev rDicF (P : Program) (w : World) (ky : Ky rk) (rv : Rp β) : Rp (List (κ × β)) := rOp (cDicF P w ky rv)
theorem ob_dicF (ky : Ky rk) {B H : Hp} {u : V} {l : List (κ × β)} (s : Same B H) (h : (rDicF P w ky rv).rel B u l) : ∃ p o kvs, u = .ref p ∧ H p = some (dFO P w p o kvs) ∧ Paired (DRel ky rv B) kvs l := by
  obtain ⟨p, o, e, hp, ob, kvs, rfl, k⟩ := h
  exact ⟨p, ob, kvs, e, s _ _ hp, k⟩
theorem ed_newF (ky : Ky rk) (rv : Rp β) : EvD (cDicF P w ky rv) (tDNewF P w) Γ Γ [] := fun A σ H B F Q q p o hp =>
  q p _ _ B (F.fresh (o := dFO P w p o []) hp True.intro) (F.H0none hp) (Same.refl _) ⟨o, [], rfl, .nil⟩
theorem ed_exF (ky : Ky rk) {l : List (κ × β)} (h : EvC (cDic ky rv) te Γ Γ1 l) : EvD (cDicF P w ky rv) (tExF P w te) Γ Γ1 l := fun A σ H B F Q q => h A σ H B F _ fun p o H' B' F' n s k => by
  obtain ⟨kvs, rfl, kp⟩ := k
  exact ⟨p, kvs, rfl, F'.hid n F.mh, fun ob => q p _ _ B' (F'.hidset (o' := dFO P w p ob kvs) n F.mh F.sub True.intro) n s ⟨ob, kvs, rfl, kp⟩⟩
theorem ev_fin (ky : Ky rk) {k : κ} {l : List (κ × β)} (hk : EvX rk tk Γ Γ1 k) (hd : EvX (rDicF P w ky rv) ta Γ1 Γ2 l) : EvX rBool (tFIn P w tk ta) Γ Γ2 ((getM l k).isSome) := fun A σ H B F Q q =>
  hk A σ H B F _ fun y H1 B1 F1 s1 k1 => hd A σ H1 B1 F1 _ fun x H2 B2 F2 s2 k2 => by
    obtain ⟨p, o, kvs, rfl, hp, kp⟩ := ob_dicF ky F2.bh k2
    exact ⟨p, _, ⟨o, kvs, ky.key k, rfl, hp, ky.ok k1, rfl⟩, q _ _ _ F2 (s1.trans s2) (by show V.bl _ = V.bl _; rw [some_get ky kp])⟩
theorem ev_fnin (ky : Ky rk) {k : κ} {l : List (κ × β)} (hk : EvX rk tk Γ Γ1 k) (hd : EvX (rDicF P w ky rv) ta Γ1 Γ2 l) : EvX rBool (tFNotIn P w tk ta) Γ Γ2 (!(getM l k).isSome) := fun A σ H B F Q q =>
  hk A σ H B F _ fun y H1 B1 F1 s1 k1 => hd A σ H1 B1 F1 _ fun x H2 B2 F2 s2 k2 => by
    obtain ⟨p, o, kvs, rfl, hp, kp⟩ := ob_dicF ky F2.bh k2
    exact ⟨p, _, ⟨o, kvs, ky.key k, rfl, hp, ky.ok k1, rfl⟩, q _ _ _ F2 (s1.trans s2) (by show V.bl _ = V.bl _; rw [some_get ky kp])⟩
theorem ev_fget (ky : Ky rk) {k : κ} {l : List (κ × β)} {b : β} (hd : EvX (rDicF P w ky rv) ta Γ Γ1 l) (hk : EvX rk tk Γ1 Γ2 k) (e : getM l k = some b) : EvX rv (tFGet P w ta tk) Γ Γ2 b := fun A σ H B F Q q =>
  hd A σ H B F _ fun x H1 B1 F1 s1 k1 => hk A σ H1 B1 F1 _ fun y H2 B2 F2 s2 k2 => by
    obtain ⟨p, o, kvs, rfl, hp, kp⟩ := ob_dicF ky F2.bh ((rDicF P w ky rv).mono s2 k1)
    obtain ⟨v, ev, kv⟩ := (get_pair ky k kp).1 b e
    exact ⟨p, v, ⟨o, kvs, ky.key k, rfl, hp, ky.ok k2, ev.symm⟩, q _ _ _ F2 (s1.trans s2) kv⟩
theorem ev_fget1 (ky : Ky rk) (nn : NN rv) {k : κ} {l : List (κ × β)} (hd : EvX (rDicF P w ky rv) ta Γ Γ1 l) (hk : EvX rk tk Γ1 Γ2 k) : EvX (rOpt rv) (tFGet1 P w ta tk) Γ Γ2 (getM l k) := fun A σ H B F Q q =>
  hd A σ H B F _ fun x H1 B1 F1 s1 k1 => by
    obtain ⟨p, o, kvs, rfl, hp, kp⟩ := ob_dicF ky (Same.refl _) k1
    refine ⟨⟨p, o, kvs, rfl, F1.bh _ _ hp⟩, hk A σ H1 B1 F1 _ fun y H2 B2 F2 s2 k2 => ?_⟩
    have kp2 : Paired (DRel ky rv B2) kvs l := Paired.imp2 (fun _ _ q => ⟨q.1, rv.mono s2 q.2⟩) kp
    refine ⟨p, _, ⟨o, kvs, ky.key k, rfl, F2.bh _ _ (s2 _ _ hp), ky.ok k2, rfl⟩, q _ _ _ F2 (s1.trans s2) ?_⟩
    obtain ⟨g1, g2⟩ := get_pair ky k kp2
    cases e : getM l k with
    | none => rw [g2 e]; rfl
    | some b =>
      obtain ⟨v, ev, kv⟩ := g1 b e
      rw [ev]
      exact ⟨kv, nn _ _ _ kv⟩
theorem ev_fget2 (ky : Ky rk) {k : κ} {l : List (κ × β)} {z : β} (hd : EvX (rDicF P w ky rv) ta Γ Γ1 l) (hk : EvX rk tk Γ1 Γ2 k) (hz : EvX rv tz Γ2 Γ3 z) : EvX rv (tFGet2 P w ta tk tz) Γ Γ3 ((getM l k).getD z) := fun A σ H B F Q q =>
  hd A σ H B F _ fun x H1 B1 F1 s1 k1 => by
    obtain ⟨p, o, kvs, rfl, hp, kp⟩ := ob_dicF ky (Same.refl _) k1
    refine ⟨⟨p, o, kvs, rfl, F1.bh _ _ hp⟩, hk A σ H1 B1 F1 _ fun y H2 B2 F2 s2 k2 => hz A σ H2 B2 F2 _ fun z2 H3 B3 F3 s3 k3 => ?_⟩
    have kp3 : Paired (DRel ky rv B3) kvs l := Paired.imp2 (fun _ _ q => ⟨q.1, rv.mono (s2.trans s3) q.2⟩) kp
    refine ⟨p, _, ⟨o, kvs, ky.key k, rfl, F3.bh _ _ ((s2.trans s3) _ _ hp), ky.ok k2, rfl⟩, q _ _ _ F3 ((s1.trans s2).trans s3) ?_⟩
    obtain ⟨g1, g2⟩ := get_pair ky k kp3
    cases e : getM l k with
    | none => rw [g2 e]; exact k3
    | some b =>
      obtain ⟨v, ev, kv⟩ := g1 b e
      rw [ev]
      exact kv
/-! ### a dict of one's own -/
theorem cel_dicF {σ : L2.St} {H B : Hp} {ky : Ky rk} {l : List (κ × β)} (F : Frm A σ H B Γ) (h : Γ[i]? = some (.cel p (cDicF P w ky rv p) l)) : σ[i]? = some (some (V.ref p)) ∧ ∃ ob kvs, H p = some (dFO P w p ob kvs) ∧ Paired (DRel ky rv B) kvs l := by
  obtain ⟨e, o, ho, ob, kvs, rfl, k⟩ := cel_at F h
  exact ⟨e, ob, kvs, ho, k⟩
theorem ev_finCel {ky : Ky rk} {l : List (κ × β)} {k : κ} (hk : EvX rk tk Γ Γ1 k) (h : Γ1[i]? = some (.cel p (cDicF P w ky rv p) l)) : EvX rBool (tFIn P w tk (tVar i)) Γ Γ1 ((getM l k).isSome) := fun A σ H B F Q q =>
  hk A σ H B F _ fun y H1 B1 F1 s1 k1 => by
    obtain ⟨e, o, kvs, hp, kp⟩ := cel_dicF F1 h
    exact ⟨_, e, p, _, ⟨o, kvs, ky.key k, rfl, hp, ky.ok k1, rfl⟩, q _ _ _ F1 s1 (by show V.bl _ = V.bl _; rw [some_get ky kp])⟩
theorem ev_fninCel {ky : Ky rk} {l : List (κ × β)} {k : κ} (hk : EvX rk tk Γ Γ1 k) (h : Γ1[i]? = some (.cel p (cDicF P w ky rv p) l)) : EvX rBool (tFNotIn P w tk (tVar i)) Γ Γ1 (!(getM l k).isSome) := fun A σ H B F Q q =>
  hk A σ H B F _ fun y H1 B1 F1 s1 k1 => by
    obtain ⟨e, o, kvs, hp, kp⟩ := cel_dicF F1 h
    exact ⟨_, e, p, _, ⟨o, kvs, ky.key k, rfl, hp, ky.ok k1, rfl⟩, q _ _ _ F1 s1 (by show V.bl _ = V.bl _; rw [some_get ky kp])⟩
theorem ev_fgetCel {ky : Ky rk} {l : List (κ × β)} {k : κ} {b : β} (h0 : Γ[i]?.bind celAt = some p) (hk : EvX rk tk Γ Γ1 k) (h : Γ1[i]? = some (.cel p (cDicF P w ky rv p) l)) (e : getM l k = some b) : EvX rv (tFGet P w (tVar i) tk) Γ Γ1 b := fun A σ H B F Q q => by
  have hv : σ[i]? = some (some (V.ref p)) := by
    cases e : Γ[i]? with
    | none => rw [e] at h0; cases h0
    | some s =>
      rw [e] at h0
      have h := F.sl i s e
      cases s with
      | no => cases h0
      | imm r a => cases h0
      | cel q c a => cases h0; exact h.1
      | tre v c a => cases h0
  refine ⟨_, hv, hk A σ H B F _ fun y H1 B1 F1 s1 k1 => ?_⟩
  obtain ⟨e1, o, kvs, hp, kp⟩ := cel_dicF F1 h
  obtain ⟨v, ev, kv⟩ := (get_pair ky k kp).1 b e
  exact ⟨p, v, ⟨o, kvs, ky.key k, rfl, hp, ky.ok k1, ev.symm⟩, q _ _ _ F1 s1 kv⟩
theorem sq_fput {ky : Ky rk} {l l' : List (κ × β)} {k : κ} {b : β} (hv : EvX rv tv Γ Γ1 b) (hk : EvX rk tk Γ1 Γ2 k) (h1 : Γ1[i]? = some (.cel p (cDicF P w ky rv p) l)) (h2 : Γ2[i]? = some (.cel p (cDicF P w ky rv p) l)) (e : pyPutD l k b = some l') (n : Nx A (u D) (Γ2.set i (.cel p (cDicF P w ky rv p) l'))) :
    Nx A (tSeq (sFPut P w (tVar i) tk tv) u D) Γ := fun σ H B F => by
  unfold pyPutD at e
  split at e
  · rename_i hl
    cases e
    refine hv A σ H B F _ fun v H1 B1 F1 s1 k1 => ⟨_, (cel_dicF F1 h1).1, hk A σ H1 B1 F1 _ fun y H2 B2 F2 s2 k2 => ?_⟩
    obtain ⟨e2, ob, kvs, hp, kp⟩ := cel_dicF F2 h2
    have pw := put_pair ky (k := k) (rv.mono s2 k1) kp
    refine ⟨p, ob, kvs, ky.key k, rfl, hp, ky.ok k2, ?_, fun o' => n _ _ _ (F2.write h2 ⟨o', _, rfl, pw⟩ True.intro)⟩
    rw [Paired.len kp]
    exact Nat.lt_of_lt_of_le hl (by decide)
  · cases e
/-! ### walks, lists of keys -/
theorem it_keysF (ky : Ky rk) {l : List (κ × β)} {ks : List κ} (h : EvX (rDicF P w ky rv) te Γ Γ1 l) (e : pyKeysD l = some ks) : ItX rk (iKeysF P w te) Γ Γ1 ks := fun A σ H B F R q => h A σ H B F _ fun v H' B' F' s k => by
  unfold pyKeysD at e
  split at e
  · rename_i hl
    cases e
    obtain ⟨p, o, kvs, rfl, hp, kp⟩ := ob_dicF ky (Same.refl _) k
    refine ⟨p, o, kvs, rfl, F'.bh _ _ hp, q _ H' B' F' s ⟨by rw [List.length_map]; exact Nat.le_trans hl (by decide), fun H2 B2 s1 s2 => ?_, fun i H2 B2 s1 s2 hi => ?_, fun i x H2 B2 v H3 s1 s2 hx hy A σ Γ F => ?_⟩⟩
    · exact ⟨s2 _ _ (s1 _ _ hp), by rw [List.length_map, Paired.len kp]; exact Nat.le_refl _⟩
    · rw [List.length_map] at hi
      exact ⟨s2 _ _ (s1 _ _ hp), by rw [Paired.len kp]; exact hi⟩
    · obtain ⟨rfl, e, he, rfl⟩ := hy
      rw [List.getElem?_map] at hx
      cases q2 : l[i]? with
      | none => rw [q2] at hx; cases hx
      | some y =>
        rw [q2] at hx; cases hx
        obtain ⟨e2, he2, k2⟩ := Paired.getR kp q2
        rw [he] at he2; cases he2
        refine ⟨B2, F, Same.refl _, ?_⟩
        rw [k2.1]; exact ky.kn
  · cases e
theorem ec_listF (ky : Ky rk) {l : List (κ × β)} {ks : List κ} (h : EvX (rDicF P w ky rv) te Γ Γ1 l) (e : pyKeysD l = some ks) : EvC (cLst rk) (tCB (rListF P w) (tCons te tNil)) Γ Γ1 ks := by
  unfold pyKeysD at e
  split at e
  · rename_i hl
    cases e
    refine ec_B1 h fun H B u z s k Q q => ?_
    obtain ⟨p, o, kvs, rfl, hp, kp⟩ := ob_dicF ky s k
    have pk : ∀ {kvs : List FE} {l : List (κ × β)}, Paired (DRel ky rv B) kvs l → Paired (rk.rel B) (kvs.map fun e => kV e.1) (l.map Prod.fst) := by
      intro kvs l h
      induction h with
      | nil => exact .nil
      | cons a t ih => exact .cons (by show rk.rel B (kV _) _; rw [a.1]; exact ky.kn) ih
    refine ⟨p, o, kvs, rfl, hp, fun l hn => q l _ hn ?_ ⟨_, rfl, pk kp⟩⟩
    show (kvs.map _).length ≤ _
    rw [List.length_map, Paired.len kp]
    exact Nat.le_trans hl (by decide)
  · cases e
theorem paired_fn {κ : Type} [DecidableEq κ] {rk : Rp κ} {ky : Ky rk} {rv : Rp β} [NoL rv] {B : Hp} {p : Addr} {vs : List V} (hp : B p = some (.lst vs)) : ∀ {us : List FE} {xs : List (κ × β)}, Paired (DRel ky rv B) us xs → Paired (DRel ky rv (ers B p)) us xs
  | _, _, .nil => .nil
  | _, _, .cons h t => .cons ⟨h.1, NoL.no hp h.2⟩ (paired_fn hp t)
instance {ky : Ky rk} [NoL rv] : NoL (rOp (cDicF P w ky rv)) := ⟨fun {B p vs v a} hp ⟨q, o, e, hq, ob, kvs, eo, k⟩ => ⟨q, o, e, by
  rw [ers_ne fun z => by rw [z, hp] at hq; cases hq; cases eo]; exact hq, ob, kvs, eo, paired_fn hp k⟩⟩
end
/-! ### the program named -/
section
variable {X : Cx} {P : Program} {w : World} {o i e f value : Expr} {pos pos' apos cpos : Pos} {td ty tz tv t : TE} {tg : Expr}
theorem dnewFK (hP : X.prog = P) (hw : X.w = w) : PE X (.Dict [] [] pos) (tDNewF P w) := by subst hP hw; exact pe_dnewF
theorem fgetK (hP : X.prog = P) (hw : X.w = w) (ho : PE X o td) (hi : PE X i ty) (hs : NoSl i) : PE X (.Subscript o i pos) (tFGet P w td ty) := by subst hP hw; exact pe_fget ho hi hs
theorem finK (hP : X.prog = P) (hw : X.w = w) (hi : PE X i ty) (ho : PE X o td) : PC X .In i o (tFIn P w ty td) := by subst hP hw; exact pc_fin hi ho
theorem fnotinK (hP : X.prog = P) (hw : X.w = w) (hi : PE X i ty) (ho : PE X o td) : PC X .NotIn i o (tFNotIn P w ty td) := by subst hP hw; exact pc_fnotin hi ho
theorem fget1K (hP : X.prog = P) (hw : X.w = w) (ho : PE X o td) (he : PE X e ty) (m : M1 X o "get" apos e cpos) : PE X (.Call (.Attribute o "get" apos) [e] [] cpos) (tFGet1 P w td ty) := by subst hP hw; exact pe_fget1 ho he m
theorem fget2K (hP : X.prog = P) (hw : X.w = w) (ho : PE X o td) (he : PE X e ty) (hf : PE X f tz) (m : M2 X o "get" apos e f cpos) : PE X (.Call (.Attribute o "get" apos) [e, f] [] cpos) (tFGet2 P w td ty tz) := by subst hP hw; exact pe_fget2 ho he hf m
theorem fputK (hP : X.prog = P) (hw : X.w = w) (ho : PE X o td) (hi : PE X i ty) (hv : PE X value tv) (hs : swapsWith value (some (.Subscript o i pos')) pos.line X.env = pure false) : PS X (.Assign [.Subscript o i pos'] value pos) (sFPut P w td ty tv) := by subst hP hw; exact ps_fput ho hi hv hs
theorem keysFK (hP : X.prog = P) (hw : X.w = w) (he : PE X e td) : PI X tg e (iKeysF P w td) := by subst hP hw; exact pi_keysF he
theorem listFK (hP : X.prog = P) (hw : X.w = w) (hc : X.calm = true) : CallR X (.type "list") (rListF P w) := by subst hP hw; exact call_listF hc
theorem exFK (hP : X.prog = P) (hw : X.w = w) (h : PE X e t) : PE X e (tExF P w t) := by subst hP hw; exact pe_exF h
end
end G

set_option maxHeartbeats 4000000
/-! # G: a local that is a dict comprehension -/
namespace G
variable [TabL]
open PySem PySem.Spec PyProof.Rows L2
section
variable {X : Cx}
theorem sw_trueD {kx vx : Expr} {gs : List Comprehension} {scope : Scope} {pos py : Pos} {y : Str} {l : Nat} {env : Env} (hk : env.scope.kind = .function) (hy : env.scope.names.lookup y = some .local) (hl : (py.line == pos.line) = true)
    (ha : (scope.names.any fun (n, k) => n == y && (k == .local || k == .cell)) = false) : swapsWith (.DictComp kx vx gs scope pos) (some (.Name y py)) l env = pure true := by
  have ky : env.kindOf y = some .local := hy
  have hb : env.blockKind = .function := by unfold Env.blockKind; rw [hk]; rfl
  unfold swapsWith
  simp only [hb, ky, ha, Expr.pos, hl]
  rfl
theorem ps_setDcF {P : Program} {w : World} (hP : X.prog = P) (hw : X.w = w) {i : Nat} {y : Str} {py : Pos} {kx vx tg iter : Expr} {ifs : List Expr} {scope : Scope} {own : List (Str × Nat)} {pos spos : Pos} {wi : TI} {g : TG} {tt : TT} {tk tv : TE} (hc : X.calm = true) (hN : X.N.Nodup) (hy : X.N[i]? = some y) (hyl : X.env.scope.names.lookup y = some .local)
    (hsw : swapsWith (.DictComp kx vx [⟨tg, iter, ifs, 0⟩] scope pos) (some (.Name y py)) spos.line X.env = pure true) (hi : PI X tg iter wi) (ok : BlkOk X.N X.env.scope scope own)
    (hg : ∀ (s : Shared) (H : Hp) (C : Addr) (cl : List (Str × Addr)) (fp : List Addr), PG (X.blk s H scope (compEnvC scope cl C X.env) fp) tg g) (ht : ∀ (s : Shared) (H : Hp) (C : Addr) (cl : List (Str × Addr)) (fp : List Addr), PTs (X.blk s H scope (compEnvC scope cl C X.env) fp) ifs tt)
    (hk : ∀ (s : Shared) (H : Hp) (C : Addr) (cl : List (Str × Addr)) (fp : List Addr), PE (X.blk s H scope (compEnvC scope cl C X.env) fp) kx tk)
    (he : ∀ (s : Shared) (H : Hp) (C : Addr) (cl : List (Str × Addr)) (fp : List Addr), PE (X.blk s H scope (compEnvC scope cl C X.env) fp) vx tv) (hs : ∀ x, foldedSetIterable iter X.env x = pure x := by intro _; rfl) :
    PS X (.Assign [.Name y py] (.DictComp kx vx [⟨tg, iter, ifs, 0⟩] scope pos) spos) (tAsg (tExF P w (tDc wi g tt tk tv (own.map (·.2)))) (gName i)) := by
  subst hP hw
  refine ⟨fun pins s σ H D I h => ?_⟩
  rw [exec_Assign_Name_used _ _ _ _ hsw]
  refine wpAny_bind (wpAny_standAt (wpAny_bind ?_))
  show wpAny _ X.A (do let _ ← comprehension (.DictComp kx vx [⟨tg, iter, ifs, 0⟩] scope pos) scope X.env (firstIterPos [⟨tg, iter, ifs, 0⟩] pos) newDict false (eval iter X.env) (some (assign (.Name y py) X.env))) _ _ s
  have h : tDc wi g tt tk tv (own.map (·.2)) σ H (fun v H' => ∃ a kvs, v = .ref a ∧ H' a = some (.dK kvs) ∧ ∀ o, gName i v σ (upd H' a (dFO X.prog X.w a o kvs)) D.nx) := h
  refine wpAny_bind (thn (dc_core (Qf := fun _ s' => SP X pins D .next s') hc hN I hi ok hg ht hk he hs h fun L C s' m H' I' q hn f => ?_) fun _ s' hq => wpAny_pure (wpAny_pure hq))
  obtain ⟨a, kvs, ea, ha, q⟩ := q
  cases ea
  obtain ⟨z, hd, vs, kv, dd⟩ := dk_of I'.hok ha
  obtain ⟨ob, r⟩ := raw_of z hd kv dd
  have hex : ∃ q, s'.heap.get? L = some q := let ⟨q, _, _, hq, _⟩ := dd; ⟨q, hq⟩
  have I2 := d_write (t' := s'.toks) I' (by rw [ha]; exact True.intro) ⟨rfl, fun _ _ => rfl⟩ hex (df_mk r)
  show wpAny _ _ (assign (.Name y py) X.env (.ref L)) _ _ _
  refine wpAny_assign_Name (store_ok2 (v := V.ref L) I2 hN hy (.inl hyl) rfl (fun s2 I3 ⟨b, sb, hb⟩ => ?_) (.inr hyl))
  obtain ⟨f0, f1, f2, f3, f4, f5⟩ := f
  have hbC : C ≠ b := by
    rcases hb with z | z
    · rw [z]; exact f1
    · exact fun e => f4 y b z e.symm
  have f0' : upd H' L (dFO X.prog X.w L ob kvs) C = none := by
    rw [upd_ne (fun e => by rw [e, ha] at f0; cases f0)]; exact f0
  refine ⟨m, hn.sameBut sb hbC, fun h3 sb3 => ?_⟩
  exact ⟨_, _, I3.turned (t' := s2.toks) (fun b o hb e => (sb3.2 b hb).trans e) f0' f1 f3 f4 f5, q ob⟩
end
end G

set_option maxHeartbeats 4000000
/-! # G: a class and those that inherit from it; B.__init__(self, ..); xs or ys; the truth of lists -/
namespace G
variable [TabL]
open PySem PySem.Spec PyProof.Rows L2
/-- C.m is a plain def -/
structure FMet (K : PySem.W.Frag) (C : Addr) (mc : Value) (m : Str) (g : Addr) : Prop where
  at_ : PySem.W.findCls K (.ref C) mc m = some (.val (.ref g))
  kp : PySem.W.keepIn K (.ref g) = true
section
variable {X : Cx} {CX : CXT} {k : Nat} {C g : Addr} {mc : Value} {sp : Sp} {E : L2.St → XK} {fd : FuncData} {ps : List Str} {e : Expr} {es : List Expr} {x m : Str} {pos apos px : Pos} {t : TA} {pl : Sem Bool}
theorem getfm_ok {pins : List (Addr × Obj)} {σ : L2.St} {H : Hp} {s : Shared} {Q : Value × List Value → Shared → Prop} {A : Around} {Ee : Value → Shared → Prop} (I : Inv X pins σ H s) (r : ClX.CRead X.K C mc) (c : FMet X.K C mc m g)
    (h : ∀ s', Inv X pins σ H s' → Q (.ref g, []) s') : wpAny (model X.prog X.w) A (getMethod (.ref C) m pl) Q Ee s :=
  PySem.W.method_cls I.kIn r.ga (PySem.W.cls_value I.kIn r.rd c.at_ rfl (h _ (I.tok _)))
/-- C.m(..), m a plain def: the object is told -/
theorem pe_fmeth (hg : Gl X x) (hm : X.mg x = some (.ref C)) (r : ClX.CRead X.K C mc) (c : FMet X.K C mc m g) (F : FnOk X.prog X.w X.K X.mg X.base CX k g fd ps sp) (hr : Room k X.A) (hb : Binds X.K fd ps []) (hx : ∀ σ, PassesAt CX X σ (E σ)) (ha : PA X (e :: es) t)
    (hdb : (x == ("__debug__" : Str)) = false := by decide) (hst : starEach (e :: es) X.env = (false, eval e X.env) :: starEach es X.env := by rfl) (hpl : (backTo pos (starEach es X.env)).any (·.1) = false := by rfl)
    (ht : eval (.Call (.Attribute (.Name x px) m apos) (e :: es) [] pos) X.env = (do
      let ov ← eval (.Name x px) X.env
      standAt apos.atName
      let (f, first) ← holding [ov] (getMethod ov m pl)
      callWith pos f first (backTo pos (starEach (e :: es) X.env)) (backToKw pos (keywordEach [] X.env))) := by rfl) :
    PE X (.Call (.Attribute (.Name x px) m apos) (e :: es) [] pos) (tSm sp E t) := by
  refine ⟨fun pins s σ H Q I h => ?_⟩
  refine PySem.W.methodCall_KW (pl := pl) (ld_glob I hg hm ?_ hdb) ht
  refine getfm_ok I r c fun s2 I2 => ?_
  refine PySem.W.callWith_K (first := []) (h₀ := X.base) I2.ok.mod.kin c.kp (thn (ha.run pos pins s2 σ H _ I2 h) fun us s3 ⟨vs, H2, I3, rv, q2⟩ => ⟨I3.kIn, ?_⟩) hst hpl
  exact run_fnS F hr hb (hx σ) I3 rv q2
end
/-! ### self.n1 = x; self.n2 = y, for an object of any class -/
def SpW2 (K : PySem.W.Frag) (n1 n2 : Str) : Sp := fun vs H Q _ => ∃ p C dx fs v u, vs = [.ref p, v, u] ∧ H p = some (.ins C dx fs) ∧ Cls K C ∧ NoAttr K C n1 ∧ NoAttr K C n2 ∧ fs.length < 900 ∧ Q .non (upd (upd H p (.ins C dx (putF n1 v fs))) p (.ins C dx (putF n2 u (putF n1 v fs))))
theorem putF_len {nm : Str} {v : V} : ∀ (fs : List (Str × V)), (putF nm v fs).length ≤ fs.length + 1
  | [] => by unfold putF; simp
  | (a, b) :: fs => by
    unfold putF
    split
    · simp
    · have := putF_len (nm := nm) (v := v) fs
      simp only [List.length_cons]; omega
section
variable {P : Program} {w : World} {K : PySem.W.Frag} {mg : Str → Option Value} {base : Heap}
theorem okW2 {f : Addr} {fd : FuncData} {st : Stmt} {N : List Str} {qual n1 n2 p1 p2 : Str} {pos1 pos2 pos3 pos4 pos5 pos6 pos7 pos8 : Pos} (F : Fun K "__init__" qual st f fd) (S : FnScope N ["self", p1, p2] (defScope st))
    (hb : defBody st = [.Assign [.Attribute (.Name "self" pos1) n1 pos2] (.Name p1 pos3) pos4, .Assign [.Attribute (.Name "self" pos5) n2 pos6] (.Name p2 pos7) pos8]) (h0 : N[0]? = some ("self" : Str)) (h1 : N[1]? = some p1) (h2 : N[2]? = some p2) (v0 : Vis (defScope st) ("self" : Str)) (v1 : Vis (defScope st) p1) (v2 : Vis (defScope st) p2)
    (d0 : (p1 == ("__debug__" : Str)) = false) (d1 : (p1 == ("__classdict__" : Str)) = false) (d2 : (p2 == ("__debug__" : Str)) = false) (d3 : (p2 == ("__classdict__" : Str)) = false) (hl : N.length = 3) : FnOk P w K mg base CX0 1 f fd ["self", p1, p2] (SpW2 K n1 n2) := by
  refine F.ok S (fun vs H Q E h => ?_) (fun cdv A outer s H vs Q E hr h => ?_)
  · obtain ⟨p, C, dx, fs, v, u, rfl, _⟩ := h; rfl
  · obtain ⟨p, C, dx, fs, v, u, rfl, hp, c, na1, na2, hz, k⟩ := h
    rw [hb]
    refine ⟨_, pss_cons (ps_fld (pe_var (i := 0) h0 v0) (pe_var (i := 1) h1 v1 d0 d1) rfl) (pss_cons (ps_fld (pe_var (i := 0) h0 v0) (pe_var (i := 2) h2 v2 d2 d3) rfl) pss_nil), ?_⟩
    have hN : L2.start N [.ref p, v, u] = [some (.ref p), some v, some u] := by
      unfold L2.start; simp [hl]
    rw [hN]
    refine ⟨v, rfl, _, rfl, p, C, dx, fs, rfl, hp, c, na1, by omega, u, rfl, _, rfl, p, C, dx, _, rfl, upd_same, c, na2, ?_, k⟩
    have := putF_len (nm := n1) (v := v) fs
    omega
end
section
variable {α β γ δ κ μ : Type} {r2 : Rp α} {r3 : Rp β} {t2 t3 te : TE} {Γ Γ1 Γ2 : List Sl} {K : PySem.W.Frag} {w : Rw γ} {w' : Rw δ} {w'' : Rw κ} {C : Addr} {names : List Str} {A : Amb} {D : Ends} {u : TS} {i : Nat} {p : Addr} {z : γ} {a2 : α} {a3 : β} {f1 : γ → α → δ} {f2 : δ → β → κ} {n1 n2 : Str} {E : L2.St → XK}
/-- B.__init__(self, x, y): two attributes more -/
theorem sq_initW (h2 : EvX r2 t2 Γ Γ1 a2) (h3 : EvX r3 t3 Γ1 Γ2 a3) (hi0 : Γ[i]? = some (.cel p (cIns C names w) z)) (hi : Γ2[i]? = some (.cel p (cIns C names w) z)) (s1 : Snoc w r2 w' f1) (s2 : Snoc w' r3 w'' f2) (nn1 : n1 ∉ names) (nn2 : n2 ∉ names ++ [n1]) (hl : names.length < 800) (c : Cls K C) (na1 : NoAttr K C n1) (na2 : NoAttr K C n2)
    (k : Nx A (u D) (Γ2.set i (.cel p (cIns C (names ++ [n1] ++ [n2]) w'') (f2 (f1 z a2) a3)))) : Nx A (tSeq (tDrop (tSm (SpW2 K n1 n2) E (tCons (tVar i) (tCons t2 (tCons t3 tNil))))) u D) Γ := fun σ H B F => by
  obtain ⟨e0, _⟩ := F.sl i _ hi0
  refine ⟨_, e0, h2 A σ H B F _ fun v H1 B1 F1 q1 k1 => h3 A σ H1 B1 F1 _ fun x H2 B2 F2 q2 k2 => ?_⟩
  obtain ⟨e, n, m, o, ho, dx, vs, rfl, l, kw⟩ := F2.sl i _ hi
  refine ⟨p, C, dx, names.zip vs, v, x, rfl, ho, c, na1, na2, by rw [List.length_zip]; omega, ?_⟩
  have k1' := r2.mono q2 k1
  have F3 := F2.write hi (c' := cIns C (names ++ [n1]) w') (o' := .ins C dx (putF n1 v (names.zip vs))) ⟨dx, vs ++ [v], by rw [putF_zip nn1 l], by rw [List.length_append, List.length_append, l]; rfl, s1 B2 vs z v a2 kw k1'⟩ trivial
  have hl2 : i < Γ2.length := (List.getElem?_eq_some_iff.mp hi).1
  have e3 : (Γ2.set i (.cel p (cIns C (names ++ [n1]) w') (f1 z a2)))[i]? = some (.cel p (cIns C (names ++ [n1]) w') (f1 z a2)) := List.getElem?_set_self hl2
  have F4 := F3.write e3 (c' := cIns C (names ++ [n1] ++ [n2]) w'') (o' := .ins C dx (putF n2 x (putF n1 v (names.zip vs)))) (a' := f2 (f1 z a2) a3) ⟨dx, vs ++ [v] ++ [x], by rw [putF_zip nn1 l, putF_zip nn2 (by rw [List.length_append, List.length_append, l]; rfl)], by rw [List.length_append, List.length_append, List.length_append, List.length_append, l]; rfl, s2 B2 (vs ++ [v]) (f1 z a2) x a3 (s1 B2 vs z v a2 kw k1') k2⟩ trivial
  rw [List.set_set] at F4
  exact k σ _ B2 F4
end
/-! ### what may be of one of several classes -/
section
variable {α β γ : Type} {ra : Rp α} {rb : Rp β} {rc : Rp γ} {te ta tb : TE} {Γ Γ1 Γ2 : List Sl} {x : α ⊕ β} {c : γ}
theorem ev_altP {T : TE → TE} {f : α → Option γ} {g : β → Option γ} (hl : ∀ te a c, f a = some c → EvX ra te Γ Γ1 a → EvX rc (T te) Γ Γ1 c) (hr : ∀ te b c, g b = some c → EvX rb te Γ Γ1 b → EvX rc (T te) Γ Γ1 c) (h : EvX (rAlt ra rb) te Γ Γ1 x) (e : altO x f g = some c) : EvX rc (T te) Γ Γ1 c := by
  cases x with
  | inl a => exact hl te a c e (un_inl h)
  | inr b => exact hr te b c e (un_inr h)
/-- the same for both -/
theorem ev_altC {T : TE → TE} (hl : ∀ te a, EvX ra te Γ Γ1 a → EvX rc (T te) Γ Γ1 c) (hr : ∀ te b, EvX rb te Γ Γ1 b → EvX rc (T te) Γ Γ1 c) (h : EvX (rAlt ra rb) te Γ Γ1 x) : EvX rc (T te) Γ Γ1 c := by
  cases x with
  | inl a => exact hl te a (un_inl h)
  | inr b => exact hr te b (un_inr h)
end
section
variable {X : Cx} {CX : CXT} {f : Addr} {fd : FuncData} {ps : List Str} {n : Nat} {sp : Sp} {E : XK} {K : PySem.W.Frag}
/-- x == y, x of a class whose __eq__ is the def at f, which gives a bool -/
def rEqF (K : PySem.W.Frag) (f : Addr) (sp : Sp) (E : XK) : R2 := fun x y H Q => ∃ a C t dx fs, x = .ref a ∧ H a = some (.ins C dx fs) ∧ Meth K C "__eq__" f ∧ TyX K H y t ∧ PySem.W.notFirst K C t = true ∧ sp [x, y] H (fun v H' => ∃ b, v = .bl b ∧ Q v H') E
theorem op_eqF (hK : X.K = K) (F : FnOk X.prog X.w X.K X.mg X.base CX n f fd ps sp) (hr : Room n X.A) (hb : Binds K fd ps []) (hx : Passes CX X E) : OpR X (compareOp .Eq) (rEqF K f sp E) := by
  subst hK
  intro pins s σ H x y v u Q I rx ry h
  obtain ⟨a, C, t, dx, fs, rfl, ha, hm, ty, nf, q⟩ := h
  cases (show v = Value.ref a from rx)
  obtain ⟨mA, J, _⟩ := ins_get I.hok ha
  obtain ⟨od, J, _⟩ := J.look
  obtain ⟨m, hF⟩ := I.fr
  obtain ⟨P, Z, hP, _⟩ := kit_of I ry ty
  show wpAny _ _ (richCompare .Eq (.ref a) u) _ _ _
  refine PySem.W.cmp_K (op := .Eq) (tb := t) hr.units0 hF I.ok.mod.kin J (Z.ty _ _ I.kIn hP) nf hm.at_ hm.fn ?_
  refine wpAny_mono (run_fn (us := [.ref a, u]) (vs := [.ref a, y]) F hr hb .nil hx I (.cons rfl (.cons ry .nil)) (by rw [List.append_nil]; exact q)) (fun w s' z => ?_) fun _ _ e => e
  obtain ⟨z', H', I', rz, b, rfl, qz⟩ := z
  cases (show w = Value.bool b from rz)
  exact ⟨.bl b, H', I', rfl, qz⟩
end
/-- of one of these classes, in which nm is the def at f -/
def FamX {α : Type} (K : PySem.W.Frag) (f : Addr) (nm : Str) (Cs : List Addr) (r : Rp α) : Prop := ∀ H v a, r.rel H v a → ∃ p C dx fs, v = .ref p ∧ H p = some (.ins C dx fs) ∧ Meth K C nm f ∧ C ∈ Cs
def TySx {α : Type} (K : PySem.W.Frag) (ts : List Value) (r : Rp α) : Prop := ∀ H v a, r.rel H v a → ∃ t, TyX K H v t ∧ t ∈ ts
def NfS (K : PySem.W.Frag) (Cs : List Addr) (ts : List Value) : Prop := ∀ C, C ∈ Cs → ∀ t, t ∈ ts → PySem.W.notFirst K C t = true
section
variable {α β γ : Type} {ra : Rp α} {rb : Rp β} {ta tb : TE} {Γ Γ1 Γ2 : List Sl} {K : PySem.W.Frag} {w : Rw α} {C f : Addr} {nm : Str} {names : List Str} {Cs Ds : List Addr} {ts us : List Value} {x : α} {y : β} {E : XK} {t : Value}
theorem fam_ins (h : Meth K C nm f) : FamX K f nm [C] (rIns C names w) := fun H v a k => by
  obtain ⟨p, o, e, hp, dx, vs, rfl, l, kw⟩ := k
  exact ⟨p, C, dx, _, e, hp, h, List.mem_singleton.mpr rfl⟩
theorem fam_alt (h1 : FamX K f nm Cs ra) (h2 : FamX K f nm Ds rb) : FamX K f nm (Cs ++ Ds) (rAlt ra rb) := fun H v a k => by
  cases a with
  | inl a => obtain ⟨p, C, dx, fs, e, hp, m, i⟩ := h1 H v a k; exact ⟨p, C, dx, fs, e, hp, m, List.mem_append_left _ i⟩
  | inr b => obtain ⟨p, C, dx, fs, e, hp, m, i⟩ := h2 H v b k; exact ⟨p, C, dx, fs, e, hp, m, List.mem_append_right _ i⟩
theorem tys_one (h : TyR K ra t) : TySx K [t] ra := fun H v a k => ⟨t, h H v a k, List.mem_singleton.mpr rfl⟩
theorem tys_alt (h1 : TySx K ts ra) (h2 : TySx K us rb) : TySx K (ts ++ us) (rAlt ra rb) := fun H v a k => by
  cases a with
  | inl a => obtain ⟨t, e, i⟩ := h1 H v a k; exact ⟨t, e, List.mem_append_left _ i⟩
  | inr b => obtain ⟨t, e, i⟩ := h2 H v b k; exact ⟨t, e, List.mem_append_right _ i⟩
theorem nf_nil : NfS K [] ts := fun C h => nomatch h
theorem nf_row0 : NfS K [C] [] := fun _ _ t h => nomatch h
theorem nf_rowC (h : PySem.W.notFirst K C t = true) (k : NfS K [C] ts) : NfS K [C] (t :: ts) := fun D hD u hu => by
  obtain rfl := List.mem_singleton.mp hD
  rcases List.mem_cons.mp hu with rfl | hu
  · exact h
  · exact k D (List.mem_singleton.mpr rfl) u hu
theorem nf_cons (h : NfS K [C] ts) (k : NfS K Cs ts) : NfS K (C :: Cs) ts := fun D hD u hu => by
  rcases List.mem_cons.mp hD with rfl | hD
  · exact h D (List.mem_singleton.mpr rfl) u hu
  · exact k D hD u hu
theorem ev_eqF {m : α × β → Option Bool} {b : Bool} (ha : EvX ra ta Γ Γ1 x) (hb : EvX rb tb Γ1 Γ2 y) (fm : FamX K f "__eq__" Cs ra) (ty : TySx K ts rb) (nf : NfS K Cs ts) (e : m (x, y) = some b) : EvX rBool (tOp (rEqF K f (SpP (wC ra (w1 rb)) rBool m) E) ta tb) Γ Γ2 b := fun A σ H B F Q q =>
  ha A σ H B F _ fun u H1 B1 F1 s1 k1 => hb A σ H1 B1 F1 _ fun v H2 B2 F2 s2 k2 => by
    have k1' := ra.mono s2 k1
    obtain ⟨p, C, dx, fs, rfl, hp, mm, hC⟩ := fm B2 u x k1'
    obtain ⟨t, ht, i⟩ := ty H2 v y (rb.mono F2.bh k2)
    exact ⟨p, C, t, dx, fs, rfl, F2.bh _ _ hp, mm, ht, nf C hC t i, B2, (x, y), b, F2.szt, F2.bh, ⟨_, _, rfl, k1', _, rfl, k2⟩, e, fun H3 B3 v3 P k3 => ⟨b, k3, q _ H3 B3 (F2.after P) ((s1.trans s2).trans P.b0) k3⟩⟩
end
/-! ### the truth of a list -/
section
variable {α β : Type} {r : Rp α} {te ta tb : TE} {Γ Γ1 Γ2 : List Sl} {K : PySem.W.Frag} {xs ys zs : List α} {i : Nat} {p : Addr}
theorem paired_empty {F : V → α → Prop} {vs : List V} (h : Paired F vs xs) : vs.isEmpty = xs.isEmpty := by cases h <;> rfl
theorem et_truCel (h : Γ[i]? = some (.cel p (cLst r) xs)) : EvT (fun σ H Q => tVar i σ H fun x H' => ∃ k, TruV K x H' k ∧ Q k H') Γ Γ (!xs.isEmpty) := fun A σ H B F Q q => by
  obtain ⟨e, n, m, o, ho, vs, rfl, kv⟩ := F.sl i _ h
  exact ⟨_, e, _, .inl ⟨vs, SqL.of ho, rfl⟩, by rw [paired_empty kv]; exact q H B F (Same.refl _)⟩
theorem et_truL (h : EvX (rOb (cLst r)) te Γ Γ1 xs) : EvT (fun σ H Q => te σ H fun x H' => ∃ k, TruV K x H' k ∧ Q k H') Γ Γ1 (!xs.isEmpty) := fun A σ H B F Q q => h A σ H B F _ fun v H1 B1 F1 s1 k1 => by
  obtain ⟨p, vs, rfl, hp, kv⟩ := ob_lst F1.bh k1
  exact ⟨_, .inl ⟨vs, SqL.of hp, rfl⟩, by rw [paired_empty kv]; exact q H1 B1 F1 s1⟩
theorem et_truT (h : EvX (rOb (cTpl r)) te Γ Γ1 xs) : EvT (fun σ H Q => te σ H fun x H' => ∃ k, TruV K x H' k ∧ Q k H') Γ Γ1 (!xs.isEmpty) := fun A σ H B F Q q => h A σ H B F _ fun v H1 B1 F1 s1 k1 => by
  obtain ⟨p, vs, rfl, hp, kv⟩ := ob_tpl F1.bh k1
  exact ⟨_, .inr (.inl ⟨vs, SqT.of hp, rfl⟩), by rw [paired_empty kv]; exact q H1 B1 F1 s1⟩
/-- xs or ys, both new -/
def pyOrL (xs ys : List α) : List α := if xs.isEmpty then ys else xs
theorem ec_orL (ha : EvC (cLst r) ta Γ Γ1 xs) (hb : EvC (cLst r) tb Γ1 Γ1 ys) : EvC (cLst r) (tOrT K ta tb) Γ Γ1 (pyOrL xs ys) := fun A σ H B F Q q => ha A σ H B F _ fun p o H1 B1 F1 n1 s1 k1 => by
  obtain ⟨vs, rfl, kv⟩ := id k1
  have hp := F1.hid n1 F.mh
  refine ⟨_, .inl ⟨vs, SqL.of hp, rfl⟩, ?_⟩
  rw [paired_empty kv]
  unfold pyOrL at q
  cases he : xs.isEmpty with
  | false => rw [he] at q; exact q p _ H1 B1 F1 n1 s1 k1
  | true =>
    rw [he] at q
    exact hb A σ H1 B1 (F1.drop n1 F.sub F.mh) Q fun p2 o2 H2 B2 F2 n2 s2 k2 => q p2 o2 H2 B2 F2 n2 (s1.trans s2) k2
/-- x[k][j] = e -/
theorem sq_setTS' {δ : Type} {w : Tw α} {rd : Rp δ} {f : α → List δ} {g : α → List δ → α} {d : δ} {j : Int} {k : Nat} {ys : List δ} {tj : TE} {A : Amb} {D : Ends} {u : TS} {v : V} {a : α} (h : EvX rd te Γ Γ1 d) (hi : Γ1[i]? = some (.tre v (tH w) a)) (s : AccT w k (tK (cLst rd)) f g) (hj : EvK rInt tj Γ1 j) (e : pySet (f a) j d = some ys) (nx : Nx A (u D) (Γ1.set i (.tre v (tH w) (g a ys)))) :
    Nx A (tSeq (tAsg te (gSub (tOp (rIxL K) (tVar i) (tC (.int (k : Int)))) tj rSetL)) u D) Γ := by
  unfold pySet at e
  cases en : ixN (f a).length j with
  | none => rw [en] at e; cases e
  | some n =>
    rw [en] at e
    cases e
    exact sq_setTS h hi s hj en nx
end
end G

set_option maxHeartbeats 4000000
/-! # G: a value or a pair with an own list; defs that may raise and hand back what is new; keywords of methods -/
namespace G
variable [TabL]
open PySem PySem.Spec PyProof.Rows L2
/-- a value, or what t says -/
def tA {α β : Type} (r : Rp α) (t : Tr β) : Tr (α ⊕ β) := ⟨fun B H o v x => match x with
  | .inl a => r.rel B v a
  | .inr b => t.ok B H o v b, fun {B B' H H' o o' v x} b k n h => by
  cases x with
  | inl a => exact r.mono b h
  | inr c => exact t.mono b k n h⟩
/-- a pair: a text and an own list -/
def tP {α : Type} (r : Rp α) : Tr (Str × List α) := ⟨fun B H o v a => ∃ p q zs, v = .ref p ∧ B p = some (.tup [.str a.1, .ref q]) ∧ o q ∧ H q = some (.lst zs) ∧ Paired (r.rel B) zs a.2,
  fun b k n ⟨p, q, zs, e, hp, oq, hq, kz⟩ => ⟨p, q, zs, e, b _ _ hp, n q oq, k q _ oq hq, Paired.monoR b kz⟩⟩
section
variable {α β γ δ ε ρ τ : Type} {r : Rp α} {rb : Rp β} {rc : Rp γ} {t : Tr τ} {wg : Rw β} {te tj : TE} {tr ta : TA} {Γ Γ1 Γ2 : List Sl} {K : PySem.W.Frag} {A : Amb} {D : Ends} {u : TS} {i j : Nat} {p : Addr} {v : V} {x : β} {xs ys : List α} {z : Str}
/-! ### handed back -/
section
variable {κ : Type} {w : Mw δ κ} {vs : List V} {g : δ} {n : Nat} {H0 : Hp} {mo : Addr → Prop} {bb : (β ⊕ τ) × δ}
theorem sq_retMAl (am : AtM A H0 mo) (h : EvX rb te Γ Γ1 x) (ho : OwnAt Γ1 n 0 w vs g) (e : some ((.inl x : β ⊕ τ), g) = some bb) (k : Rt A (psiM H0 mo w vs (tA rb t)) bb D.rt) : Nx A (tSeq (tRet te) u D) Γ := fun σ H B F => h A σ H B F _ fun v H' B' F' _ q => by
  obtain ⟨ow, W⟩ := F'.own
  cases e
  exact k H' B' v F'.post ⟨fun _ => False, _, fun _ z => z.elim, fun p ⟨j, _, _, z⟩ => am.hot (W.ht j p z), fun _ z => z.elim, q, ho A σ H' B' ow W⟩
theorem sq_retMP {bb : (β ⊕ (Str × List α)) × δ} (am : AtM A H0 mo) (hi : Γ[i]? = some (.cel p (cLst r) xs)) (hp : ¬ A.m p) (hn : ¬ i < n) (ho : OwnAt Γ n 0 w vs g) (e : some ((.inr (z, xs) : β ⊕ (Str × List α)), g) = some bb) (k : Rt A (psiM H0 mo w vs (tA rb (tP r))) bb D.rt) :
    Nx A (tSeq (tRet (tTup (tCons (tC (.str z)) (tCons (tVar i) tNil)))) u D) Γ := fun σ H B F => by
  obtain ⟨e0, _⟩ := F.sl i _ hi
  refine ⟨_, e0, by show 2 ≤ sizeLine; rw [sizeLine_eq]; decide, fun l hl => ?_⟩
  have F1 := F.fresh (o := .tup [.str z, .ref p]) hl (by show 2 ≤ sizeLine; rw [sizeLine_eq]; decide)
  have h0 := F.H0none hl
  have F2 := F1.adopt h0 F.sub F.mh
  obtain ⟨ow, W⟩ := id F2.own
  obtain ⟨e1, op, o, hu, us, rfl, kz⟩ := W.so i _ hi
  cases e
  refine k _ _ _ F2.post ⟨fun q => q = p, _, fun q zz => ?_, fun q ⟨j, _, _, zz⟩ => am.hot (W.ht j q zz), fun q zz ⟨j, _, hj, z2⟩ => ?_, ⟨l, p, us, rfl, upd_same, rfl, hu, kz⟩, ho A σ _ _ ow W⟩
  · rw [zz]; exact ⟨am.hot (W.ht i p op), by rw [← am.h]; exact (W.ht i p op).2.2.resolve_right hp⟩
  · have := W.dj j i p (by rw [← zz]; exact z2) op
    omega
end
/-! ### stored -/
/-- what is new and owned, at a slot -/
theorem Frm.ownN {σ : L2.St} {H B : Hp} {Γ : List Sl} {ow : Nat → Addr → Prop} {o1 : Addr → Prop} {s : Sl} {v : V} (P : Post A H B) (hl : σ.length = Γ.length) (W : Own A σ H B Γ ow) (nw : ∀ j q, o1 q → ¬ ow j q) (hh : ∀ q, o1 q → Hot A H B q) (k : i < Γ.length → SlO (σ.set i (some v)) H B o1 i s) : Frm A (σ.set i (some v)) H B (Γ.set i s) := by
  refine ⟨P, by rw [List.length_set, List.length_set]; exact hl, fun j => if j = i then o1 else ow j, fun j s ej => ?_, fun j l q hj hl => ?_, fun j q hj => ?_⟩
  · rcases getset ej with ⟨rfl, rfl, hl⟩ | ⟨ne, ej⟩
    · rw [if_pos rfl]; exact k hl
    · rw [if_neg (Ne.symm ne)]
      exact slo_mono (W.so j s ej) (by rw [List.getElem?_set_ne ne]) (Same.refl _) (fun _ _ _ z => z) fun _ z => z
  · by_cases h1 : j = i
    · by_cases h2 : l = i
      · rw [h1, h2]
      · rw [if_pos h1] at hj; rw [if_neg h2] at hl
        exact absurd hl (nw l q hj)
    · by_cases h2 : l = i
      · rw [if_neg h1] at hj; rw [if_pos h2] at hl
        exact absurd hj (nw j q hl)
      · rw [if_neg h1] at hj; rw [if_neg h2] at hl; exact W.dj j l q hj hl
  · by_cases h1 : j = i
    · rw [if_pos h1] at hj; exact hh q hj
    · rw [if_neg h1] at hj; exact W.ht j q hj
theorem sq_asgM {κ : Type} {w : Mw δ κ} {R : AR} {is : List Nat} {g g' : δ} {a : κ} {us : List (Nat × Sl)} {m : δ → κ → Option (τ × δ)} {b : τ} {E : XK} (h : EvA tr Γ Γ1 R) (co : CallOk Γ1 R w is g a) (bo : BackOk Γ1 (setAll Γ1 us) R w is g') (e : m g a = some (b, g'))
    (k : ∀ v, Nx A (u D) ((setAll Γ1 us).set i (.tre v t b))) (hu : us.map (·.1) = is := by rfl) : Nx A (tSeq (tAsg (tCall (SpM w t m) [] E tr) (gName i)) u D) Γ := fun σ H B F => h A σ H B F _ fun vs H1 B1 F1 s1 k1 => by
  rw [List.append_nil]
  obtain ⟨ow, W⟩ := id F1.own
  obtain ⟨c1, c2⟩ := co A σ H1 B1 ow W vs k1
  refine ⟨B1, _, g, a, (b, g'), F1.szt, F1.bh, fun p ⟨i, _, z⟩ => ⟨(W.ht i p z).1, (W.ht i p z).2.1, (W.ht i p z).nt F1.mh⟩, c1, c2, e, fun H2 B2 v P ⟨o1, o2, h1, h2, hd, kv, kw⟩ => ?_⟩
  obtain ⟨ow2, W2, P2, nw⟩ := after_callM F1 W bo (setAll_len _ _) (fun j hj => setAll_off _ _ _ (by rw [hu]; exact hj)) k1 P (o1 := o1) (fun p z => (h1 p z).2) h2 hd kw
  refine k v _ _ _ (Frm.ownN P2 (by rw [setAll_len]; exact F1.len) W2 nw (fun q z => ?_) fun hl => ⟨by rw [List.getElem?_set_self (by rw [setAll_len] at hl; rw [F1.len]; exact hl)], kv⟩)
  obtain ⟨⟨z1, z2, _⟩, z3⟩ := h1 q z
  exact ⟨z1, z2, .inl (F1.H0none z3)⟩
/-! ### read -/
theorem ev_taL {s : β ⊕ τ} (hi : Γ[i]? = some (.tre v (tA rb t) s)) (e : altL s = some x) : EvX rb (tVar i) Γ Γ x := fun A σ H B F Q q => by
  obtain ⟨e1, o, _, k⟩ := F.sl i _ hi
  cases s with
  | inl a => cases e; exact ⟨v, e1, q v H B F (Same.refl _) k⟩
  | inr b => cases e
theorem ev_ta0 {s : β ⊕ (Str × List α)} {f : β → Str} (hi : Γ[i]? = some (.tre v (tA (rOb (cTup wg)) (tP r)) s)) (ac : Acc wg 0 rStr f) : EvX rStr (tOp (rIxT K) (tVar i) (tC (.int ((0 : Nat) : Int)))) Γ Γ (altO s f (·.1)) := fun A σ H B F Q q => by
  obtain ⟨e1, o, _, k⟩ := F.sl i _ hi
  cases s with
  | inl a =>
    obtain ⟨p, vs, rfl, hp, g⟩ := ob_tup F.bh k
    obtain ⟨y, hy, ky⟩ := ac B vs a g
    exact ⟨_, e1, p, vs, ((0 : Nat) : Int), y, rfl, rfl, SqT.of hp, atI_nat hy, q y H B F (Same.refl _) ky⟩
  | inr b =>
    obtain ⟨p, l, zs, rfl, hp, _⟩ := k
    exact ⟨_, e1, p, _, ((0 : Nat) : Int), .str b.1, rfl, rfl, SqT.of (F.bh _ _ hp), rfl, q _ H B F (Same.refl _) rfl⟩
/-- for one expression the list is as if it could not change -/
theorem frzA_in {σ : L2.St} {H B : Hp} {s : β ⊕ (Str × List α)} {y : Str × List α} (F : Frm A σ H B Γ) (hi : Γ[i]? = some (.tre v (tA rb (tP r)) s)) (hs : altR s = some y) : ∃ q zs, B q = none ∧
    Frm ⟨upd B q (.lst zs), H, fun _ => False, fun _ => True, fun _ _ _ _ => trivial⟩ σ H (upd B q (.lst zs)) (frz Γ i (.imm (rOb (cTup (wC rStr (w1 (rOb (cLst r)))))) y)) := by
  cases s with
  | inl a => cases hs
  | inr b =>
    cases hs
    obtain ⟨ev, o, ho, p, q, zs, rfl, hp, oq, hq, kz⟩ := F.sl i _ hi
    have hBq := (ho q oq).1
    have hB : Same B (upd B q (.lst zs)) := fun b u e => by rw [upd_ne (ne_of_none e hBq)]; exact e
    have hs : Same (upd B q (.lst zs)) H := fun b u e => by
      by_cases hb : b = q
      · subst hb; rw [upd_same] at e; cases e; exact hq
      · rw [upd_ne hb] at e; exact F.bh b u e
    refine ⟨q, zs, hBq, ⟨hs, Same.refl _, fun _ _ _ _ e => e, fun _ _ e => e, fun _ e => e, hs, ⟨fun _ z => z.elim, fun _ z => z.elim, fun _ m n => F.tb.ne n m⟩, trivial, F.sz, F.tb.fix hB (F.tb.nt hq fun _ z => nomatch z)⟩, by unfold frz; rw [List.length_set, List.length_map]; exact F.len, fun _ _ => False, fun j s e => ?_, fun _ _ _ z => z.elim, fun _ _ z => z.elim⟩
    rcases frz_get e with ⟨rfl, rfl⟩ | ⟨ne, u, hu, ht, hc⟩
    · exact ⟨_, ev, p, _, rfl, hB _ _ hp, _, rfl, .str y.1, _, rfl, rfl, .ref q, rfl, q, _, rfl, upd_same, zs, rfl, Paired.monoR hB kz⟩
    · rcases ht with rfl | rfl
      · have hs := F.sl j _ hu
        cases s with
        | no => trivial
        | imm r a => obtain ⟨v, e1, e2⟩ := hs; exact ⟨v, e1, r.mono hB e2⟩
        | cel q c a => cases hc
        | tre q c a => cases hc
      · trivial
theorem ev_frzA {ro : Rp ρ} {b : ρ} {s : β ⊕ (Str × List α)} {y : Str × List α} [NoL ro] (hi : Γ[i]? = some (.tre v (tA rb (tP r)) s)) (hs : altR s = some y) (h : EvX ro te (frz Γ i (.imm (rOb (cTup (wC rStr (w1 (rOb (cLst r)))))) y)) (frz Γ i (.imm (rOb (cTup (wC rStr (w1 (rOb (cLst r)))))) y)) b) : EvX ro te Γ Γ b := fun A σ H B F Q q => by
  obtain ⟨l, zs, hBp, F'⟩ := frzA_in F hi hs
  refine h _ σ H _ F' _ fun v H2 B2 F2 s2 k2 => ?_
  obtain ⟨h1, h2, h3⟩ := frz_out F hBp F2 s2
  exact q v H2 _ h3 h2 (NoL.no h1 k2)
theorem et_frzA {tt : TT} {b : Bool} {s : β ⊕ (Str × List α)} {y : Str × List α} (hi : Γ[i]? = some (.tre v (tA rb (tP r)) s)) (hs : altR s = some y) (h : EvT tt (frz Γ i (.imm (rOb (cTup (wC rStr (w1 (rOb (cLst r)))))) y)) (frz Γ i (.imm (rOb (cTup (wC rStr (w1 (rOb (cLst r)))))) y)) b) : EvT tt Γ Γ b := fun A σ H B F Q q => by
  obtain ⟨l, zs, hBp, F'⟩ := frzA_in F hi hs
  refine h _ σ H _ F' _ fun H2 B2 F2 s2 => ?_
  obtain ⟨h1, h2, h3⟩ := frz_out F hBp F2 s2
  exact q H2 _ h3 h2
/-- x[1].append(e) -/
theorem sq_appA {a : α} {s : β ⊕ (Str × List α)} {y : Str × List α} (hi : Γ[i]? = some (.tre v (tA rb (tP r)) s)) (hs : altR s = some y) (he : EvK r te Γ a) (e : pyApp y.2 a = some ys) (k : Nx A (u D) (Γ.set i (.tre v (tA rb (tP r)) (.inr (y.1, ys) : β ⊕ (Str × List α))))) :
    Nx A (tSeq (tDrop (tBM K "list" rAppend (tOp (rIxT K) (tVar i) (tC (.int ((1 : Nat) : Int)))) (tCons te tNil))) u D) Γ := fun σ H B F => by
  cases s with
  | inl a => cases hs
  | inr b =>
    cases hs
    unfold pyApp at e
    split at e
    · rename_i hl
      cases e
      obtain ⟨ev, o0, ho, p, q, zs, rfl, hp, oq, hq, kz⟩ := F.sl i _ hi
      refine ⟨_, ev, p, _, ((1 : Nat) : Int), .ref q, rfl, rfl, SqT.of (F.bh _ _ hp), rfl, .inl ⟨rfl, zs, SqL.of hq⟩, he A σ H B F _ fun w kw => ?_⟩
      have hz : zs.length < sizeLine := by rw [Paired.len kz]; exact Nat.lt_of_lt_of_le hl (by decide)
      refine ⟨q, zs, w, rfl, rfl, hq, hz, k σ _ B ?_⟩
      have n := (ho q oq).1
      have m := (ho q oq).2.2
      have nt := Hot.nt (ho q oq) F.mh
      have zo : szO (.lst (zs ++ [w])) := by show (zs ++ [w]).length ≤ sizeLine; rw [List.length_append, List.length_singleton]; omega
      refine F.chg hi ⟨fun b u z => ?_, F.b0, fun b u nm ntb z => ?_, F.out, fun b n => ?_, F.sub, F.mh, F.ph, F.sz.upd zo, F.tb.upd nt⟩ (Same.refl _) fun ow hh so => ?_
      · have hb : b ≠ q := fun e => by rw [e, n] at z; cases z
        rw [upd_ne hb]; exact F.bh b u z
      · have hb : b ≠ q := fun e => by
          rcases m with m | m
          · rw [e, m] at z; cases z
          · rw [e] at nm; exact nm m
        rw [upd_ne hb]; exact F.keep b u nm ntb z
      · by_cases hb : b = q
        · rw [hb, upd_same]; simp
        · rw [upd_ne hb]; exact F.alive b n
      · obtain ⟨_, p2, q2, zs2, e3, hp2, oq2, hq2, kz2⟩ := so
        cases e3
        rw [hp] at hp2; cases hp2
        refine ⟨ow, fun b z => .inl z, fun b z => ?_, fun b h nb => ⟨h.1, fun u hu => ?_⟩, ev, p, q, zs ++ [w], rfl, hp, oq2, upd_same, Paired.app kz (.cons kw .nil)⟩
        · have h := hh b z
          refine ⟨h.1, ?_, h.2.2⟩
          by_cases hb : b = q
          · rw [hb, upd_same]; simp
          · rw [upd_ne hb]; exact h.2.1
        · have hb : b ≠ q := fun z => nb (by rw [z]; exact oq2)
          rw [upd_ne hb]; exact hu
    · cases e
end
/-! ### what may raise, and hands back what is new -/
def SpXC {ε α β : Type} (R : ER ε) (w : Rw α) (c : Cl β) (m : α → Option (Res ε β)) : Sp := fun vs H Q E => ∃ B a x, SzT H B ∧ Same B H ∧ w.rel B vs a ∧ m a = some x ∧ (∀ b, x = .ok b → RtC (amb0 B H) c b Q) ∧ ∀ e, x = .er e → RtE (amb0 B H) R e E
def EvRC {ε α : Type} (R : ER ε) (c : Cl α) (te : (L2.St → XK) → TE) (Γ Γ' : List Sl) (x : Res ε α) : Prop := ∀ (A : Amb) (σ : L2.St) (H B : Hp), Frm A σ H B Γ → ∀ (E : L2.St → XK) (Q : VK),
  (∀ b, x = .ok b → ∀ p o H' B', Frm (A.add p o) σ H' B' Γ' → A.H0 p = none → Same B B' → c.ok B' o b → Q (.ref p) H') → (∀ e, x = .er e → ∀ cls d H' B', Frm A σ H' B' Γ' → Same B B' → R B' cls d e → E σ cls d H') → te E σ H Q
section
variable {α β γ δ ε : Type} {R : ER ε} {c : Cl α} {te : (L2.St → XK) → TE} {Γ Γ1 : List Sl} {x : Res ε α} {b : α} {A : Amb} {D : Ends} {u : TS} {i : Nat}
theorem ec_ok (h : EvRC R c te Γ Γ1 x) (e : x = .ok b) (E : L2.St → XK) : EvC c (te E) Γ Γ1 b := fun A σ H B F Q q =>
  h A σ H B F E Q (fun y hy p o H' B' F' n s k => by rw [e] at hy; cases hy; exact q p o H' B' F' n s k) fun y hy => by rw [e] at hy; cases hy
/-- stored as one's own, or the error is passed on -/
theorem sq_asgRC {W : WX} {k : α → Option γ} {l : ε → Option γ} {z : γ} (h : EvRC R c te Γ Γ1 x) (e : resX x k l = some z) (ko : ∀ y, k y = some z → ∀ p, ¬ A.m p → Nx A (u D) (Γ1.set i (.cel p c y))) (ke : ∀ y, l y = some z → NxE W A Γ1 R y) : Nx A (tSeq (tAsg (te (WE W)) (gName i)) u D) Γ := fun σ H B F =>
  h A σ H B F _ _ (fun b hb p o H' B' F' n _ q => by
    rw [hb] at e
    have hm : ¬ A.m p := fun m => F.mh.al p m n
    exact ko b e p hm _ _ _ (F'.own1 n F.sub F.mh q)) (fun y hy cls d H' B' F' _ q => ke y (by rw [hy] at e; exact e) _ _ _ _ _ F' q)
theorem sq_dropRC {W : WX} {k : α → Option γ} {l : ε → Option γ} {z : γ} (h : EvRC R c te Γ Γ1 x) (e : resX x k l = some z) (ko : ∀ y, k y = some z → Nx A (u D) Γ1) (ke : ∀ y, l y = some z → NxE W A Γ1 R y) : Nx A (tSeq (tDrop (te (WE W))) u D) Γ := fun σ H B F =>
  h A σ H B F _ _ (fun b hb p o H' B' F' n _ q => ko b (by rw [hb] at e; exact e) _ _ _ (F'.drop n F.sub F.mh)) (fun y hy cls d H' B' F' _ q => ke y (by rw [hy] at e; exact e) _ _ _ _ _ F' q)
end
/-! ### methods with keyword-only parameters -/
def tMxK (C : Addr) (m : Str) (n k : Nat) (sp : Sp) (gV : List V → List V → List V) (E : L2.St → XK) (ta : TE) (t tk : TA) : TE := fun σ H Q => ta σ H fun x H1 => ∃ a dx fs, x = .ref a ∧ H1 a = some (.ins C dx fs) ∧ fs.lookup m = none ∧ t σ H1 fun vs H2 => tk σ H2 fun zs H3 => vs.length = n ∧ zs.length = k ∧ sp (gV (x :: vs) zs) H3 Q (E σ)
def tMxD (C : Addr) (m : Str) (sp : Sp) (dvs : List V) (E : L2.St → XK) (ta : TE) (t : TA) : TE := fun σ H Q => ta σ H fun x H1 => ∃ a dx fs, x = .ref a ∧ H1 a = some (.ins C dx fs) ∧ fs.lookup m = none ∧ t σ H1 fun vs H2 => sp (x :: vs ++ dvs) H2 Q (E σ)
section
variable {X : Cx} {CX : CXT} {k n : Nat} {f C : Addr} {fd : FuncData} {ps ks : List Str} {m : Str} {sp : Sp} {E : L2.St → XK} {o e : Expr} {es : List Expr} {kws : List Keyword} {ta : TE} {t tk : TA} {apos pos : Pos} {g : List Value → List Value → List Value} {gV : List V → List V → List V} {dvs : List V} {ds : List Value}
theorem run_fnNS {pins : List (Addr × Obj)} {σ : L2.St} {H : Hp} {s : Shared} {Q : VK} {us ws : List Value} {vs zs : List V} {E : XK} (F : FnOk X.prog X.w X.K X.mg X.base CX k f fd ps sp) (hr : Room k X.A) (hb : KBn X.K fd ps n ks g gV) (hx : PassesAt CX X σ E)
    (I : Inv X pins σ H s) (r : Vals vs us) (rz : Vals zs ws) (l1 : vs.length = n) (l2 : zs.length = ks.length) (h : sp (gV vs zs) H Q E) : wpAny (model X.prog X.w) X.A (call (.ref f) us (ks.zip ws)) (EP X pins σ Q) X.xe s := by
  have r2 := hb.rel r rz
  refine wpAny_call (codeAny_mono (F.run X.A X.stack s H ⟨us, ks.zip ws⟩ (g us ws) (gV vs zs) Q E hr I.env0 (hb.to s us ws I.kIn (r.length.symm.trans l1) (rz.length.symm.trans l2)) r2 h) fun r s' hq => ?_)
  cases r with
  | error e => exact hx pins H s e s' I hq
  | ok fl =>
    cases fl with
    | ret u => exact I.after hq
    | next => exact False.elim hq
    | brk => exact False.elim hq
    | cont => exact False.elim hq
/-- o.m(e, .., k = v, ..) -/
theorem pe_methXK {pl : Sem Bool} (he : PE X o ta) (c : Cls X.K C) (hm : Meth X.K C m f) (F : FnOk X.prog X.w X.K X.mg X.base CX k f fd ps sp) (hr : Room k X.A) (hb : KBn X.K fd ps (n + 1) ks g gV) (hx : ∀ σ, PassesAt CX X σ (E σ)) (ha : PA X (e :: es) t) (hkw : PK X kws tk)
    (hall : (backToKw pos (keywordEach kws X.env)).all (·.1.isSome) = true := by rfl) (hks : (backToKw pos (keywordEach kws X.env)).filterMap (·.1) = ks := by rfl)
    (hst : starEach (e :: es) X.env = (false, eval e X.env) :: starEach es X.env := by rfl) (hpl : ((backTo pos (starEach (e :: es) X.env)).any (·.1) || (backToKw pos (keywordEach kws X.env)).any (·.1.isNone)) = false := by rfl)
    (ht : eval (.Call (.Attribute o m apos) (e :: es) kws pos) X.env = (do
      let ov ← eval o X.env
      standAt apos.atName
      let (f, first) ← holding [ov] (getMethod ov m pl)
      callWith pos f first (backTo pos (starEach (e :: es) X.env)) (backToKw pos (keywordEach kws X.env))) := by rfl) :
    PE X (.Call (.Attribute o m apos) (e :: es) kws pos) (tMxK C m n ks.length sp gV E ta t tk) := by
  refine ⟨fun pins s σ H Q I h => ?_⟩
  refine PySem.W.methodCall_KW (pl := pl) (thn (he.run pins s σ H _ I h) fun u s1 ⟨x, H1, I1, rx, a, dx, fs, ex, ea, l, q⟩ => ?_) ht
  subst ex
  obtain rfl : u = Value.ref a := rx
  refine getmeth_ok I1 ea c hm l ?_
  refine PySem.W.callWith_KW (first := [.ref a]) (h₀ := X.base) I.ok.mod.kin hm.kp hall (thn (ha.run pos pins s1 σ H1 _ I1 q) fun us s2 ⟨vs, H2, I2, r, q2⟩ => ?_) hpl hst
  refine thn (hkw.run pos pins s2 σ H2 _ I2 q2) fun ws s3 ⟨zs, H3, I3, rz, l1, l2, q3⟩ => ⟨I3.kIn, ?_⟩
  rw [hks]
  exact run_fnNS (us := .ref a :: us) (vs := .ref a :: vs) F hr hb (hx σ) I3 (.cons rfl r) rz (by rw [List.length_cons, l1]) l2 q3
/-- o.m(e, ..), the rest by defaults -/
theorem pe_methXD {pl : Sem Bool} (he : PE X o ta) (c : Cls X.K C) (hm : Meth X.K C m f) (F : FnOk X.prog X.w X.K X.mg X.base CX k f fd ps sp) (hr : Room k X.A) (hb : Binds X.K fd ps ds) (hd : Vals dvs ds) (hx : ∀ σ, PassesAt CX X σ (E σ)) (ha : PA X (e :: es) t)
    (hst : starEach (e :: es) X.env = (false, eval e X.env) :: starEach es X.env := by rfl) (hpl : (backTo pos (starEach es X.env)).any (·.1) = false := by rfl)
    (ht : eval (.Call (.Attribute o m apos) (e :: es) [] pos) X.env = (do
      let ov ← eval o X.env
      standAt apos.atName
      let (f, first) ← holding [ov] (getMethod ov m pl)
      callWith pos f first (backTo pos (starEach (e :: es) X.env)) (backToKw pos (keywordEach [] X.env))) := by rfl) :
    PE X (.Call (.Attribute o m apos) (e :: es) [] pos) (tMxD C m sp dvs E ta t) := by
  refine ⟨fun pins s σ H Q I h => ?_⟩
  refine PySem.W.methodCall_KW (pl := pl) (thn (he.run pins s σ H _ I h) fun u s1 ⟨x, H1, I1, rx, a, dx, fs, ex, ea, l, q⟩ => ?_) ht
  subst ex
  obtain rfl : u = Value.ref a := rx
  refine getmeth_ok I1 ea c hm l ?_
  refine PySem.W.callWith_K (first := [.ref a]) (h₀ := X.base) I.ok.mod.kin hm.kp (thn (ha.run pos pins s1 σ H1 _ I1 q) fun us s2 ⟨vs, H2, I2, r, q2⟩ => ⟨I2.kIn, ?_⟩) hst hpl
  exact run_fnSD (us := .ref a :: us) (vs := .ref a :: vs) F hr hb hd (hx σ) I2 (.cons rfl r) q2
end
section
variable {α β γ δ κ ε : Type} {w : Rw α} {w' : Rw β} {wk : Rw κ} {c : Cl γ} {Γ Γ1 Γ2 Γ3 : List Sl} {te : TE} {ta tk : TA} {a : α} {b : β} {y : κ} {R : ER ε} {C : Addr} {names : List Str} {nm : Str} {dvs : List V} {n : Nat}
/-- the keyword's value stands last -/
theorem er_methK1 {rk : Rp κ} [WLen w' n] {wf : Rw (α × δ)} {f : β → κ → δ} {m : α × δ → Option (Res ε γ)} {x : Res ε γ} (h : EvX (rIns C names w) te Γ Γ1 a) (hb : EvW w' ta Γ1 Γ2 b) (hk : EvW (w1 rk) tk Γ2 Γ3 y) (ap : ∀ B v vs u, (rIns C names w).rel B v a → w'.rel B vs b → rk.rel B u y → wf.rel B (v :: vs ++ [u]) (a, f b y)) (e : m (a, f b y) = some x) (hn : nm ∉ names) :
    EvRC R c (fun E => tMxK C nm n 1 (SpXC R wf c m) (fun vs zs => vs ++ zs) E te ta tk) Γ Γ3 x := fun A σ H B F E Q qo qe => h A σ H B F _ fun v H1 B1 F1 s1 k1 => by
  obtain ⟨p, dx, vs, rfl, hp, l, kw⟩ := ob_ins F1.bh k1
  refine ⟨p, dx, _, rfl, hp, ins_no hn, hb A σ H1 B1 F1 _ fun us H2 B2 F2 s2 k2 => hk A σ H2 B2 F2 _ fun zs H3 B3 F3 s3 ⟨z, ez, kz⟩ => ?_⟩
  subst ez
  exact ⟨WLen.len k2, rfl, B3, (a, f b y), x, F3.szt, F3.bh, ap B3 _ us z ((rIns C names w).mono (s2.trans s3) k1) (w'.mono s3 k2) kz, e, fun g hg q o H4 B4 P hq k4 => qo g hg q o H4 B4 (F3.afterC P hq) (F3.H0none hq) (((s1.trans s2).trans s3).trans P.b0) k4, fun g hg cls d H4 B4 P k4 => qe g hg cls d H4 B4 (F3.after P) (((s1.trans s2).trans s3).trans P.b0) k4⟩
theorem er_methD {wf : Rw (α × δ)} {f : β → δ} {m : α × δ → Option (Res ε γ)} {x : Res ε γ} (h : EvX (rIns C names w) te Γ Γ1 a) (hb : EvW w' ta Γ1 Γ2 b) (ap : ∀ B v vs, (rIns C names w).rel B v a → w'.rel B vs b → wf.rel B (v :: vs ++ dvs) (a, f b)) (e : m (a, f b) = some x) (hn : nm ∉ names) :
    EvRC R c (fun E => tMxD C nm (SpXC R wf c m) dvs E te ta) Γ Γ2 x := fun A σ H B F E Q qo qe => h A σ H B F _ fun v H1 B1 F1 s1 k1 => by
  obtain ⟨p, dx, vs, rfl, hp, l, kw⟩ := ob_ins F1.bh k1
  refine ⟨p, dx, _, rfl, hp, ins_no hn, hb A σ H1 B1 F1 _ fun us H2 B2 F2 s2 k2 => ?_⟩
  exact ⟨B2, (a, f b), x, F2.szt, F2.bh, ap B2 _ us ((rIns C names w).mono s2 k1) k2, e, fun g hg q o H4 B4 P hq k4 => qo g hg q o H4 B4 (F2.afterC P hq) (F2.H0none hq) ((s1.trans s2).trans P.b0) k4, fun g hg cls d H4 B4 P k4 => qe g hg cls d H4 B4 (F2.after P) ((s1.trans s2).trans P.b0) k4⟩
end
end G
namespace G
variable [TabL]
open PySem PySem.Spec PyProof.Rows L2
theorem ev_nonO {α : Type} {r : Rp α} {te : TE} {Γ Γ1 : List Sl} {a : Unit} (h : EvX rNon te Γ Γ1 a) : EvX (rOpt r) te Γ Γ1 none := fun A σ H B F Q q => h A σ H B F Q fun v H' B' F' s k => q v H' B' F' s k
end G

set_option maxHeartbeats 4000000
/-! # G: sorted by a lambda: the calls of the lambda, over the heap -/
namespace G
open PySem PySem.Spec PySem.Calls PyProof.Rows L2
section
variable {prog : Program} {w : World} {A : Around} {s : Shared}
abbrev lamPs (x : Str) (ap : Pos) : Arguments := { posonlyargs := [], args := [{ arg := x, annotation := none, pos := ap }], vararg := none, kwonlyargs := [], kw_defaults := [], kwarg := none, defaults := [] }
abbrev lamSc (x : Str) : Scope := { kind := .function, names := [(x, .local)], isGenerator := false, isCoroutine := false, more := [] }
theorem lam_call {f c' : Addr} {qual x : Str} {ap : Pos} {body : Expr} {pm ctv v : Value} {Q : Value → Shared → Prop}
    (hr : A.depth < recursionLimit) (hf : s.heap.get? f = some (PySem.W.kla_obj "<lambda>" qual (lamPs x ap) body (lamSc x) [] pm c' ctv)) (hcd : s.heap.CodeRec (.ref c') qual) (hl : s.heap.NoLimit) (hb : bindArgs (PySem.W.kla_fn "<lambda>" qual (lamPs x ap) body (lamSc x) [] pm (.ref c') ctv) ⟨[v], []⟩ = pure [(x, v)])
    (h : ∀ h₁ : Heap, (∀ b o, s.heap.get? b = some o → h₁.get? b = some o) → h₁.Ns s.heap.objs.size (fun y => ([(x, v)] : List (Str × Value)).reverse.lookup y) →
      wpAny (model prog w) (A.deeper (PySem.W.envX qual (lamSc x) s.heap.objs.size f (.ref c') [])) (eval body (PySem.W.envX qual (lamSc x) s.heap.objs.size f (.ref c') [])) Q (fun _ _ => False) { s with heap := h₁, toks := s.toks + 1 }) :
    wpAny (model prog w) A (call (.ref f) [v]) Q (fun _ _ => False) s := by
  refine wpAny_call (codeAny_mono (R := fun r s' => match r with | .ok (.ret u) => Q u s' | _ => False) ?_ fun r s' hq => ?_)
  · refine PySem.W.kla_callFunE hr hf rfl rfl rfl rfl hcd ?_
    rw [hb]
    refine wpAny_pure (wpAny_newFunctionEnv (fun y hy => by rw [List.mem_singleton.mp hy]; exact fun z => nomatch z) (fun y hy => by rw [List.mem_singleton.mp hy]; simp [List.lookup]) (fun h₁ hns hsb => ⟨hl.fresh _ hsb, ?_⟩) rfl)
    have kp : ∀ b o, s.heap.get? b = some o → h₁.get? b = some o := fun b o e => hsb.extBut b o (Nat.ne_of_lt (Heap.lt_size e)) (Heap.get?_push_of_some _ e)
    exact PySem.W.kla_codeExpr (wpAny_mono (h h₁ kp hns) (fun v s' hv => hv) fun _ _ z => z.elim)
  · cases r with
    | error e => exact hq
    | ok fl => cases fl <;> first | exact hq | exact hq.elim
/-- c[:k], c a tuple of more than k items -/
theorem lam_cut {f c' t : Addr} {qual x : Str} {ap q1 q2 q3 q4 : Pos} {n : Nat} {j : Nat} {pm ctv : Value} {items : Array Value} {k : PyData}
    (hr : A.depth < recursionLimit) (hf : s.heap.get? f = some (PySem.W.kla_obj "<lambda>" qual (lamPs x ap) (.Subscript (.Name x q1) (.Slice none (some (.Constant (.int (n : Int)) j q2)) none q3) q4) (lamSc x) [] pm c' ctv)) (hcd : s.heap.CodeRec (.ref c') qual) (hl : s.heap.NoLimit)
    (hb : bindArgs (PySem.W.kla_fn "<lambda>" qual (lamPs x ap) (.Subscript (.Name x q1) (.Slice none (some (.Constant (.int (n : Int)) j q2)) none q3) q4) (lamSc x) [] pm (.ref c') ctv) ⟨[.ref t], []⟩ = pure [(x, .ref t)])
    (ht : IsTup s.heap t items) (hn : n < items.size) (hz : items.size ≤ sizeLine)
    (hk : ∀ (h' : Heap) (p : Addr), (∀ b o, s.heap.get? b = some o → h'.get? b = some o) → IsTup h' p (items.toList.take n).toArray → Reads h' (.ref p) k []) (hd : (x == ("__debug__" : Str)) = false := by decide) :
    wpAny (model prog w) A (call (.ref f) [.ref t]) (PySem.W.KeyPure k s) (fun _ _ => False) s := by
  refine lam_call hr hf hcd hl hb fun h₁ kp hns => ?_
  have hlk : (lamSc x).names.lookup x = some .local := by simp [List.lookup]
  have hx : ([(x, Value.ref t)] : List (Str × Value)).reverse.lookup x = some (.ref t) := by simp [List.lookup]
  refine Subscript_ (wpAny_Name (wpAny_loadName_local rfl hlk hns hx ?_) hd)
  refine wpAny_Slice ?_
  rw [evalPart_none]
  refine wpAny_pure ?_
  rw [evalPart_some]
  refine wpAny_Constant_int ?_
  refine wpAny_pure ?_
  have ht1 : IsTup (h₁.push { cls := .type "slice", data := .fields #[.none, .int (n : Int) (s.toks + 1), .none] }) t items := ht.keeps fun b o e => Heap.get?_push_of_some _ (kp b o e)
  refine tail_any (ops := [.ref h₁.objs.size, .ref t]) ht1.typeIs PyProof.Rows.slot_tuple_getitem.lookup (HT.getItem_tuple_cut ht1 (Heap.IsSliceOf.new ..) .none (.int _ _) ?_ ?_ hz) (by with_unfolding_all rfl)
  · rw [HT.sIx_nat, HT.sIx_none]; omega
  · have e1 : HT.sIx items.size items.size (some (n : Int)) = n := by rw [HT.sIx_nat]; omega
    rw [e1, HT.sIx_none, List.drop_zero, Nat.sub_zero]
    have kp2 : ∀ b o, s.heap.get? b = some o → ((h₁.push { cls := .type "slice", data := .fields #[.none, .int (n : Int) (s.toks + 1), .none] }).push { cls := .type "tuple", data := .seq (items.toList.take n).toArray }).get? b = some o := fun b o e => Heap.get?_push_of_some _ (Heap.get?_push_of_some _ (kp b o e))
    exact ⟨_, _, rfl, kp2, hk _ _ kp2 (IsTup.new _ _)⟩
end
end G

set_option maxHeartbeats 4000000
/-! # G: a lambda is made -/
namespace G
open PySem PySem.Spec PySem.Calls PyProof.Rows L2 LamX
/-- the heap behind the making of a lambda: as it was, or a code object more -/
def LamH (P : Addr) (q : Str) (ps : Array Value) (H H2 : Hp) : Prop := H2 = H ∨ ∃ (c' : Addr) (more : Array Value), H c' = none ∧ c' ≠ P ∧ TriplesOk (ps ++ more).toList ∧ (∀ (pos : Pos) (cv : Value), codeAmong pos (ps ++ more).toList = some cv → codeAmong pos ps.toList = some cv ∨ cv = .ref c') ∧ H2 = upd (upd H P (.tbl (ps ++ more))) c' (CodeO c' q)
section
variable {X : Cx} {pins : List (Addr × Obj)} {σ : L2.St} {H : Hp} {s : Shared}
theorem lam_make {c P : Addr} {x : Str} {ap : Pos} {body : Expr} {pos : Pos} {ps : Array Value} {E : Value → Shared → Prop} {Q : Value → Shared → Prop} (I : Inv X pins σ H s) (TB : TabB X.base X.mg c P) (hcode : X.env.code = .ref c)
    (hP : H P = some (.tbl ps)) (ht : TriplesOk ps.toList) (ha : ∀ (pos : Pos) (cv : Value), codeAmong pos ps.toList = some cv → ∃ c, cv = .ref c ∧ H c = some (CodeO c (X.env.qual ++ "<lambda>")))
    (h : ∀ (f c' : Addr) (pm ctv : Value) (H1 : Hp) (s' : Shared), Inv X pins σ H1 s' → LamH P (X.env.qual ++ "<lambda>") ps H H1 →
      s'.heap.get? f = some (PySem.W.kla_obj "<lambda>" (X.env.qual ++ "<lambda>") (lamPs x ap) body (lamSc x) [] pm c' ctv) → H1 c' = some (CodeO c' (X.env.qual ++ "<lambda>")) → Q (.ref f) s') :
    wpAny (model X.prog X.w) X.A (eval (.Lambda (lamPs x ap) body (lamSc x) pos) X.env) Q E s := by
  refine PySem.W.kla_eval rfl ?_
  have bP : s.heap.BuiltinsAt X.mg P := TB.bm.keeps I.bk
  have hP' : s.heap.get? P = some { cls := .none, data := .fields ps } := I.hok P _ hP
  have hcl : closureFor (lamSc x) X.env = pure [] := rfl
  cases hc : codeAmong pos ps.toList with
  | none =>
    refine PySem.W.kla_makeFunction (mg := X.mg) (c := c) (P := P) (ps := ps) hcl I.ok.glob (I.mod.glob.keeps I.bk) hcode (TB.code.keeps I.bk) hP' ht hc TB.gP bP fun c' ctv h' tk hx hge hlt hrec htb => ?_
    obtain ⟨c2, oc, vs, t, e2, hoc, hd, hv⟩ := hrec
    cases e2
    have nC : H c' = none := I.hok.fresh hge
    have nPc : c' ≠ P := fun z => by rw [z, hP] at nC; cases nC
    have eL : (ps ++ #[rawInt pos.line, rawInt pos.col, .ref c']).toList = ps.toList ++ [rawInt pos.line, rawInt pos.col, .ref c'] := by simp
    have I1 := inv_table (t' := tk) (more := #[rawInt pos.line, rawInt pos.col, .ref c']) (h' := h'.push (PySem.W.kla_obj "<lambda>" (X.env.qual ++ "<lambda>") (lamPs x ap) body (lamSc x) [] ((X.mg "__name__").getD .none) c' ctv)) I hP
      (fun b o hb e => Heap.get?_push_of_some _ (hx b o hb e)) (Heap.get?_push_of_some _ htb) hge ⟨oc, vs, t, Heap.get?_push_of_some _ hoc, hd, hv⟩
    refine h h'.objs.size c' ((X.mg "__name__").getD .none) ctv _ _ I1 (.inr ⟨c', #[rawInt pos.line, rawInt pos.col, .ref c'], nC, nPc, by rw [eL]; exact PySem.TriplesOk_snoc _ _ _ _ ht, fun p' cv hcv => ?_, rfl⟩) (Heap.get?_push_size _ rfl) upd_same
    rw [eL] at hcv
    exact among_app _ ht hcv
  | some cv =>
    obtain ⟨c', e, hco⟩ := ha pos cv hc
    subst e
    refine PySem.W.kla_makeFunctionHit (mg := X.mg) (c := c) (P := P) (ps := ps) hcl I.ok.glob (I.mod.glob.keeps I.bk) hcode (TB.code.keeps I.bk) hP' ht hc bP fun ctv h' tk hx hsz => ?_
    have I1 : Inv X pins σ H { s with heap := h'.push (PySem.W.kla_obj "<lambda>" (X.env.qual ++ "<lambda>") (lamPs x ap) body (lamSc x) [] ((X.mg "__name__").getD .none) c' ctv), toks := tk } := I.kept fun b o e => Heap.get?_push_of_some _ (hx b o e)
    exact h h'.objs.size c' ((X.mg "__name__").getD .none) ctv H _ I1 (.inl rfl) (Heap.get?_push_size _ rfl) hco
end
end G

set_option maxHeartbeats 4000000
/-! # G: sorted by the first two parts of tuples -/
namespace G
open PySem PySem.Spec PySem.Calls PyProof.Rows L2 LamX
abbrev PK2 := Str × List Int
def keyP (k : PK2) : PyData := .tuple [.str k.1, .tuple (k.2.map .int)]
theorem ltI_data : ∀ xs ys : List Int, PySem.W.dataLt (.tuple (xs.map .int)) (.tuple (ys.map .int)) = ltI xs ys
  | [], [] => PySem.W.dataLt_self _
  | [], y :: ys => by
    rw [PySem.W.dataLt_tuple]
    unfold ltI
    rfl
  | x :: xs, [] => by
    rw [PySem.W.dataLt_tuple]
    unfold ltI
    rfl
  | x :: xs, y :: ys => by
    have ih := ltI_data xs ys
    rw [PySem.W.dataLt_tuple] at ih ⊢
    rw [List.map_cons, List.map_cons, PySem.W.dataLt_cons (by simp [PySem.W.alike]), ih]
    unfold ltI
    by_cases h : x = y
    · rw [if_pos h, if_pos (by rw [h]; simp [PyData.eqv])]
      conv => rhs; unfold ltI
    · rw [if_neg h, if_neg (by simp [PyData.eqv, h]), PySem.W.dataLt_int]
theorem eqv_ints : ∀ xs ys : List Int, PyData.eqvAll (xs.map .int) (ys.map .int) = true → xs = ys
  | [], [], _ => rfl
  | [], y :: ys, h => by simp [PyData.eqvAll] at h
  | x :: xs, [], h => by simp [PyData.eqvAll] at h
  | x :: xs, y :: ys, h => by
    rw [List.map_cons, List.map_cons] at h
    unfold PyData.eqvAll at h
    obtain ⟨h1, h2⟩ := Bool.and_eq_true_iff.mp h
    rw [eqv_ints xs ys h2]
    unfold PyData.eqv at h1
    rw [eq_of_beq h1]
theorem ltP_data (a b : PK2) : PySem.W.dataLt (keyP a) (keyP b) = ltP a b := by
  unfold keyP ltP
  rw [PySem.W.dataLt_pair (by simp [PySem.W.alike]) (by simp only [PySem.W.alike]; exact PySem.W.alike_ints _ _), ltI_data, PySem.W.dataLt_str]
  by_cases h : a.1 = b.1
  · rw [if_pos h, if_pos (by rw [h]; simp [PyData.eqv])]
    split
    · rename_i e
      have : a.2 = b.2 := eqv_ints _ _ (by unfold PyData.eqv at e; exact e)
      rw [this]; exact (ltI_irr _).symm
    · rfl
  · rw [if_neg h, if_neg (by simp [PyData.eqv, h])]
    rfl
/-! ### an item -/
def ItemP (K : PySem.W.Frag) (H : Hp) (v : V) (k : PK2) : Prop := ∃ t ys q, v = .ref t ∧ SqT K H t ys ∧ 2 < ys.length ∧ ys[0]? = some (.str k.1) ∧ ys[1]? = some (.ref q) ∧ SqT K H q (k.2.map V.int)
theorem vals_at {vs : List V} {us : List Value} (h : Vals vs us) : ∀ {i : Nat} {v : V}, vs[i]? = some v → ∃ u, us[i]? = some u ∧ RelV v u := by
  induction h with
  | nil => intro i v e; simp at e
  | cons r t ih =>
    intro i v e
    cases i with
    | zero => cases e; exact ⟨_, rfl, r⟩
    | succ i => exact ih (by simpa using e)
theorem reads_ints {h : Heap} : ∀ {ns : List Int} {us : List Value}, Vals (ns.map V.int) us → ReadsAll h us (ns.map .int) []
  | [], _, .nil => .nil
  | n :: ns, _, .cons r t => by
    obtain ⟨tk, rfl⟩ := r
    exact .cons (as := []) (.int n tk) (reads_ints t)
theorem key_reads {X : Cx} {pins : List (Addr × Obj)} {σ : L2.St} {H : Hp} {s : Shared} {v : V} {u : Value} {k : PK2} (I : Inv X pins σ H s) (h : ItemP X.K H v k) (r : RelV v u) :
    ∃ (t : Addr) (items : Array Value), u = .ref t ∧ IsTup s.heap t items ∧ 2 < items.size ∧ items.size ≤ sizeLine ∧ ∀ (h' : Heap) (p : Addr), (∀ b o, s.heap.get? b = some o → h'.get? b = some o) → IsTup h' p (items.toList.take 2).toArray → Reads h' (.ref p) (keyP k) [] := by
  obtain ⟨t, ys, q, rfl, ht, hl, h0, h1, hq⟩ := h
  obtain ⟨its, rv, tt, hz⟩ := I.tuple ht
  obtain ⟨its2, rv2, tt2, _⟩ := I.tuple hq
  have e := rv.length
  refine ⟨t, its.toArray, r, tt, by rw [List.size_toArray]; omega, by rw [List.size_toArray, ← e]; exact hz, fun h' p kp hp => ?_⟩
  obtain ⟨u0, e0, r0⟩ := vals_at rv h0
  obtain ⟨u1, e1, r1⟩ := vals_at rv h1
  obtain ⟨tk, rfl⟩ := r0
  cases (show u1 = Value.ref q from r1)
  have e2 : its.toArray.toList.take 2 = [.str k.1 tk, .ref q] := by
    rw [List.toList_toArray]
    match its, e0, e1 with
    | a :: b :: rest, e0, e1 => cases e0; cases e1; rfl
  rw [e2] at hp
  obtain ⟨o, ho, hc, n, hd⟩ := hp
  obtain ⟨o2, ho2, hc2, n2, hd2⟩ := tt2.keeps kp
  exact .tuple (as := []) ho hc hd (.cons (as := []) (.str k.1 tk) (.cons (as := []) (.tuple (as := []) ho2 hc2 hd2 (reads_ints rv2)) .nil))
variable [TabL]
/-- a lambda's making leaves the items -/
theorem sqT_lam {K : PySem.W.Frag} {H H2 : Hp} {P t : Addr} {q : Str} {ps : Array Value} {ys : List V} (L : LamH P q ps H H2) (hP : H P = some (.tbl ps)) (h : SqT K H t ys) : SqT K H2 t ys := by
  rcases L with rfl | ⟨c', more, n, ne, _, _, rfl⟩
  · exact h
  · rcases h with h | h
    · left
      have k : ∀ o, H t = some o → (∀ ps, o ≠ .tbl ps) → upd (upd H P (.tbl (ps ++ more))) c' (CodeO c' q) t = some o := fun o e nt => by
        rw [upd_ne (show t ≠ c' from fun z => by rw [z, n] at e; cases e), upd_ne (show t ≠ P from fun z => by rw [z, hP] at e; exact nt _ (Option.some.inj e).symm)]
        exact e
      rcases h with h | ⟨o, h⟩
      · exact .inl (k _ h fun _ z => nomatch z)
      · exact .inr ⟨o, k _ h fun _ z => nomatch z⟩
    · exact .inr h
theorem item_lam {K : PySem.W.Frag} {H H2 : Hp} {P : Addr} {q : Str} {ps : Array Value} {v : V} {k : PK2} (L : LamH P q ps H H2) (hP : H P = some (.tbl ps)) (h : ItemP K H v k) : ItemP K H2 v k := by
  obtain ⟨t, ys, r, e, ht, hl, h0, h1, hr⟩ := h
  exact ⟨t, ys, r, e, sqT_lam L hP ht, hl, h0, h1, sqT_lam L hP hr⟩
theorem each_of {K : PySem.W.Frag} {H : Hp} : ∀ {vs : List V} {us : List Value} {ks : List PK2}, Vals vs us → Paired (ItemP K H) vs ks → PySem.W.EachIs (fun (u : Value) (b : V × PK2) => RelV b.1 u ∧ ItemP K H b.1 b.2) us (vs.zip ks)
  | [], [], [], .nil, .nil => .nil
  | v :: vs, u :: us, k :: ks, .cons r t, .cons q p => .cons ⟨r, q⟩ (each_of t p)
theorem vals_each {K : PySem.W.Frag} {H : Hp} : ∀ {us : List Value} {bs : List (V × PK2)}, PySem.W.EachIs (fun (u : Value) (b : V × PK2) => RelV b.1 u ∧ ItemP K H b.1 b.2) us bs → Vals (bs.map (·.1)) us
  | [], [], .nil => .nil
  | u :: us, b :: bs, .cons r t => .cons r.1 (vals_each t)
def leP (a b : V × PK2) : Bool := !ltP b.2 a.2
/-- sorted(e, key=lambda x: x[:2]) -/
def tSortLam (K : PySem.W.Frag) (P : Addr) (q : Str) (te : TE) : TE := fun σ H Q => te σ H fun v H1 => ∃ a vs ks ps, v = .ref a ∧ SqL K H1 a vs ∧ Paired (ItemP K H1) vs ks ∧ H1 P = some (.tbl ps) ∧ TriplesOk ps.toList ∧
  (∀ (pos : Pos) (cv : Value), codeAmong pos ps.toList = some cv → ∃ c, cv = .ref c ∧ H1 c = some (CodeO c q)) ∧ ∀ H2 D, LamH P q ps H1 H2 → H2 D = none → Q (.ref D) (upd H2 D (.lst (((vs.zip ks).mergeSort leP).map (·.1))))
section
variable {X : Cx} {pins : List (Addr × Obj)} {σ : L2.St} {H : Hp} {s : Shared} {K : PySem.W.Frag}
theorem sort_run {f c' a : Addr} {x : Str} {ap q1 q2 q3 q4 : Pos} {j : Nat} {qual : Str} {pm ctv : Value} {vs : List V} {ks : List PK2} {Q : VK} (I : Inv X pins σ H s) (hr : Room 2 X.A) (hl : SqL X.K H a vs) (hp : Paired (ItemP X.K H) vs ks)
    (hf : s.heap.get? f = some (PySem.W.kla_obj "<lambda>" qual (lamPs x ap) (.Subscript (.Name x q1) (.Slice none (some (.Constant (.int 2) j q2)) none q3) q4) (lamSc x) [] pm c' ctv)) (hc : H c' = some (CodeO c' qual))
    (hb : ∀ v : Value, bindArgs (PySem.W.kla_fn "<lambda>" qual (lamPs x ap) (.Subscript (.Name x q1) (.Slice none (some (.Constant (.int 2) j q2)) none q3) q4) (lamSc x) [] pm (.ref c') ctv) ⟨[v], []⟩ = pure [(x, v)])
    (q : ∀ D, H D = none → Q (.ref D) (upd H D (.lst (((vs.zip ks).mergeSort leP).map (·.1))))) (hd : (x == ("__debug__" : Str)) = false := by decide) :
    wpAny (model X.prog X.w) X.A (call (.builtin "sorted") [.ref a] [(Str.ofString "key", .ref f)]) (EP X pins σ Q) X.xe s := by
  obtain ⟨its, rv, pl, hz⟩ := I.list hl
  have e := each_of rv hp
  have hlen : (vs.zip ks).length = vs.length := by rw [List.length_zip, Paired.len hp, Nat.min_self]
  have dep : ∀ k : PK2, (keyP k).depth ≤ 2 := fun k => by
    unfold keyP
    have := PySem.W.depth_ints k.2
    simp only [PyData.depth, PyData.depthAll, this]
    decide
  refine PySem.W.sorted_key_data (b := false) (fun b : V × PK2 => keyP b.2) pl.isList e (PySem.W.AllAlike.of fun a b => by
      unfold keyP
      simp only [PySem.W.alike, PySem.W.alikeAll, PySem.W.alike_ints, Bool.and_self]) (PySem.W.Sortable.tuples fun b => ⟨_, _, rfl⟩) (by rw [hlen]; exact hz) (fun b _ => ?_) (PyProof.Rows.ksk_s1 _ _) (fun _ => PyProof.Rows.ksk_l1 _ _) (fun _ => PyProof.Rows.ksk_t1 _ _)
    (fun v b hR hm h tk kp => ?_) fun out c h' tk kp fresh hD hol eo => ?_
  · have := dep b.2
    have := hr.un
    omega
  · obtain ⟨t, items, rfl, tt, h2, h3, hk⟩ := key_reads I hR.2 hR.1
    obtain ⟨⟨oc, ws, tq, hoc, hdc, hvc⟩, _, _⟩ := I.hok c' _ hc
    refine lam_cut (s := { s with heap := h, toks := tk }) (n := 2) (items := items) (k := keyP b.2) (by
      have := hr.dp
      show X.A.depth < _
      omega) (kp _ _ hf) ⟨c', oc, ws, tq, rfl, kp _ _ hoc, hdc, hvc⟩ (I.nolimit.keeps kp) (hb _) (tt.keeps kp) h2 h3 (fun h2 p kp2 hp => hk h2 p (fun b o e => kp2 b o (kp b o e)) hp) hd
  · have ev := vals_each eo
    have el : PySem.W.dataLe false (fun b : V × PK2 => keyP b.2) = leP := by
      funext a b
      show (!PySem.W.dataLt (keyP b.2) (keyP a.2)) = _
      rw [ltP_data]; rfl
    rw [el] at ev
    have hlen2 : (((vs.zip ks).mergeSort leP).map (·.1)).length ≤ sizeLine := by
      rw [List.length_map, List.length_mergeSort, hlen]; exact hz
    exact ⟨.ref _, upd H (s.heap.objs.size + 1) (.lst (((vs.zip ks).mergeSort leP).map (·.1))), I.laid (t' := tk) kp (Nat.le_succ _) ⟨hlen2, out, c, ev, hD⟩, rfl, q _ (I.hok.fresh (Nat.le_succ _))⟩
end
end G

set_option maxHeartbeats 4000000
/-! # G: sorted(e, key=lambda x: x[:2]) -/
namespace G
variable [TabL]
open PySem PySem.Spec PySem.Calls PyProof.Rows L2 LamX
section
variable {X : Cx} {K : PySem.W.Frag} {e : Expr} {te : TE}
theorem pe_sortLam {c P : Addr} {x q : Str} {ap q1 q2 q3 q4 p0 lp kp pos : Pos} {j : Nat} (hK : X.K = K) (hr : Room 2 X.A) (hg : Gl X "sorted") (hm : X.mg "sorted" = none) (TB : TabB X.base X.mg c P) (hcode : X.env.code = .ref c) (hq : q = X.env.qual ++ "<lambda>") (he : PE X e te)
    (hb : ∀ (qual : Str) (c' : Addr) (pm ctv v : Value), bindArgs (PySem.W.kla_fn "<lambda>" qual (lamPs x ap) (.Subscript (.Name x q1) (.Slice none (some (.Constant (.int 2) j q2)) none q3) q4) (lamSc x) [] pm (.ref c') ctv) ⟨[v], []⟩ = pure [(x, v)])
    (hse : starEach [e] X.env = (false, eval e X.env) :: starEach [] X.env := by rfl) (hbe : backTo pos (starEach [e] X.env) = (false, eval e X.env) :: backTo pos (starEach [] X.env) := by rfl) (hpl : (backTo pos (starEach [e] X.env)).any (·.1) = false := by rfl) (hd : (x == ("__debug__" : Str)) = false := by decide) :
    PE X (.Call (.Name "sorted" p0) [e] [⟨some "key", .Lambda (lamPs x ap) (.Subscript (.Name x q1) (.Slice none (some (.Constant (.int 2) j q2)) none q3) q4) (lamSc x) lp, kp⟩] pos) (tSortLam K P q te) := by
  subst hK
  subst hq
  refine ⟨fun pins s σ H Q I h => ?_⟩
  refine wpAny_Call_Name_kw (ld_blt (u := .builtin "sorted") I hg hm (by kernel_rfl) ?_ (by decide) (by decide))
  refine PyProof.Rows.callWith_kw (thn ((pa_cons he pa_nil hse).run pos pins s σ H (fun vs H1 => match vs with | [v] => ∃ a xs ks ps, v = .ref a ∧ SqL X.K H1 a xs ∧ Paired (ItemP X.K H1) xs ks ∧ H1 P = some (.tbl ps) ∧ TriplesOk ps.toList ∧
      (∀ (pos : Pos) (cv : Value), codeAmong pos ps.toList = some cv → ∃ c, cv = .ref c ∧ H1 c = some (CodeO c (X.env.qual ++ "<lambda>"))) ∧ ∀ H2 D, LamH P (X.env.qual ++ "<lambda>") ps H1 H2 → H2 D = none → Q (.ref D) (upd H2 D (.lst (((xs.zip ks).mergeSort leP).map (·.1)))) | _ => False) I ?_) fun us s1 ⟨vs, H1, I1, r1, q1⟩ => ?_) hbe hpl rfl rfl
  · exact h
  · obtain ⟨v, rfl⟩ : ∃ v, vs = [v] := by
      match vs, q1 with
      | [v], _ => exact ⟨v, rfl⟩
    obtain ⟨a, xs, ks, ps, rfl, hl, hp, hP, ht, ha, q⟩ := q1
    obtain rfl := Vals.ref1 r1
    show wpAny _ _ (evalAll ((do let v ← eval _ X.env; standAt pos; pure v) :: [])) _ _ s1
    refine wpAny_evalAll_cons (wpAny_bind (lam_make I1 TB hcode hP ht ha fun f c' pm ctv H2 s2 I2 L hf hc => wpAny_bind (wpAny_standAt (wpAny_pure (wpAny_evalAll_nil ?_)))))
    have hl2 : SqL X.K H2 a xs := by
      rcases L with rfl | ⟨c2, more, n, ne, _, _, rfl⟩
      · exact hl
      · rcases hl with hl | hl
        · left
          have k : ∀ o, H1 a = some o → (∀ ps, o ≠ .tbl ps) → upd (upd H1 P (.tbl (ps ++ more))) c2 (CodeO c2 (X.env.qual ++ "<lambda>")) a = some o := fun o e nt => by
            rw [upd_ne (show a ≠ c2 from fun z => by rw [z, n] at e; cases e), upd_ne (show a ≠ P from fun z => by rw [z, hP] at e; exact nt _ (Option.some.inj e).symm)]
            exact e
          rcases hl with h | ⟨o, h⟩
          · exact .inl (k _ h fun _ z => nomatch z)
          · exact .inr ⟨o, k _ h fun _ z => nomatch z⟩
        · exact .inr hl
    have hp2 : Paired (ItemP X.K H2) xs ks := Paired.imp2 (fun _ _ z => item_lam L hP z) hp
    exact sort_run I2 hr hl2 hp2 hf hc (fun v => hb _ _ _ _ v) (fun D hD => q H2 D L hD) hd
end
end G

set_option maxHeartbeats 4000000
/-! # G: sorted by a lambda, in frames -/
namespace G
variable [TabL]
open PySem PySem.Spec PySem.Calls PyProof.Rows L2 LamX
section
variable {A : Amb} {σ : L2.St} {H B : Hp} {Γ Γ1 : List Sl} {P c' : Addr} {q : Str} {ps more : Array Value}
theorem Frm.lam (F : Frm A σ H B Γ) (hT : (P, q) ∈ TabL.T) (hu : ∀ r, (P, r) ∈ TabL.T → r = q) (ha : ∀ (pos : Pos) (cv : Value), codeAmong pos ps.toList = some cv → ∃ c, cv = .ref c ∧ B c = some (CodeO c q)) (n : H c' = none) (ne : c' ≠ P)
    (ht : TriplesOk (ps ++ more).toList) (hm : ∀ (pos : Pos) (cv : Value), codeAmong pos (ps ++ more).toList = some cv → codeAmong pos ps.toList = some cv ∨ cv = .ref c') : Frm A σ (upd (upd H P (.tbl (ps ++ more))) c' (CodeO c' q)) (upd B c' (CodeO c' q)) Γ := by
  have isT : isTab P := ⟨q, hT⟩
  have bP : B P = none := F.tb.no P isT
  have bn : B c' = none := by
    cases e : B c' with
    | none => rfl
    | some u => have := F.bh c' u e; rw [n] at this; cases this
  have bb : Same B (upd B c' (CodeO c' q)) := fun b u e => by rw [upd_ne (ne_of_none e bn)]; exact e
  have at_ : ∀ b, b ≠ P → H b ≠ none → upd (upd H P (.tbl (ps ++ more))) c' (CodeO c' q) b = H b := fun b h1 h2 => by
    rw [upd_ne (show b ≠ c' from fun z => h2 (by rw [z]; exact n)), upd_ne h1]
  have tabAt : ∀ p, isTab p → H p ≠ none := fun p m z => F.tb.ne z m
  refine F.move ⟨fun b u e => ?_, fun b u e => bb b u (F.b0 b u e), fun b u m nt e => ?_, fun b h z => ?_, fun b h => ?_, F.sub, F.mh, A.up _ _ bb F.ph, (F.sz.upd (o := .tbl (ps ++ more)) trivial).upd (by unfold CodeO; trivial), ⟨fun p r m => ?_, fun p m => ?_⟩⟩ bb fun p h => ⟨?_, h.2.2, fun u e => ?_⟩
  · by_cases hb : b = c'
    · subst hb; rw [upd_same] at e ⊢; exact e
    · rw [upd_ne hb] at e
      have := F.bh b u e
      rw [at_ b (fun z => by rw [z, bP] at e; cases e) (by rw [this]; simp)]; exact this
  · have := F.keep b u m nt e
    rw [at_ b (fun z => nt (by rw [z]; exact isT)) (by rw [this]; simp)]; exact this
  · rw [upd_ne (show b ≠ c' from fun e => F.alive b h (by rw [e]; exact n))]; exact F.out b h z
  · by_cases hb : b = c'
    · rw [hb, upd_same]; simp
    · rw [upd_ne hb]
      by_cases h2 : b = P
      · rw [h2, upd_same]; simp
      · rw [upd_ne h2]; exact F.alive b h
  · obtain ⟨ps1, e1, t1, z1⟩ := F.tb.at_ p r m
    by_cases hp : p = P
    · subst hp
      obtain rfl := hu r m
      refine ⟨ps ++ more, by rw [upd_ne (Ne.symm ne), upd_same], ht, fun pos cv hc => ?_⟩
      rcases hm pos cv hc with hc | rfl
      · obtain ⟨c, e2, e3⟩ := ha pos cv hc
        exact ⟨c, e2, bb c _ e3⟩
      · exact ⟨c', rfl, upd_same⟩
    · refine ⟨ps1, by rw [at_ p hp (by rw [e1]; simp)]; exact e1, t1, fun pos cv hc => ?_⟩
      obtain ⟨c, e2, e3⟩ := z1 pos cv hc
      exact ⟨c, e2, bb c _ e3⟩
  · rw [upd_ne (show p ≠ c' from fun e => tabAt p m (by rw [e]; exact n))]; exact F.tb.no p m
  · rw [upd_ne (show p ≠ c' from fun e => h.2.1 (by rw [e]; exact n))]; exact h.1
  · rw [at_ p (fun z => h.nt F.mh (by rw [z]; exact isT)) h.2.1]; exact e
end
theorem paired_zip {α β : Type} {F : α → β → Prop} : ∀ {vs : List α} {xs : List β}, Paired F vs xs → (vs.zip xs).map (·.1) = vs ∧ (vs.zip xs).map (·.2) = xs ∧ ∀ p ∈ vs.zip xs, F p.1 p.2
  | _, _, .nil => ⟨rfl, rfl, fun _ h => nomatch h⟩
  | v :: vs, x :: xs, .cons r t => by
    obtain ⟨h1, h2, h3⟩ := paired_zip t
    refine ⟨by rw [List.zip_cons_cons, List.map_cons, h1], by rw [List.zip_cons_cons, List.map_cons, h2], fun p hp => ?_⟩
    rw [List.zip_cons_cons] at hp
    rcases List.mem_cons.mp hp with rfl | hp
    · exact r
    · exact h3 p hp
theorem zip_map_r {α β γ : Type} (g : β → γ) : ∀ (vs : List α) (xs : List β), vs.zip (xs.map g) = (vs.zip xs).map fun p => (p.1, g p.2)
  | [], _ => rfl
  | _ :: _, [] => rfl
  | v :: vs, x :: xs => by rw [List.map_cons, List.zip_cons_cons, List.zip_cons_cons, List.map_cons, zip_map_r g vs xs]
section
variable {α : Type} {ra : Rp α} {te : TE} {Γ Γ1 : List Sl} {K : PySem.W.Frag} {P : Addr} {q : Str}
def srtBy (key : α → PK2) (xs : List α) : List α := xs.mergeSort fun a b => !ltP (key b) (key a)
theorem ec_sortLam {xs : List α} (key : α → PK2) (hT : (P, q) ∈ TabL.T) (hu : ∀ r, (P, r) ∈ TabL.T → r = q) (rel : ∀ (H B : Hp) (v : V) (x : α), Same B H → ra.rel B v x → ItemP K H v (key x)) (h : EvX (rLst ra) te Γ Γ1 xs) : EvC (cLst ra) (tSortLam K P q te) Γ Γ1 (srtBy key xs) := fun A σ H B F Q qk =>
  h A σ H B F _ fun u H1 B1 F1 s1 k1 => by
    obtain ⟨a, vs, rfl, hp, kv⟩ := ob_lst F1.bh k1
    obtain ⟨ps, hP, ht, ha⟩ := F1.tb.at_ P q hT
    obtain ⟨z1, z2, z3⟩ := paired_zip kv
    have pk : Paired (ItemP K H1) vs (xs.map key) := by
      have := paired_maps (F := ItemP K H1) (f := fun p : V × α => p.1) (g := fun p : V × α => key p.2) (l := vs.zip xs) fun p hp => rel _ _ _ _ F1.bh (z3 p hp)
      rw [z1, show (fun p : V × α => key p.2) = key ∘ (fun p : V × α => p.2) from rfl, ← List.map_map, z2] at this
      exact this
    have hz : vs.length ≤ sizeLine := F1.sz _ _ hp
    have ez : ((vs.zip (xs.map key)).mergeSort leP).map (·.1) = ((vs.zip xs).mergeSort fun a b => !ltP (key b.2) (key a.2)).map (·.1) := by
      rw [zip_map_r, ← List.map_mergeSort (r := fun a b : V × α => !ltP (key b.2) (key a.2)) (fun a _ b _ => rfl), List.map_map]
      rfl
    have ey : srtBy key xs = ((vs.zip xs).mergeSort fun a b => !ltP (key b.2) (key a.2)).map (·.2) := by
      unfold srtBy
      rw [List.map_mergeSort (s := fun a b : α => !ltP (key b) (key a)) (fun a _ b _ => rfl), z2]
    have kz : ∀ {B2 : Hp}, Same B1 B2 → Paired (ra.rel B2) (((vs.zip (xs.map key)).mergeSort leP).map (·.1)) (srtBy key xs) := fun {B2} s => by
      rw [ez, ey]
      exact paired_maps fun p hp => ra.mono s (z3 p ((List.mergeSort_perm _ _).mem_iff.mp hp))
    have hl : (((vs.zip (xs.map key)).mergeSort leP).map (·.1)).length ≤ sizeLine := by
      rw [List.length_map, List.length_mergeSort, List.length_zip]
      exact Nat.le_trans (Nat.min_le_left _ _) hz
    refine ⟨a, vs, xs.map key, ps, rfl, SqL.of hp, pk, hP, ht, fun pos cv hc => ?_, fun H2 D L hD => ?_⟩
    · obtain ⟨c, e1, e2⟩ := ha pos cv hc
      exact ⟨c, e1, F1.bh _ _ e2⟩
    · rcases L with rfl | ⟨c', more, n, ne, t2, m2, rfl⟩
      · exact qk D _ _ B1 (F1.fresh (o := .lst _) hD hl) (F1.H0none hD) s1 ⟨_, rfl, kz (Same.refl _)⟩
      · have F2 := F1.lam hT hu ha n ne t2 m2
        have bn : B1 c' = none := by
          cases e : B1 c' with
          | none => rfl
          | some u => have := F1.bh c' u e; rw [n] at this; cases this
        have bb : Same B1 (upd B1 c' (CodeO c' q)) := fun b u e => by rw [upd_ne (ne_of_none e bn)]; exact e
        exact qk D _ _ _ (F2.fresh (o := .lst _) hD hl) (F2.H0none hD) (s1.trans bb) ⟨_, rfl, kz bb⟩
end
end G

set_option maxHeartbeats 4000000
/-! # G: defs that make lambdas -/
namespace G
variable [TabL]
open PySem PySem.Spec PySem.Calls PyProof.Rows L2 LamX
/-- as Fun.ok, the code object known -/
theorem okL {P : Program} {w : World} {K : PySem.W.Frag} {mg : Str → Option Value} {base : Heap} {x qual : Str} {st : Stmt} {f c : Addr} {fd : FuncData} {N ps : List Str} {k : Nat} {sp : Sp} (F : Fun K x qual st f fd) (hc : fd.code = .ref c) (S : FnScope N ps (defScope st)) (len : ∀ vs H Q E, sp vs H Q E → vs.length = ps.length)
    (hbody : ∀ (A : Around) (outer : List Env) (s : Shared) (H : Hp) (vs : List V) (Q : VK) (E : XK), Room k (A.deeper (envOfC qual (defScope st) s.heap.objs.size f (.ref c))) → sp vs H Q E →
      ∃ t, PSs (cxOf CX0 P w K mg base N qual (defScope st) f (.ref c) A outer s H E).nox (defBody st) t ∧ t { nx := fun _ H' => Q .non H', rt := Q } (L2.start N vs) H) : FnOk P w K mg base CX0 (k + 1) f fd ps sp := by
  obtain ⟨oc, od, kV, doc, pm, an, cdv, ct, osl, rfl, lk, hcd⟩ := F.ex
  obtain rfl : cdv = .ref c := hc
  refine fn_of lk hcd S len fun A outer s H vs Q E hr hsp => ?_
  obtain ⟨t, h, q⟩ := hbody A outer s H vs Q E hr hsp
  exact ⟨t, h.nox, q⟩
/-- a tuple that begins with a text and a tuple of ints, and goes on -/
theorem item_tup {α : Type} {K : PySem.W.Frag} {r : Rp α} {β : Type} {wr : Rw β} (H B : Hp) (v : V) (x : Str × List Int × α × β) (s : Same B H) (h : (rOb (cTup (wC rStr (wC (rOb (cTpl rInt)) (wC r wr))))).rel B v x) : ItemP K H v (x.1, x.2.1) := by
  obtain ⟨p, o, rfl, hp, vs, rfl, v1, t1, rfl, k1, v2, t2, rfl, k2, v3, t3, rfl, k3, k4⟩ := h
  cases (show v1 = V.str x.1 from k1)
  obtain ⟨q, o2, rfl, hq, vs2, rfl, kk⟩ := k2
  rw [rint_map kk] at hq
  exact ⟨p, _, q, rfl, SqT.of (s _ _ hp), by simp, rfl, rfl, SqT.of (s _ _ hq)⟩
theorem item_tup1 {α : Type} {K : PySem.W.Frag} {r : Rp α} (H B : Hp) (v : V) (x : Str × List Int × α) (s : Same B H) (h : (rOb (cTup (wC rStr (wC (rOb (cTpl rInt)) (w1 r))))).rel B v x) : ItemP K H v (x.1, x.2.1) := by
  obtain ⟨p, o, rfl, hp, vs, rfl, v1, t1, rfl, k1, v2, t2, rfl, k2, v3, rfl, k3⟩ := h
  cases (show v1 = V.str x.1 from k1)
  obtain ⟨q, o2, rfl, hq, vs2, rfl, kk⟩ := k2
  rw [rint_map kk] at hq
  exact ⟨p, _, q, rfl, SqT.of (s _ _ hp), by simp, rfl, rfl, SqT.of (s _ _ hq)⟩
end G

set_option maxHeartbeats 4000000
/-! # G: the end of a law with tables -/
namespace G
open PySem PySem.Spec PySem.Calls PyProof.Rows L2 LamX
section
variable [TabL] {H : Hp} {K : PySem.W.Frag} {a : Addr} {xs : List V}
open Classical in
noncomputable def noTab (H : Hp) : Hp := fun p => if isTab p then none else H p
theorem noTab_same : Same (noTab H) H := fun p o e => by
  unfold noTab at e
  split at e
  · cases e
  · exact e
theorem noTab_ok (h : ∀ p q, (p, q) ∈ TabL.T → H p = some (.tbl #[])) : TabOk H (noTab H) := ⟨fun p q m => ⟨#[], h p q m, True.intro, fun pos cv hc => by
  exfalso
  unfold codeAmong at hc
  cases hc⟩, fun p m => if_pos m⟩
theorem noTab_list (h : ∀ p q, (p, q) ∈ TabL.T → H p = some (.tbl #[])) (s : SqL K H a xs) : SqL K (noTab H) a xs := by
  rcases s with s | s
  · left
    have k : ∀ o, H a = some o → (∀ ps, o ≠ .tbl ps) → noTab H a = some o := fun o e n => by
      unfold noTab
      rw [if_neg fun ⟨q, m⟩ => by rw [h a q m] at e; exact n _ (Option.some.inj e).symm]
      exact e
    rcases s with s | ⟨o, s⟩
    · exact .inl (k _ s fun _ z => nomatch z)
    · exact .inr ⟨o, k _ s fun _ z => nomatch z⟩
  · exact .inr s
end
/-- a law whose defs make lambdas: (code object, its table, the lambdas' name) -/
theorem law_at {l : PySem.W.OpenLaw} {w : World} {K : PySem.W.Frag} {k n : Nat} {x : Str} {mg : Str → Option Value} {fa : Addr} {h : Heap} (T : List (Addr × Addr × Str)) (KX : K.In h)
    (h1 : ∀ p ∈ T, h.get? p.2.1 = some { cls := .none, data := .fields #[] }) (h2 : ∀ p ∈ T, K.lookup p.2.1 = none) (h3 : ∀ p ∈ T, PySem.W.codeHdIn K p.1 p.2.1 = true) (m : List Int → Option Bool) (hm : ∀ ns : List Int, ns.length ≤ n → m ns = some true)
    (F : ∃ fd : FuncData, (∀ (s : Shared) (u : Value), BindsTo s fd ⟨[u], []⟩ [(x, u)]) ∧ ∀ base : Heap, K.In base → base.Ns mainGlobals mg → (∀ p ∈ T.map (fun p => (p.1, p.2.1)), TabB base mg p.1 p.2) →
      FnOk l.prog w K mg base CX0 k fa fd [x] (@SpL ⟨T.map fun p => (p.2.1, p.2.2)⟩ (List Int) Bool (w1 (rScr K)) rBool m)) : LawAtS l w K CX0 k n x mg fa h := by
  letI : TabL := ⟨T.map fun p => (p.2.1, p.2.2)⟩
  obtain ⟨fd, hb, hF⟩ := F
  have mem : ∀ {Z : Addr × Addr → Prop}, (∀ p ∈ T, Z (p.1, p.2.1)) → ∀ p ∈ T.map (fun p => (p.1, p.2.1)), Z p := fun {Z} z p hp => by
    obtain ⟨t, ht, rfl⟩ := List.mem_map.mp hp
    exact z t ht
  refine ⟨fd, T.map (fun p => (p.1, p.2.1)), _, mem h1, mem h2, mem fun p hp => PySem.W.codeHd_of_K KX (h3 p hp), hb, fun H a ns hl _ hH hS => ?_, hF⟩
  have tabs : ∀ p q, (p, q) ∈ TabL.T → H p = some (.tbl #[]) := fun p q hp => by
    obtain ⟨t, ht, e⟩ := List.mem_map.mp (show (p, q) ∈ T.map fun p => (p.2.1, p.2.2) from hp)
    cases e
    exact hH _ (List.mem_map.mpr ⟨t, ht, rfl⟩)
  exact ⟨noTab H, ns, true, ⟨noTab_same, noTab_ok tabs⟩, ⟨_, rfl, a, rfl, noTab_list tabs hS⟩, hm ns hl, fun H2 B2 v P k => k⟩
end G


namespace Law
open PySem L2 G
def m_between (low0 : (Option Int)) (high0 : (Option Int)) (number0 : Int) : Option Bool := letO (low0.isNone) fun c3 => bindO (iteO c3 (some true) (bindO (low0) fun g1 => some (decide (g1 ≤ number0)))) fun b2 => letO (b2) fun c8 => bindO (iteO c8 (letO (high0.isNone) fun c6 => bindO (iteO c6 (some true) (bindO (high0) fun g4 => some (decide (number0 ≤ g4)))) fun b5 => some b5) (some false)) fun b7 => some b7
def m_one_form_c1 (low0 : (Option Int)) (high0 : (Option Int)) (number1 : Int) : Option (Option Int) := bindO (m_between low0 high0 number1) fun v2 => letO (v2) fun c3 => iteO c3 (some (some number1)) (some (none))
def m_one_form_b1 (s8 : ((Option Int) × Int)) : Option (Step ((Option Int) × (Option Int) × (List Int)) ((Option Int) × Int)) := bindO (s8.1) fun g12 => letO ((some (g12 + (1 : Int)))) fun low13 => letO ((s8.2 + (1 : Int))) fun start14 => some (.nx (low13, start14))
def m_one_form_w1 (gaps6 : (List Int)) (s8 : ((Option Int) × Int)) : Option Bool := letO ((decide (s8.2 < (gaps6.length : Int)))) fun c11 => bindO (iteO c11 (bindO (atI gaps6 s8.2) fun y9 => some (decide ((some y9) = s8.1))) (some false)) fun b10 => some b10
def m_one_form_b2 (s18 : ((Option Int) × Int)) : Option (Step ((Option Int) × (Option Int) × (List Int)) ((Option Int) × Int)) := bindO (s18.1) fun g22 => letO ((some (g22 - (1 : Int)))) fun high23 => letO ((s18.2 - (1 : Int))) fun end24 => some (.nx (high23, end24))
def m_one_form_w2 (gaps6 : (List Int)) (e16 : ((Option Int) × Int)) (s18 : ((Option Int) × Int)) : Option Bool := letO ((decide (e16.2 < s18.2))) fun c21 => bindO (iteO c21 (bindO (atI gaps6 (s18.2 - (1 : Int))) fun y19 => some (decide ((some y19) = s18.1))) (some false)) fun b20 => some b20
def m_one_form (low0 : (Option Int)) (high0 : (Option Int)) (without0 : (List Int)) : Option ((Option Int) × (Option Int) × (List Int)) := bindO (compL (m_one_form_c1 low0 high0) without0) fun l4 => bindO (pySS l4) fun l5 => letO (l5) fun gaps6 => letO ((0 : Int)) fun start7 => bindO (whL (m_one_form_w1 gaps6) (m_one_form_b1) 1000000 (low0, start7)) fun R15 => stepO R15 fun e16 => letO ((gaps6.length : Int)) fun end17 => bindO (whL (m_one_form_w2 gaps6 e16) (m_one_form_b2) 1000000 (high0, end17)) fun R25 => stepO R25 fun e26 => letO (e16.1.isSome) fun c32 => bindO (iteO c32 (letO (e26.1.isSome) fun c30 => bindO (iteO c30 (bindO (e16.1) fun g27 => bindO (e26.1) fun g28 => some (decide (g28 < g27))) (some false)) fun b29 => some b29) (some false)) fun b31 => letO (b31) fun c33 => iteO c33 (some ((some (1 : Int)), (some (0 : Int)), [])) (some (e16.1, e26.1, (cut gaps6 (some e16.2) (some e26.2))))
def m_size_of (low0 : (Option Int)) (high0 : (Option Int)) (without0 : (List Int)) : Option (Option Int) := letO ((low0.isNone || high0.isNone)) fun c1 => iteO c1 (some (none : Option Int)) (bindO (high0) fun g2 => bindO (low0) fun g3 => some (some (((g2 - g3) + (1 : Int)) - (without0.length : Int))))
def m_Region___init_c1 (number8 : Int) : Option (Option (Int × Bool)) := some (some (number8, true))
def m_Region___init (low0 : (Option Int)) (high0 : (Option Int)) (without0 : (List Int)) : Option ((Option Int) × (Option Int) × (List Int) × (Option Int) × (Option Int) × (List (Int × Bool))) := bindO (m_one_form low0 high0 without0) fun v1 => letO (v1) fun u2 => bindO (m_size_of ((u2.1, u2.2.1, u2.2.2).1) ((u2.1, u2.2.1, u2.2.2).2.1) ((u2.1, u2.2.1, u2.2.2).2.2)) fun v3 => letO (v3) fun size4 => letO ((decide ((u2.1, u2.2.1, u2.2.2, size4).2.2.2 = (some (1 : Int))))) fun c6 => bindO (iteO c6 (some ((u2.1, u2.2.1, u2.2.2, size4).1)) (some (none : Option Int))) fun i5 => letO (i5) fun value7 => bindO (compD (m_Region___init_c1) ((u2.1, u2.2.1, u2.2.2, size4, value7).2.2.1) []) fun d9 => letO (d9) fun gaps10 => some (u2.1, u2.2.1, u2.2.2, size4, value7, gaps10)
def m_Region___contains (self0 : ((Option Int) × (Option Int) × (List Int) × (Option Int) × (Option Int) × (List (Int × Bool)))) (x0 : Int) : Option Bool := bindO (m_between self0.1 self0.2.1 x0) fun v1 => some (v1 && (!(getM self0.2.2.2.2.2 x0).isSome))
def m_Region__start (self0 : ((Option Int) × (Option Int) × (List Int) × (Option Int) × (Option Int) × (List (Int × Bool)))) : Option (Int × Int) := letO (self0.1.isSome) fun c1 => iteO c1 (bindO (self0.1) fun g2 => some (g2, (1 : Int))) (letO (self0.2.1.isSome) fun c3 => iteO c3 (bindO (self0.2.1) fun g4 => some (g4, (-(1 : Int)))) (some ((0 : Int), (1 : Int))))
def m_Region_members_c1 (number1 : Int) : Option (Option (Int × Bool)) := some (some (number1, true))
def m_Region_members_c2 (self0 : ((Option Int) × (Option Int) × (List Int) × (Option Int) × (Option Int) × (List (Int × Bool)))) (number5 : Int) : Option (Option Int) := bindO (m_Region___contains self0 number5) fun n6 => letO (n6) fun c7 => iteO c7 (some (some number5)) (some (none))
def m_Region_members_b1 (self0 : ((Option Int) × (Option Int) × (List Int) × (Option Int) × (Option Int) × (List (Int × Bool)))) (barred3 : (List (Int × Bool))) (u15 : (Int × Int)) (s17 : (Int × (List Int))) : Option (Step (Res Int (List Int)) (Int × (List Int))) := bindO (m_Region___contains self0 s17.1) fun n18 => letO ((n18 && (!(getM barred3 s17.1).isSome))) fun c19 => bindO (iteO c19 (bindO (pyApp s17.2 s17.1) fun found21 => some found21) (some s17.2)) fun j20 => letO ((s17.1 + u15.2)) fun number22 => some (.nx (number22, j20))
def m_Region_members_w1 (count0 : Int) (s17 : (Int × (List Int))) : Option Bool := some (decide ((s17.2.length : Int) < count0))
def m_Region_members (self0 : ((Option Int) × (Option Int) × (List Int) × (Option Int) × (Option Int) × (List (Int × Bool)))) (count0 : Int) (apart0 : (List Int)) : Option (Res Int (List Int)) := bindO (compD (m_Region_members_c1) apart0 []) fun d2 => letO (d2) fun barred3 => bindO (pyKeysD barred3) fun l4 => bindO (compL (m_Region_members_c2 self0) l4) fun l8 => letO (l8) fun lost9 => letO (self0.2.2.2.1.isSome) fun c12 => bindO (iteO c12 (bindO (self0.2.2.2.1) fun g10 => some (decide ((g10 - (lost9.length : Int)) < count0))) (some false)) fun b11 => letO (b11) fun c13 => iteO c13 (some (.er count0)) (bindO (m_Region__start self0) fun v14 => letO (v14) fun u15 => letO ([]) fun found16 => bindO (whL (m_Region_members_w1 count0) (m_Region_members_b1 self0 barred3 u15) 1000000 (u15.1, found16)) fun R23 => stepO R23 fun e24 => some (.ok (isortI e24.2)))
def m_Region_members_Vk_c1 (number1 : Int) : Option (Option (Int × Bool)) := some (some (number1, true))
def m_Region_members_Vk_c2 (self0 : ((Option Int) × (Option Int) × (List Int) × (Option Int) × (Option Int) × (List (Int × Bool)))) (number5 : Int) : Option (Option Int) := bindO (m_Region___contains self0 number5) fun n6 => letO (n6) fun c7 => iteO c7 (some (some number5)) (some (none))
def m_Region_members_Vk_b1 (self0 : ((Option Int) × (Option Int) × (List Int) × (Option Int) × (Option Int) × (List (Int × Bool)))) (barred3 : (List (Int × Bool))) (u15 : (Int × Int)) (s17 : (Int × (List Int))) : Option (Step (Res Int (List Int)) (Int × (List Int))) := bindO (m_Region___contains self0 s17.1) fun n18 => letO ((n18 && (!(getM barred3 s17.1).isSome))) fun c19 => bindO (iteO c19 (bindO (pyApp s17.2 s17.1) fun found21 => some found21) (some s17.2)) fun j20 => letO ((s17.1 + u15.2)) fun number22 => some (.nx (number22, j20))
def m_Region_members_Vk_w1 (count0 : Int) (s17 : (Int × (List Int))) : Option Bool := some (decide ((s17.2.length : Int) < count0))
def m_Region_members_Vk (self0 : ((Option Int) × (Option Int) × (List Int) × (Option Int) × (Option Int) × (List (Int × Bool)))) (count0 : Int) (apart0 : (List Int)) : Option (Res Int (List Int)) := bindO (compD (m_Region_members_Vk_c1) apart0 []) fun d2 => letO (d2) fun barred3 => bindO (pyKeysD barred3) fun l4 => bindO (compL (m_Region_members_Vk_c2 self0) l4) fun l8 => letO (l8) fun lost9 => letO (self0.2.2.2.1.isSome) fun c12 => bindO (iteO c12 (bindO (self0.2.2.2.1) fun g10 => some (decide ((g10 - (lost9.length : Int)) < count0))) (some false)) fun b11 => letO (b11) fun c13 => iteO c13 (some (.er count0)) (bindO (m_Region__start self0) fun v14 => letO (v14) fun u15 => letO ([]) fun found16 => bindO (whL (m_Region_members_Vk_w1 count0) (m_Region_members_Vk_b1 self0 barred3 u15) 1000000 (u15.1, found16)) fun R23 => stepO R23 fun e24 => some (.ok (isortI e24.2)))
def m_l_start (script0 : (List Int)) : Option ((List Int) × Int × Int × Int) := letO ((0 : Int)) fun first1 => letO ((decide ((0 : Int) < (script0.length : Int)))) fun c2 => bindO (iteO c2 (bindO (atI script0 (0 : Int)) fun y4 => letO (y4) fun first5 => some first5) (some first1)) fun j3 => bindO (pyScr script0) fun l6 => some (l6, (1 : Int), j3, (0 : Int))
def m_l_draw (st0 : ((List Int) × Int × Int × Int)) (many0 : Int) : Option (Int × ((List Int) × Int × Int × Int)) := letO ((decide (((10 : Int) ^ ((18 : Int)).toNat) ≤ st0.2.2.1))) fun c1 => iteO c1 (bindO (pyMod st0.2.2.1 many0) fun r2 => letO (r2) fun drawn3 => bindO (pyDiv st0.2.2.1 many0) fun q4 => letO ((st0.1, st0.2.1, q4, st0.2.2.2)) fun z5 => some (drawn3, z5)) (letO ((st0.1, st0.2.1, st0.2.2.1, (st0.2.2.2 + (1 : Int)))) fun z6 => letO ((((z6.2.2.1 % (1000000007 : Int)) + ((69621 : Int) * z6.2.2.2)) + (48271 : Int))) fun seed7 => bindO (pyPow seed7 (17 : Int)) fun w8 => letO ((w8 % (170141183460469231731687303715884105727 : Int))) fun mixed9 => letO ((decide (z6.2.1 < (z6.1.length : Int)))) fun c10 => bindO (iteO c10 (bindO (atI z6.1 z6.2.1) fun y12 => letO ((z6.1, z6.2.1, y12, z6.2.2.2)) fun z13 => letO ((z13.1, (z13.2.1 + (1 : Int)), z13.2.2.1, z13.2.2.2)) fun z14 => some z14) (some z6)) fun j11 => bindO (pyMod (mixed9 / (64 : Int)) many0) fun r15 => some (r15, j11))
def m_l_end (st0 : ((List Int) × Int × Int × Int)) (base_here0 : Int) : Option ((Option Int) × ((List Int) × Int × Int × Int)) := bindO (m_l_draw st0 (4 : Int)) fun p1 => letO ((decide (p1.1 = (0 : Int)))) fun c2 => iteO c2 (some ((none : Option Int), p1.2)) (bindO (m_l_draw p1.2 (13 : Int)) fun p3 => some ((some ((base_here0 + p3.1) - (6 : Int))), p3.2))
def m_l_base (st0 : ((List Int) × Int × Int × Int)) : Option (Int × ((List Int) × Int × Int × Int)) := bindO (m_l_draw st0 (5 : Int)) fun p1 => letO (p1.1) fun kind2 => letO ((decide (kind2 < (3 : Int)))) fun c3 => iteO c3 (some ((0 : Int), p1.2)) (bindO (atI [((10 : Int) ^ ((40 : Int)).toNat), (-((10 : Int) ^ ((40 : Int)).toNat))] (kind2 - (3 : Int))) fun y4 => some (y4, p1.2))
def m_l_parts_c1 (base_here0 : Int) (k7 : Int) (st8 : ((List Int) × Int × Int × Int)) : Option (Option Int × ((List Int) × Int × Int × Int)) := bindO (m_l_draw st8 (17 : Int)) fun p9 => some (some ((base_here0 + p9.1) - (8 : Int)), p9.2)
def m_l_parts (st0 : ((List Int) × Int × Int × Int)) (base_here0 : Int) : Option (((Option Int) × (Option Int) × (List Int)) × ((List Int) × Int × Int × Int)) := bindO (m_l_end st0 base_here0) fun p1 => letO (p1.1) fun least2 => bindO (m_l_end p1.2 base_here0) fun p3 => letO (p3.1) fun most4 => bindO (m_l_draw p3.2 (9 : Int)) fun p5 => bindO (pyRng p5.1) fun l6 => bindO (compS (m_l_parts_c1 base_here0) l6 p5.2) fun l10 => letO (l10.1) fun holes11 => some ((least2, most4, holes11), l10.2)
def m_l_is_integer (actual0 : Int) : Option Bool := some (true && (!false))
def m_l_in_part (part0 : ((Option Int) × (Option Int) × (List Int))) (number0 : Int) : Option Bool := letO (part0.1.isSome) fun c3 => bindO (iteO c3 (bindO (part0.1) fun g1 => some (decide (number0 < g1))) (some false)) fun b2 => letO (b2) fun c4 => iteO c4 (some false) (letO (part0.2.1.isSome) fun c7 => bindO (iteO c7 (bindO (part0.2.1) fun g5 => some (decide (g5 < number0))) (some false)) fun b6 => letO (b6) fun c8 => iteO c8 (some false) (some (!decide (number0 ∈ part0.2.2))))
def m_l_window_c1 (number2 : Int) : Option (Option Int) := some (some number2)
def m_l_window (base_here0 : Int) : Option (List Int) := bindO (pyRng3 (base_here0 - (22 : Int)) (base_here0 + (23 : Int))) fun l1 => bindO (compL (m_l_window_c1) l1) fun l3 => some l3
def m_l_free_c1 (part0 : ((Option Int) × (Option Int) × (List Int))) (number3 : Int) : Option (Option Int) := bindO (m_l_in_part part0 number3) fun v4 => letO (v4) fun c5 => iteO c5 (some (some number3)) (some (none))
def m_l_free_c2 (barred0 : (List Int)) (number8 : Int) : Option (Option Int) := letO ((!decide (number8 ∈ barred0))) fun c9 => iteO c9 (some (some number8)) (some (none))
def m_l_free (part0 : ((Option Int) × (Option Int) × (List Int))) (base_here0 : Int) (barred0 : (List Int)) : Option (Option Int) := letO ((part0.1.isNone || part0.2.1.isNone)) fun c1 => iteO c1 (some (none : Option Int)) (bindO (m_l_window base_here0) fun v2 => bindO (compL (m_l_free_c1 part0) v2) fun l6 => letO (l6) fun inside7 => bindO (compL (m_l_free_c2 barred0) inside7) fun l10 => some (some (l10.length : Int)))
def m_l_asked (region0 : ((Option Int) × (Option Int) × (List Int) × (Option Int) × (Option Int) × (List (Int × Bool)))) (count0 : Int) (barred0 : (List Int)) : Option (((Str × Int × Bool × Bool) ⊕ (Str × List Int)) × Unit) := letO (()) fun caught1 => bindO (m_Region_members region0 count0 barred0) fun r2 => resX r2 (fun law_found3 => letO (false) fun c5 => iteO c5 (none) (some ((.inr ((Str.ofString "told"), law_found3) : ((Str × Int × Bool × Bool) ⊕ (Str × List Int))), (())))) (fun e4 => letO (((Str.ofString "TooFew"), e4, true, false)) fun caught8 => letO (true) fun c9 => iteO c9 (some ((.inl caught8 : ((Str × Int × Bool × Bool) ⊕ (Str × List Int))), (()))) (none))
def m_l_asked_Vk (region0 : ((Option Int) × (Option Int) × (List Int) × (Option Int) × (Option Int) × (List (Int × Bool)))) (count0 : Int) (barred0 : (List Int)) : Option (((Str × Int × Bool × Bool) ⊕ (Str × List Int)) × Unit) := letO (()) fun caught1 => bindO (m_Region_members_Vk region0 count0 barred0) fun r2 => resX r2 (fun law_found3 => letO (false) fun c5 => iteO c5 (none) (some ((.inr ((Str.ofString "told"), law_found3) : ((Str × Int × Bool × Bool) ⊕ (Str × List Int))), (())))) (fun e4 => letO (((Str.ofString "TooFew"), e4, true, false)) fun caught8 => letO (true) fun c9 => iteO c9 (some ((.inl caught8 : ((Str × Int × Bool × Bool) ⊕ (Str × List Int))), (()))) (none))
def m_l_base_caught (region0 : ((Option Int) × (Option Int) × (List Int) × (Option Int) × (Option Int) × (List (Int × Bool)))) (count0 : Int) (barred0 : (List Int)) : Option Bool := letO (()) fun caught1 => bindO (m_Region_members region0 count0 barred0) fun r2 => resX r2 (fun y3 => letO (false) fun c5 => iteO c5 (none) (some false)) (fun e4 => letO (true) fun caught8 => letO (true) fun c9 => iteO c9 (some caught8) (none))
def m_l_good_b1 (found0 : (List Int)) (part0 : ((Option Int) × (Option Int) × (List Int))) (barred0 : (List Int)) (k4 : Int) (s3 : Unit) : Option (Step Bool Unit) := bindO (atI found0 k4) fun y5 => bindO (m_l_is_integer y5) fun v6 => letO ((!v6)) fun c13 => bindO (iteO c13 (some true) (bindO (atI found0 k4) fun y7 => letO ((decide (y7 ∈ barred0))) fun c11 => bindO (iteO c11 (some true) (bindO (atI found0 k4) fun y8 => bindO (m_l_in_part part0 y8) fun v9 => some (!v9))) fun b10 => some b10)) fun b12 => letO (b12) fun c14 => iteO c14 (some (.ret false)) (letO ((decide ((0 : Int) < k4))) fun c18 => bindO (iteO c18 (bindO (atI found0 (k4 - (1 : Int))) fun y15 => bindO (atI found0 k4) fun y16 => some (decide (y16 ≤ y15))) (some false)) fun b17 => letO (b17) fun c19 => iteO c19 (some (.ret false)) (some (.nx ())))
def m_l_good (found0 : (List Int)) (part0 : ((Option Int) × (Option Int) × (List Int))) (count0 : Int) (barred0 : (List Int)) : Option Bool := letO (((!true) || (!decide ((found0.length : Int) = count0)))) fun c1 => iteO c1 (some false) (bindO (pyRng count0) fun l2 => bindO (forL (m_l_good_b1 found0 part0 barred0) l2 ()) fun R20 => stepO R20 fun e21 => some true)
def m_law_c1 (base_here6 : Int) (k11 : Int) (st12 : ((List Int) × Int × Int × Int)) : Option (Option Int × ((List Int) × Int × Int × Int)) := bindO (m_l_draw st12 (17 : Int)) fun p13 => some (some ((base_here6 + p13.1) - (8 : Int)), p13.2)
def m_law (script0 : (List Int)) : Option Bool := bindO (m_l_start script0) fun v1 => letO (v1) fun state2 => bindO (m_l_draw state2 (3 : Int)) fun p3 => letO (p3.1) fun kind4 => bindO (m_l_base p3.2) fun p5 => letO (p5.1) fun base_here6 => bindO (m_l_parts p5.2 base_here6) fun p7 => letO (p7.1) fun part8 => bindO (m_l_draw p7.2 (11 : Int)) fun p9 => bindO (pyRng p9.1) fun l10 => bindO (compS (m_law_c1 base_here6) l10 p9.2) fun l14 => letO (l14.1) fun barred15 => bindO (m_l_draw l14.2 (21 : Int)) fun p16 => letO (p16.1) fun count17 => bindO (m_l_free part8 base_here6 barred15) fun v18 => letO (v18) fun free_here19 => letO (((decide (kind4 = (0 : Int))) && free_here19.isSome)) fun c20 => bindO (iteO c20 (bindO (free_here19) fun g23 => bindO (m_l_draw p16.2 (2 : Int)) fun p22 => letO ((g23 + p22.1)) fun count24 => some (count24, p22.2)) (some (count17, p16.2))) fun j21 => bindO (m_Region___init part8.1 part8.2.1 part8.2.2) fun o25 => letO (o25) fun region26 => letO (barred15) fun handed27 => bindO (m_l_draw j21.2 (2 : Int)) fun p28 => letO ((decide (p28.1 = (0 : Int)))) fun c29 => iteO c29 (bindO (m_l_asked region26 j21.1 handed27) fun answer30 => bindO (pyEq ((dLst PyData.int) handed27) ((dLst PyData.int) barred15)) fun q31 => letO ((!q31)) fun c32 => iteO c32 (some false) (letO (free_here19.isSome) fun c35 => bindO (iteO c35 (bindO (free_here19) fun g33 => some (decide (g33 < j21.1))) (some false)) fun b34 => letO (b34) fun c36 => iteO c36 (bindO (altL answer30.1) fun a37 => bindO (pyEq ((dTup (dwC PyData.str (dwC PyData.int (dwC PyData.bool (dw1 PyData.bool))))) a37) ((dTup (dwC PyData.str (dwC PyData.int (dwC PyData.bool (dw1 PyData.bool))))) ((Str.ofString "TooFew"), j21.1, true, false))) fun q38 => letO ((!q38)) fun c41 => bindO (iteO c41 (some true) (bindO (m_l_base_caught region26 j21.1 handed27) fun v39 => some (!v39))) fun b40 => letO (b40) fun c42 => iteO c42 (some false) (bindO (free_here19) fun g43 => bindO (m_Region_members region26 g43 handed27) fun r44 => bindO (okR r44) fun l45 => letO (l45) fun again46 => bindO (free_here19) fun g47 => bindO (m_l_good again46 part8 g47 barred15) fun v48 => some v48)) (letO ((!decide ((altO answer30.1 (fun z => z.1) (fun z => z.1)) = (Str.ofString "told")))) fun c52 => bindO (iteO c52 (some true) (bindO (altR answer30.1) fun y49 => bindO (m_l_good y49.2 part8 j21.1 barred15) fun v50 => some (!v50))) fun b51 => letO (b51) fun c53 => iteO c53 (some false) (bindO (altR answer30.1) fun y54 => bindO (pyApp y54.2 base_here6) fun l55 => bindO (m_Region_members_Vk region26 (0 : Int) ([] : (List Int))) fun r56 => bindO (okR r56) fun l57 => bindO (pyEq ((dLst PyData.int) l57) ((dHls dw0) ())) fun q58 => letO ((!q58)) fun c63 => bindO (iteO c63 (some true) (bindO (m_Region_members region26 j21.1 handed27) fun r59 => bindO (okR r59) fun l60 => bindO (m_l_good l60 part8 j21.1 barred15) fun v61 => some (!v61))) fun b62 => letO (b62) fun c64 => iteO c64 (some false) (letO (free_here19.isSome) fun c65 => iteO c65 (some true) (bindO (m_Region_members_Vk region26 j21.1 ([] : (List Int))) fun r66 => bindO (okR r66) fun l67 => bindO (m_l_good l67 part8 j21.1 []) fun v68 => some v68)))))) (bindO (m_l_asked_Vk region26 j21.1 barred15) fun answer69 => bindO (pyEq ((dLst PyData.int) handed27) ((dLst PyData.int) barred15)) fun q70 => letO ((!q70)) fun c71 => iteO c71 (some false) (letO (free_here19.isSome) fun c74 => bindO (iteO c74 (bindO (free_here19) fun g72 => some (decide (g72 < j21.1))) (some false)) fun b73 => letO (b73) fun c75 => iteO c75 (bindO (altL answer69.1) fun a76 => bindO (pyEq ((dTup (dwC PyData.str (dwC PyData.int (dwC PyData.bool (dw1 PyData.bool))))) a76) ((dTup (dwC PyData.str (dwC PyData.int (dwC PyData.bool (dw1 PyData.bool))))) ((Str.ofString "TooFew"), j21.1, true, false))) fun q77 => letO ((!q77)) fun c80 => bindO (iteO c80 (some true) (bindO (m_l_base_caught region26 j21.1 handed27) fun v78 => some (!v78))) fun b79 => letO (b79) fun c81 => iteO c81 (some false) (bindO (free_here19) fun g82 => bindO (m_Region_members region26 g82 handed27) fun r83 => bindO (okR r83) fun l84 => letO (l84) fun again85 => bindO (free_here19) fun g86 => bindO (m_l_good again85 part8 g86 barred15) fun v87 => some v87)) (letO ((!decide ((altO answer69.1 (fun z => z.1) (fun z => z.1)) = (Str.ofString "told")))) fun c91 => bindO (iteO c91 (some true) (bindO (altR answer69.1) fun y88 => bindO (m_l_good y88.2 part8 j21.1 barred15) fun v89 => some (!v89))) fun b90 => letO (b90) fun c92 => iteO c92 (some false) (bindO (altR answer69.1) fun y93 => bindO (pyApp y93.2 base_here6) fun l94 => bindO (m_Region_members_Vk region26 (0 : Int) ([] : (List Int))) fun r95 => bindO (okR r95) fun l96 => bindO (pyEq ((dLst PyData.int) l96) ((dHls dw0) ())) fun q97 => letO ((!q97)) fun c102 => bindO (iteO c102 (some true) (bindO (m_Region_members region26 j21.1 handed27) fun r98 => bindO (okR r98) fun l99 => bindO (m_l_good l99 part8 j21.1 barred15) fun v100 => some (!v100))) fun b101 => letO (b101) fun c103 => iteO c103 (some false) (letO (free_here19.isSome) fun c104 => iteO c104 (some true) (bindO (m_Region_members_Vk region26 j21.1 ([] : (List Int))) fun r105 => bindO (okR r105) fun l106 => bindO (m_l_good l106 part8 j21.1 []) fun v107 => some v107))))))
end Law

set_option maxHeartbeats 4000000
/-! # the mathematics of regions: one form, members, equality, meets -/
namespace Law
local instance : G.TabL := ⟨[]⟩
open PySem L2 G
theorem atI_nat2 {α : Type} (l : List α) (k : Nat) : atI l (k : Int) = l[k]? := by
  unfold atI ixN
  rw [if_pos (by omega)]
  by_cases h : k < l.length
  · rw [if_pos (by omega)]; rfl
  · rw [if_neg (by omega), List.getElem?_eq_none (by omega)]; rfl
theorem compL_fil {α β : Type} {f : α → Option (Option β)} {p : α → Bool} {g : α → β} : ∀ {xs : List α}, (∀ x ∈ xs, f x = some (if p x = true then some (g x) else none)) → compL f xs = some ((xs.filter p).map g)
  | [], _ => rfl
  | x :: xs, h => by
    have ih := compL_fil (f := f) (p := p) (g := g) (xs := xs) fun y hy => h y (List.mem_cons_of_mem _ hy)
    unfold compL
    rw [h x List.mem_cons_self, ih]
    cases hp : p x with
    | true => rw [if_pos rfl, List.filter_cons_of_pos hp, List.map_cons]
    | false => rw [if_neg (by decide), List.filter_cons_of_neg (by rw [hp]; decide)]
theorem compL_all {α β : Type} {f : α → Option (Option β)} {g : α → β} {xs : List α} (h : ∀ x ∈ xs, f x = some (some (g x))) : compL f xs = some (xs.map g) := by
  have := compL_fil (f := f) (p := fun _ => true) (g := g) (xs := xs) fun x hx => by rw [h x hx, if_pos rfl]
  rw [this, List.filter_eq_self.mpr fun _ _ => rfl]
/-! ### members -/
def LoOk (l : Option Int) (v : Int) : Prop := ∀ a, l = some a → a ≤ v
def HiOk (h : Option Int) (v : Int) : Prop := ∀ b, h = some b → v ≤ b
def Mem (l h : Option Int) (w : List Int) (v : Int) : Prop := LoOk l v ∧ HiOk h v ∧ v ∉ w
def NF (l h : Option Int) (w : List Int) : Prop := w.Pairwise (· < ·) ∧ (∀ x ∈ w, (∀ a, l = some a → a < x) ∧ (∀ b, h = some b → x < b)) ∧ (∀ a b, l = some a → h = some b → a ≤ b)
def Fm (l h : Option Int) (w : List Int) : Prop := NF l h w ∨ (l = some 1 ∧ h = some 0 ∧ w = [])
theorem lo_none (v : Int) : LoOk none v := fun _ h => nomatch h
theorem hi_none (v : Int) : HiOk none v := fun _ h => nomatch h
theorem lo_some {a v : Int} : LoOk (some a) v ↔ a ≤ v := ⟨fun h => h a rfl, fun h b e => by cases e; exact h⟩
theorem hi_some {b v : Int} : HiOk (some b) v ↔ v ≤ b := ⟨fun h => h b rfl, fun h a e => by cases e; exact h⟩
def btw (l h : Option Int) (v : Int) : Bool := (match l with | none => true | some a => decide (a ≤ v)) && (match h with | none => true | some b => decide (v ≤ b))
theorem btw_iff (l h : Option Int) (v : Int) : btw l h v = true ↔ LoOk l v ∧ HiOk h v := by
  unfold btw
  rw [Bool.and_eq_true]
  cases l with
  | none => cases h with
    | none => simp [lo_none, hi_none]
    | some b => simp [lo_none, hi_some]
  | some a => cases h with
    | none => simp [lo_some, hi_none]
    | some b => simp [lo_some, hi_some]
theorem between_ok (l h : Option Int) (v : Int) : m_between l h v = some (btw l h v) := by
  cases l with
  | none => cases h <;> rfl
  | some a => cases h with
    | none =>
      show bindO (iteO (decide (a ≤ v)) (some true) (some false)) _ = _
      unfold btw
      dsimp only
      cases decide (a ≤ v) <;> rfl
    | some b =>
      show bindO (iteO (decide (a ≤ v)) (some (decide (v ≤ b))) (some false)) _ = _
      unfold btw
      dsimp only
      cases decide (a ≤ v) <;> rfl
def mb (l h : Option Int) (w : List Int) (v : Int) : Bool := btw l h v && !decide (v ∈ w)
theorem mb_iff (l h : Option Int) (w : List Int) (v : Int) : mb l h w v = true ↔ Mem l h w v := by
  unfold mb Mem
  rw [Bool.and_eq_true, btw_iff, Bool.not_eq_true', decide_eq_false_iff_not, and_assoc]
/-! ### the ends move over what is left out -/
def strip : Int → List Int → Int × List Int
  | l, [] => (l, [])
  | l, x :: xs => if x = l then strip (l + 1) xs else (l, x :: xs)
theorem strip_ok : ∀ (xs : List Int) (l : Int), xs.Pairwise (· < ·) → (∀ x ∈ xs, l ≤ x) → (∀ x ∈ (strip l xs).2, (strip l xs).1 < x) ∧ (∀ v, ((strip l xs).1 ≤ v ∧ v ∉ (strip l xs).2) ↔ (l ≤ v ∧ v ∉ xs)) ∧ (strip l xs).2 <:+ xs
  | [], l, _, _ => by simp [strip]
  | x :: xs, l, hp, hl => by
    have hp' := List.pairwise_cons.mp hp
    unfold strip
    by_cases e : x = l
    · rw [if_pos e]
      obtain ⟨h1, h2, h3⟩ := strip_ok xs (l + 1) hp'.2 fun y hy => by have := hp'.1 y hy; omega
      refine ⟨h1, fun v => (h2 v).trans ?_, h3.trans (List.suffix_cons _ _)⟩
      rw [List.mem_cons]
      constructor
      · intro ⟨a, b⟩; exact ⟨by omega, fun z => z.elim (fun z => by omega) b⟩
      · intro ⟨a, b⟩
        have : v ≠ x := fun z => b (.inl z)
        exact ⟨by omega, fun z => b (.inr z)⟩
    · rw [if_neg e]
      refine ⟨fun y hy => ?_, fun v => Iff.rfl, List.suffix_refl _⟩
      have hx := hl x List.mem_cons_self
      rcases List.mem_cons.mp hy with rfl | hy
      · show l < y; omega
      · have := hp'.1 y hy; show l < y; omega
def stripD : Int → List Int → Int × List Int
  | h, [] => (h, [])
  | h, x :: xs => if x = h then stripD (h - 1) xs else (h, x :: xs)
theorem stripD_ok : ∀ (xs : List Int) (h : Int), xs.Pairwise (· > ·) → (∀ x ∈ xs, x ≤ h) → (∀ x ∈ (stripD h xs).2, x < (stripD h xs).1) ∧ (∀ v, (v ≤ (stripD h xs).1 ∧ v ∉ (stripD h xs).2) ↔ (v ≤ h ∧ v ∉ xs)) ∧ (stripD h xs).2 <:+ xs
  | [], h, _, _ => by simp [stripD]
  | x :: xs, h, hp, hl => by
    have hp' := List.pairwise_cons.mp hp
    unfold stripD
    by_cases e : x = h
    · rw [if_pos e]
      obtain ⟨h1, h2, h3⟩ := stripD_ok xs (h - 1) hp'.2 fun y hy => by have : x > y := hp'.1 y hy; omega
      refine ⟨h1, fun v => (h2 v).trans ?_, h3.trans (List.suffix_cons _ _)⟩
      rw [List.mem_cons]
      constructor
      · intro ⟨a, b⟩; exact ⟨by omega, fun z => z.elim (fun z => by omega) b⟩
      · intro ⟨a, b⟩
        have : v ≠ x := fun z => b (.inl z)
        exact ⟨by omega, fun z => b (.inr z)⟩
    · rw [if_neg e]
      refine ⟨fun y hy => ?_, fun v => Iff.rfl, List.suffix_refl _⟩
      have hx := hl x List.mem_cons_self
      rcases List.mem_cons.mp hy with rfl | hy
      · show y < h; omega
      · have : x > y := hp'.1 y hy; show y < h; omega
theorem whL_step {ρ ς : Type} {c : ς → Option Bool} {f : ς → Option (Step ρ ς)} {s s' : ς} {n : Nat} (h : c s = some true) (e : f s = some (.nx s')) : whL c f (n + 1) s = whL c f n s' := by
  show (match c s with | none => none | some false => some (Step.nx s) | some true => _) = _
  rw [h]
  show (match f s with | none => none | some (.nx s') => whL c f n s' | some (.brk s') => some (Step.nx s') | some (.ret b) => some (Step.ret b)) = _
  rw [e]
theorem whL_end {ρ ς : Type} {c : ς → Option Bool} {f : ς → Option (Step ρ ς)} {s : ς} {n : Nat} (h : c s = some false) : whL c f (n + 1) s = some (.nx s) := by
  show (match c s with | none => none | some false => some (Step.nx s) | some true => _) = _
  rw [h]
theorem w1_in {gs : List Int} {l : Option Int} {s : Nat} {x : Int} (h : gs[s]? = some x) : m_one_form_w1 gs (l, (s : Int)) = some (decide (some x = l)) := by
  have hs : s < gs.length := (List.getElem?_eq_some_iff.mp h).1
  unfold m_one_form_w1
  simp only [letO_s, atI_nat2, h, bindO_s, show decide ((s : Int) < (gs.length : Int)) = true from decide_eq_true (by omega), iteO_T]
theorem w1_out {gs : List Int} {l : Option Int} {s : Nat} (h : gs.length ≤ s) : m_one_form_w1 gs (l, (s : Int)) = some false := by
  unfold m_one_form_w1
  simp only [letO_s, show decide ((s : Int) < (gs.length : Int)) = false from decide_eq_false (by omega), iteO_F, bindO_s]
theorem wh1 (gs : List Int) : ∀ (n : Nat) (l : Int) (s : Nat), gs.length - s < n → s ≤ gs.length → whL (m_one_form_w1 gs) m_one_form_b1 n (some l, (s : Int)) = some (.nx (some (strip l (gs.drop s)).1, ((gs.length - (strip l (gs.drop s)).2.length : Nat) : Int)))
  | 0, _, _, h, _ => by omega
  | n + 1, l, s, h, hs => by
    by_cases hl : s < gs.length
    · have hx : gs[s]? = some gs[s] := List.getElem?_eq_getElem hl
      rw [List.drop_eq_getElem_cons hl]
      unfold strip
      by_cases e : gs[s] = l
      · rw [if_pos e, whL_step (s' := (some (l + 1), ((s + 1 : Nat) : Int))) (by rw [w1_in hx, e, decide_eq_true rfl]) (by rfl), wh1 gs n (l + 1) (s + 1) (by omega) (by omega)]
      · rw [if_neg e, whL_end (by rw [w1_in hx, decide_eq_false fun z => e (Option.some.inj z)])]
        rw [List.length_cons, List.length_drop]
        congr 4
        omega
    · have e : gs.drop s = [] := List.drop_eq_nil_of_le (by omega)
      rw [whL_end (w1_out (by omega)), e]
      show some (Step.nx (some l, (s : Int))) = some (Step.nx (some l, ((gs.length - 0 : Nat) : Int)))
      rw [show s = gs.length - 0 by omega]
theorem w2_in {gs : List Int} {l h : Option Int} {s e : Nat} {x : Int} (hs : s < e) (hx : gs[e - 1]? = some x) : m_one_form_w2 gs (l, (s : Int)) (h, (e : Int)) = some (decide (some x = h)) := by
  unfold m_one_form_w2
  have e1 : (e : Int) - 1 = ((e - 1 : Nat) : Int) := by omega
  simp only [letO_s, e1, atI_nat2, hx, bindO_s, show decide ((s : Int) < (e : Int)) = true from decide_eq_true (by omega), iteO_T]
theorem w2_out {gs : List Int} {l h : Option Int} {s e : Nat} (hs : e ≤ s) : m_one_form_w2 gs (l, (s : Int)) (h, (e : Int)) = some false := by
  unfold m_one_form_w2
  simp only [letO_s, show decide ((s : Int) < (e : Int)) = false from decide_eq_false (by omega), iteO_F, bindO_s]
theorem wh2 (gs : List Int) (l : Option Int) (s : Nat) : ∀ (n : Nat) (h : Int) (e : Nat), e - s < n → s ≤ e → e ≤ gs.length → whL (m_one_form_w2 gs (l, (s : Int))) m_one_form_b2 n (some h, (e : Int)) =
    some (.nx (some (stripD h ((gs.take e).drop s).reverse).1, ((s + (stripD h ((gs.take e).drop s).reverse).2.length : Nat) : Int)))
  | 0, _, _, h, _, _ => by omega
  | n + 1, h, e, hn, hs, he => by
    by_cases hl : s < e
    · have hx : gs[e - 1]? = some gs[e - 1] := List.getElem?_eq_getElem (by omega)
      have ec : ((gs.take e).drop s).reverse = gs[e - 1] :: ((gs.take (e - 1)).drop s).reverse := by
        have e0 : gs.take e = gs.take (e - 1) ++ [gs[e - 1]] := by
          have := List.take_append_getElem (l := gs) (i := e - 1) (by omega)
          rw [show e - 1 + 1 = e by omega] at this
          exact this.symm
        rw [e0, List.drop_append_of_le_length (by rw [List.length_take]; omega), List.reverse_append]
        rfl
      rw [ec]
      unfold stripD
      by_cases ee : gs[e - 1] = h
      · rw [if_pos ee, whL_step (s' := (some (h - 1), ((e - 1 : Nat) : Int))) (by rw [w2_in hl hx, ee, decide_eq_true rfl]) (by
          show some (Step.nx (some (h - 1), (e : Int) - 1)) = _
          rw [show (e : Int) - 1 = ((e - 1 : Nat) : Int) by omega]), wh2 gs l s n (h - 1) (e - 1) (by omega) (by omega) (by omega)]
      · rw [if_neg ee, whL_end (by rw [w2_in hl hx, decide_eq_false fun z => ee (Option.some.inj z)])]
        rw [List.length_cons, List.length_reverse, List.length_drop, List.length_take]
        congr 4
        omega
    · have e0 : (gs.take e).drop s = [] := List.drop_eq_nil_of_le (by rw [List.length_take]; omega)
      rw [whL_end (w2_out (by omega)), e0]
      show some (Step.nx (some h, (e : Int))) = some (Step.nx (some h, ((s + 0 : Nat) : Int)))
      rw [show s + 0 = e by omega]
theorem lo_loop (gs : List Int) (low : Option Int) (ha : gs.Pairwise (· < ·)) (hl : ∀ x ∈ gs, LoOk low x) (hn : gs.length < 1000000) : ∃ (l1 : Option Int) (s : Nat), whL (m_one_form_w1 gs) m_one_form_b1 1000000 (low, 0) = some (.nx (l1, (s : Int))) ∧ s ≤ gs.length ∧
    (∀ x ∈ gs.drop s, ∀ a, l1 = some a → a < x) ∧ (∀ v, (LoOk l1 v ∧ v ∉ gs.drop s) ↔ (LoOk low v ∧ v ∉ gs)) := by
  cases low with
  | none =>
    refine ⟨none, 0, whL_end ?_, Nat.zero_le _, (fun x _ a h => nomatch h), fun v => by rw [List.drop_zero]⟩
    cases gs with
    | nil => exact w1_out (Nat.le_refl _)
    | cons x xs => exact w1_in (s := 0) (x := x) rfl
  | some l =>
    obtain ⟨h1, h2, h3⟩ := strip_ok gs l ha fun x hx => lo_some.mp (hl x hx)
    have := wh1 gs 1000000 l 0 (by omega) (Nat.zero_le _)
    rw [List.drop_zero] at this
    have ed : gs.drop (gs.length - (strip l gs).2.length) = (strip l gs).2 := (List.suffix_iff_eq_drop.mp h3).symm
    refine ⟨_, _, this, Nat.sub_le _ _, fun x hx a e => ?_, fun v => ?_⟩
    · rw [ed] at hx; cases e; exact h1 x hx
    · rw [ed, lo_some, lo_some]; exact h2 v
theorem hi_loop (gs : List Int) (l high : Option Int) (s : Nat) (hs : s ≤ gs.length) (ha : gs.Pairwise (· < ·)) (hl : ∀ x ∈ gs, HiOk high x) (hn : gs.length < 1000000) : ∃ (h1 : Option Int) (e : Nat), whL (m_one_form_w2 gs (l, (s : Int))) m_one_form_b2 1000000 (high, (gs.length : Int)) = some (.nx (h1, (e : Int))) ∧ s ≤ e ∧ e ≤ gs.length ∧
    (∀ x ∈ (gs.take e).drop s, ∀ a, h1 = some a → x < a) ∧ (∀ v, (HiOk h1 v ∧ v ∉ (gs.take e).drop s) ↔ (HiOk high v ∧ v ∉ gs.drop s)) := by
  cases high with
  | none =>
    refine ⟨none, gs.length, whL_end ?_, hs, Nat.le_refl _, (fun x _ a h => nomatch h), fun v => by rw [List.take_length]⟩
    by_cases h : s < gs.length
    · exact w2_in h (List.getElem?_eq_getElem (by omega))
    · exact w2_out (by omega)
  | some h =>
    have hr : (gs.drop s).reverse.Pairwise (· > ·) := by
      rw [List.pairwise_reverse]
      exact (ha.sublist (List.drop_sublist s gs)).imp fun q => q
    obtain ⟨h1, h2, h3⟩ := stripD_ok (gs.drop s).reverse h hr fun x hx => hi_some.mp (hl x (List.mem_of_mem_drop (List.mem_reverse.mp hx)))
    have := wh2 gs l s 1000000 h gs.length (by omega) hs (Nat.le_refl _)
    rw [List.take_length] at this
    have hle : (stripD h (gs.drop s).reverse).2.length ≤ gs.length - s := by
      have := h3.length_le
      rw [List.length_reverse, List.length_drop] at this; exact this
    have ed : (gs.take (s + (stripD h (gs.drop s).reverse).2.length)).drop s = (stripD h (gs.drop s).reverse).2.reverse := by
      rw [List.drop_take, Nat.add_sub_cancel_left]
      obtain ⟨p, hp⟩ := h3
      have e2 : gs.drop s = (stripD h (gs.drop s).reverse).2.reverse ++ p.reverse := by
        rw [← List.reverse_append, hp, List.reverse_reverse]
      have e3 : ∀ m : List Int, m = (stripD h (gs.drop s).reverse).2.reverse ++ p.reverse → m.take (stripD h (gs.drop s).reverse).2.length = (stripD h (gs.drop s).reverse).2.reverse := fun m em => by
        rw [em]; exact List.take_left' (by rw [List.length_reverse])
      exact e3 _ e2
    refine ⟨_, _, this, by omega, by omega, fun x hx a e => ?_, fun v => ?_⟩
    · rw [ed] at hx; cases e; exact h1 x (List.mem_reverse.mp hx)
    · rw [ed, hi_some, hi_some, List.mem_reverse]
      have := h2 v
      rw [List.mem_reverse] at this
      exact this
theorem cut_nat (gs : List Int) {s e : Nat} (h1 : s ≤ e) (h2 : e ≤ gs.length) : cut gs (some (s : Int)) (some (e : Int)) = (gs.take e).drop s := by
  unfold cut
  rw [List.drop_take]
  simp only [HT.sIx_nat, Nat.min_eq_left (show s ≤ gs.length by omega), Nat.min_eq_left h2]
theorem form_ok (low high : Option Int) (ws : List Int) (hw : ws.length < 64) : ∃ l h w, m_one_form low high ws = some (l, h, w) ∧ Fm l h w ∧ w.length ≤ ws.length ∧ ∀ v, Mem l h w v ↔ Mem low high ws v := by
  unfold m_one_form
  have hf : compL (m_one_form_c1 low high) ws = some ((ws.filter (btw low high)).map id) := compL_fil fun x _ => by
    unfold m_one_form_c1
    simp only [between_ok, bindO_s, letO_s]
    cases btw low high x <;> rfl
  have hl : (ws.filter (btw low high)).length < 64 := Nat.lt_of_le_of_lt (List.length_filter_le _ _) hw
  have hss : pySS ((ws.filter (btw low high)).map id) = some (sset (ws.filter (btw low high))) := by rw [List.map_id]; exact if_pos hl
  have hgl : (sset (ws.filter (btw low high))).length ≤ ws.length := by
    have : ∀ l : List Int, (sset l).length ≤ l.length := fun l => by
      induction l with
      | nil => exact Nat.le_refl _
      | cons x xs ih =>
        have hi : ∀ (x : Int) (l : List Int), (insI x l).length ≤ l.length + 1 := fun x l => by
          induction l with
          | nil => exact Nat.le_refl _
          | cons y ys ih => unfold insI; split <;> (try split) <;> simp_all <;> omega
        unfold sset
        have := hi x (sset xs)
        rw [List.length_cons]; omega
    have := this (ws.filter (btw low high))
    have := List.length_filter_le (btw low high) ws
    omega
  have hm : ∀ v, v ∈ sset (ws.filter (btw low high)) ↔ v ∈ ws ∧ LoOk low v ∧ HiOk high v := fun v => by rw [sset_mem, List.mem_filter, btw_iff]
  have hasc := sset_asc (ws.filter (btw low high))
  generalize sset (ws.filter (btw low high)) = gs at hss hgl hm hasc
  obtain ⟨l1, s, e1, hs, a1, b1⟩ := lo_loop gs low hasc (fun x hx => ((hm x).mp hx).2.1) (by omega)
  obtain ⟨h1, e, e2, hse, he, a2, b2⟩ := hi_loop gs l1 high s hs hasc (fun x hx => ((hm x).mp hx).2.2) (by omega)
  simp only [hf, bindO_s, hss, letO_s, e1, stepO_N, e2]
  have hmem : ∀ v, Mem l1 h1 ((gs.take e).drop s) v ↔ Mem low high ws v := fun v => by
    have q1 := b1 v
    have q2 := b2 v
    have q3 := hm v
    unfold Mem
    constructor
    · rintro ⟨x1, x2, x3⟩
      obtain ⟨y1, y2⟩ := q2.mp ⟨x2, x3⟩
      obtain ⟨z1, z2⟩ := q1.mp ⟨x1, y2⟩
      exact ⟨z1, y1, fun z => z2 (q3.mpr ⟨z, z1, y1⟩)⟩
    · rintro ⟨x1, x2, x3⟩
      obtain ⟨y1, y2⟩ := q1.mpr ⟨x1, fun z => x3 (q3.mp z).1⟩
      obtain ⟨z1, z2⟩ := q2.mpr ⟨x2, y2⟩
      exact ⟨y1, z1, z2⟩
  have hpw : ((gs.take e).drop s).Pairwise (· < ·) := hasc.sublist ((List.drop_sublist _ _).trans (List.take_sublist _ _))
  have hsub : ∀ x ∈ (gs.take e).drop s, x ∈ gs.drop s := fun x hx => by
    rw [List.drop_take] at hx
    exact List.mem_of_mem_take hx
  have fin : (∀ a b, l1 = some a → h1 = some b → a ≤ b) → Fm l1 h1 ((gs.take e).drop s) := fun hab => .inl ⟨hpw, fun x hx => ⟨fun a ea => a1 x (hsub x hx) a ea, fun b eb => a2 x hx b eb⟩, hab⟩
  rw [cut_nat gs hse he]
  have hlen : ((gs.take e).drop s).length ≤ ws.length := by rw [List.length_drop, List.length_take]; omega
  cases l1 with
  | none => exact ⟨_, _, _, rfl, fin ((fun _ _ h => nomatch h)), hlen, hmem⟩
  | some a =>
    cases h1 with
    | none => exact ⟨_, _, _, rfl, fin ((fun _ _ _ h => nomatch h)), hlen, hmem⟩
    | some b =>
      show ∃ l h w, bindO (some (decide (b < a))) _ = _ ∧ _
      rw [bindO_s]
      by_cases hab : b < a
      · rw [decide_eq_true hab]
        refine ⟨_, _, _, rfl, .inr ⟨rfl, rfl, rfl⟩, Nat.zero_le _, fun v => ?_⟩
        rw [← hmem v]
        unfold Mem
        rw [lo_some, hi_some, lo_some, hi_some]
        constructor
        · rintro ⟨x, y, _⟩; omega
        · rintro ⟨x, y, _⟩; omega
      · rw [decide_eq_false hab]
        exact ⟨_, _, _, rfl, fin (fun x y e1 e2 => by cases e1; cases e2; omega), hlen, hmem⟩
/-! ### the object -/
abbrev Rg := Option Int × Option Int × List Int × Option Int × Option Int × List (Int × Bool)
def szR (l h : Option Int) (w : List Int) : Option Int := match l, h with
  | some a, some b => some (b - a + 1 - (w.length : Int))
  | _, _ => none
def mkR (l h : Option Int) (w : List Int) : Rg := (l, h, w, szR l h w, (if szR l h w = some 1 then l else none), w.map fun x => (x, true))
theorem size_ok (l h : Option Int) (w : List Int) : m_size_of l h w = some (szR l h w) := by
  cases l <;> cases h <;> rfl
theorem putM_new {d : List (Int × Bool)} {x : Int} (h : ∀ p ∈ d, p.1 ≠ x) : putM d x true = d ++ [(x, true)] := by
  induction d with
  | nil => rfl
  | cons p ps ih =>
    have h1 := h p List.mem_cons_self
    have h2 := ih fun q hq => h q (List.mem_cons_of_mem _ hq)
    first
    | (unfold putM; rw [if_neg h1, h2]; rfl)
    | (unfold putM at h2 ⊢; simp_all)
theorem dict_ok : ∀ (w : List Int) (d : List (Int × Bool)), w.Pairwise (· < ·) → (∀ x ∈ w, ∀ p ∈ d, p.1 ≠ x) → compD m_Region___init_c1 w d = some (d ++ w.map fun x => (x, true))
  | [], d, _, _ => by rw [List.map_nil, List.append_nil]; rfl
  | x :: xs, d, hp, hd => by
    have hp' := List.pairwise_cons.mp hp
    show compD m_Region___init_c1 xs (putM d x true) = _
    rw [putM_new (hd x List.mem_cons_self), dict_ok xs _ hp'.2 fun y hy p hpp => ?_, List.append_assoc]
    · rfl
    · rcases List.mem_append.mp hpp with h | h
      · exact hd y (List.mem_cons_of_mem _ hy) p h
      · rw [List.mem_singleton.mp h]
        have := hp'.1 y hy
        show x ≠ y
        omega
theorem fm_asc {l h : Option Int} {w : List Int} (f : Fm l h w) : w.Pairwise (· < ·) := by
  rcases f with f | ⟨_, _, rfl⟩
  · exact f.1
  · exact .nil
theorem init_ok (low high : Option Int) (ws : List Int) (hw : ws.length < 64) : ∃ l h w, m_Region___init low high ws = some (mkR l h w) ∧ Fm l h w ∧ w.length ≤ ws.length ∧ ∀ v, Mem l h w v ↔ Mem low high ws v := by
  obtain ⟨l, h, w, e, f, n, m⟩ := form_ok low high ws hw
  refine ⟨l, h, w, ?_, f, n, m⟩
  unfold m_Region___init
  simp only [e, bindO_s, letO_s, size_ok, dict_ok w [] (fm_asc f) ((fun _ _ _ z => nomatch z)), List.nil_append]
  unfold mkR
  by_cases h1 : szR l h w = some 1
  · rw [h1, decide_eq_true rfl]; rfl
  · rw [decide_eq_false h1, if_neg h1]; rfl
theorem dict_in (w : List Int) (v : Int) : (getM (w.map fun x => (x, true)) v).isSome = decide (v ∈ w) := by
  unfold getM
  rw [Option.isSome_map]
  induction w with
  | nil => rfl
  | cons x xs ih =>
    rw [List.map_cons]
    by_cases h : x = v
    · rw [List.find?_cons_of_pos (by simpa using h)]
      subst h; simp
    · rw [List.find?_cons_of_neg (by simpa using h), ih]
      have h' : ¬ v = x := fun e => h e.symm
      simp [h']
/-! ### one form: equal members, equal ends -/
theorem below (w : List Int) (c : Int) : ∃ v, v ≤ c ∧ ∀ x ∈ w, v < x := by
  induction w with
  | nil => exact ⟨c, Int.le_refl _, (fun _ h => nomatch h)⟩
  | cons x xs ih =>
    obtain ⟨v, h1, h2⟩ := ih
    refine ⟨min v (x - 1), by omega, fun y hy => ?_⟩
    rcases List.mem_cons.mp hy with rfl | hy
    · omega
    · have := h2 y hy; omega
theorem above (w : List Int) (c : Int) : ∃ v, c ≤ v ∧ ∀ x ∈ w, x < v := by
  induction w with
  | nil => exact ⟨c, Int.le_refl _, (fun _ h => nomatch h)⟩
  | cons x xs ih =>
    obtain ⟨v, h1, h2⟩ := ih
    refine ⟨max v (x + 1), by omega, fun y hy => ?_⟩
    rcases List.mem_cons.mp hy with rfl | hy
    · omega
    · have := h2 y hy; omega
theorem low_mem {a : Int} {h : Option Int} {w : List Int} (f : NF (some a) h w) : Mem (some a) h w a :=
  ⟨lo_some.mpr (Int.le_refl _), fun b eb => f.2.2 a b rfl eb, fun z => by have := (f.2.1 a z).1 a rfl; omega⟩
theorem high_mem {l : Option Int} {b : Int} {w : List Int} (f : NF l (some b) w) : Mem l (some b) w b :=
  ⟨fun a ea => f.2.2 a b ea rfl, hi_some.mpr (Int.le_refl _), fun z => by have := (f.2.1 b z).2 b rfl; omega⟩
theorem far_low {h : Option Int} {w : List Int} (c : Int) : ∃ v, v ≤ c ∧ Mem none h w v := by
  obtain ⟨v, h1, h2⟩ := below w (match h with | none => c | some b => min b c)
  refine ⟨v, ?_, lo_none _, fun b eb => ?_, fun z => by have := h2 v z; omega⟩
  · cases h with
    | none => exact h1
    | some b => have h1 : v ≤ min b c := h1; omega
  · subst eb
    have h1 : v ≤ min b c := h1
    omega
theorem far_high {l : Option Int} {w : List Int} (c : Int) : ∃ v, c ≤ v ∧ Mem l none w v := by
  obtain ⟨v, h1, h2⟩ := above w (match l with | none => c | some b => max b c)
  refine ⟨v, ?_, fun a ea => ?_, hi_none _, fun z => by have := h2 v z; omega⟩
  · cases l with
    | none => exact h1
    | some b => have h1 : max b c ≤ v := h1; omega
  · subst ea
    have h1 : max a c ≤ v := h1
    omega
theorem nf_some {l h : Option Int} {w : List Int} (f : NF l h w) : ∃ v, Mem l h w v := by
  cases l with
  | some a => exact ⟨a, low_mem f⟩
  | none =>
    obtain ⟨v, _, h⟩ := far_low (h := h) (w := w) 0
    exact ⟨v, h⟩
theorem no_mem (v : Int) : ¬ Mem (some 1) (some 0) [] v := fun ⟨a, b, _⟩ => by
  have := lo_some.mp a
  have := hi_some.mp b
  omega
theorem uniq {l h l' h' : Option Int} {w w' : List Int} (f : Fm l h w) (f' : Fm l' h' w') (m : ∀ v, Mem l h w v ↔ Mem l' h' w' v) : l = l' ∧ h = h' ∧ w = w' := by
  rcases f with f | ⟨rfl, rfl, rfl⟩
  · rcases f' with f' | ⟨rfl, rfl, rfl⟩
    · have el : l = l' := by
        cases l with
        | none => cases l' with
          | none => rfl
          | some a =>
            obtain ⟨v, h1, h2⟩ := far_low (h := h) (w := w) (a - 1)
            have := lo_some.mp ((m v).mp h2).1
            omega
        | some a => cases l' with
          | none =>
            obtain ⟨v, h1, h2⟩ := far_low (h := h') (w := w') (a - 1)
            have := lo_some.mp ((m v).mpr h2).1
            omega
          | some a' =>
            have h1 := lo_some.mp ((m a).mp (low_mem f)).1
            have h2 := lo_some.mp ((m a').mpr (low_mem f')).1
            congr 1; omega
      have eh : h = h' := by
        cases h with
        | none => cases h' with
          | none => rfl
          | some a =>
            obtain ⟨v, h1, h2⟩ := far_high (l := l) (w := w) (a + 1)
            have := hi_some.mp ((m v).mp h2).2.1
            omega
        | some a => cases h' with
          | none =>
            obtain ⟨v, h1, h2⟩ := far_high (l := l') (w := w') (a + 1)
            have := hi_some.mp ((m v).mpr h2).2.1
            omega
          | some a' =>
            have h1 := hi_some.mp ((m a).mp (high_mem f)).2.1
            have h2 := hi_some.mp ((m a').mpr (high_mem f')).2.1
            congr 1; omega
      subst el
      subst eh
      refine ⟨rfl, rfl, asc_eq f.1 f'.1 fun z => ⟨fun hz => ?_, fun hz => ?_⟩⟩
      · by_cases hz' : z ∈ w'
        · exact hz'
        · have q := f.2.1 z hz
          exact absurd hz ((m z).mpr ⟨fun a ea => Int.le_of_lt (q.1 a ea), fun b eb => Int.le_of_lt (q.2 b eb), hz'⟩).2.2
      · by_cases hz' : z ∈ w
        · exact hz'
        · have q := f'.2.1 z hz
          exact absurd hz ((m z).mp ⟨fun a ea => Int.le_of_lt (q.1 a ea), fun b eb => Int.le_of_lt (q.2 b eb), hz'⟩).2.2
    · obtain ⟨v, hv⟩ := nf_some f
      exact absurd ((m v).mp hv) (no_mem v)
  · rcases f' with f' | ⟨rfl, rfl, rfl⟩
    · obtain ⟨v, hv⟩ := nf_some f'
      exact absurd ((m v).mpr hv) (no_mem v)
    · exact ⟨rfl, rfl, rfl⟩
/-! ### data -/
theorem lay_nil : PyData.canLayAll0 [] = true := by simp [PyData.canLayAll0]
theorem lay_cons {x : PyData} {xs : List PyData} (h : x.canLay0 = true) (h2 : PyData.canLayAll0 xs = true) : PyData.canLayAll0 (x :: xs) = true := by simp [PyData.canLayAll0, h, h2]
theorem lay_tup {xs : List PyData} (h : PyData.canLayAll0 xs = true) : PyData.canLay0 (.tuple xs) = true := by simpa [PyData.canLay0] using h
theorem lay_list {xs : List PyData} (h : PyData.canLayAll0 xs = true) : PyData.canLay0 (.list xs) = true := by simpa [PyData.canLay0] using h
theorem lay_int (i : Int) : PyData.canLay0 (.int i) = true := by simp [PyData.canLay0]
theorem lay_none : PyData.canLay0 .none = true := by simp [PyData.canLay0]
theorem lay_bool (b : Bool) : PyData.canLay0 (.bool b) = true := by simp [PyData.canLay0]
theorem lay_opt (o : Option Int) : PyData.canLay0 (dOpt PyData.int o) = true := by
  cases o with
  | none => exact lay_none
  | some i => exact lay_int i
theorem lay_ints : ∀ l : List Int, PyData.canLayAll0 (l.map PyData.int) = true
  | [] => lay_nil
  | x :: xs => lay_cons (lay_int x) (lay_ints xs)
theorem dep_opt (o : Option Int) : (dOpt PyData.int o).depth = 0 := by cases o <;> simp [dOpt, PyData.depth]
theorem dep_ints : ∀ l : List Int, PyData.depthAll (l.map PyData.int) = 0
  | [] => by simp [PyData.depthAll]
  | x :: xs => by simp [PyData.depthAll, PyData.depth, dep_ints xs]
theorem eq_some {d e : PyData} (h : d.canLay0 = true) (hd : d.depth ≤ 64) (h2 : e.canLay0 = true) (he : e.depth ≤ 64) : pyEq d e = some (PyData.eqv d e) := by
  unfold pyEq
  have hs : ∀ d : PyData, d.canLay0 = true → d.depth ≤ 64 → SeqAt.shaped d = true := fun d h hd => by
    unfold SeqAt.shaped
    rw [h, decide_eq_true hd]; rfl
  rw [if_pos ⟨hs d h hd, hs e h2 he⟩]
theorem eqv_int (i j : Int) : PyData.eqv (.int i) (.int j) = decide (i = j) := by
  simp only [PyData.eqv]
  by_cases h : i = j <;> simp [h]
theorem eqv_opt (o p : Option Int) : PyData.eqv (dOpt PyData.int o) (dOpt PyData.int p) = decide (o = p) := by
  cases o with
  | none => cases p with
    | none => simp [dOpt, PyData.eqv]
    | some j => simp [dOpt, PyData.eqv]
  | some i => cases p with
    | none => simp [dOpt, PyData.eqv]
    | some j =>
      show PyData.eqv (.int i) (.int j) = _
      rw [eqv_int]
      by_cases h : i = j <;> simp [h]
theorem eqvAll_ints : ∀ a b : List Int, PyData.eqvAll (a.map PyData.int) (b.map PyData.int) = decide (a = b)
  | [], [] => by simp [PyData.eqvAll]
  | [], y :: ys => by simp [PyData.eqvAll]
  | x :: xs, [] => by simp [PyData.eqvAll]
  | x :: xs, y :: ys => by
    rw [List.map_cons, List.map_cons, PyData.eqvAll, eqv_int, eqvAll_ints xs ys]
    by_cases h : x = y <;> by_cases h2 : xs = ys <;> simp [h, h2]
theorem eq_tpl (a b : List Int) : pyEq (dTpl PyData.int a) (dTpl PyData.int b) = some (decide (a = b)) := by
  refine (eq_some (lay_tup (lay_ints _)) (by simp [PyData.depth, dep_ints]) (lay_tup (lay_ints _)) (by simp [PyData.depth, dep_ints])).trans (congrArg some ?_)
  show PyData.eqv (.tuple _) (.tuple _) = _
  simp only [PyData.eqv]
  exact eqvAll_ints a b
theorem eq_lst (a b : List Int) : pyEq (dLst PyData.int a) (dLst PyData.int b) = some (decide (a = b)) := by
  refine (eq_some (lay_list (lay_ints _)) (by simp [PyData.depth, dep_ints]) (lay_list (lay_ints _)) (by simp [PyData.depth, dep_ints])).trans (congrArg some ?_)
  show PyData.eqv (.list _) (.list _) = _
  simp only [PyData.eqv]
  exact eqvAll_ints a b
theorem eq_nil {α : Type} (d : α → PyData) (l : List α) (h : PyData.canLayAll0 (l.map d) = true) (hd : PyData.depthAll (l.map d) ≤ 60) : pyEq (dLst d l) (dHls dw0 ()) = some l.isEmpty := by
  refine (eq_some (lay_list h) (by show (PyData.list (l.map d)).depth ≤ 64; simp only [PyData.depth]; omega) (lay_list lay_nil) (by show (PyData.list []).depth ≤ 64; simp [PyData.depth, PyData.depthAll])).trans (congrArg some ?_)
  show PyData.eqv (.list (l.map d)) (.list []) = _
  simp only [PyData.eqv]
  cases l with
  | nil => simp [PyData.eqvAll]
  | cons x xs => simp [PyData.eqvAll]
theorem eq_ints_nil (l : List Int) : pyEq (dLst PyData.int l) (dHls dw0 ()) = some l.isEmpty := eq_nil _ l (lay_ints l) (by rw [dep_ints]; decide)
end Law

set_option maxHeartbeats 4000000
/-! # the draws of the first family of laws -/
namespace G
theorem forL_inv {α ρ ς : Type} {f : α → ς → Option (Step ρ ς)} (P : Nat → ς → Prop) : ∀ {xs : List α} {s : ς} {k : Nat}, P k s → (∀ (i : Nat) (x : α) (s : ς), xs[i]? = some x → P (k + i) s → ∃ s', f x s = some (.nx s') ∧ P (k + i + 1) s') → ∃ s', forL f xs s = some (.nx s') ∧ P (k + xs.length) s'
  | [], s, k, h, _ => ⟨s, rfl, h⟩
  | x :: xs, s, k, h, st => by
    obtain ⟨s1, e1, h1⟩ := st 0 x s rfl h
    obtain ⟨s2, e2, h2⟩ := forL_inv (xs := xs) (k := k + 1) P h1 fun i y s' hy hp => by
      have q := st (i + 1) y s' (by simpa using hy) (by rw [show k + (i + 1) = k + 1 + i by omega]; exact hp)
      rw [show k + (i + 1) + 1 = k + 1 + i + 1 by omega] at q
      exact q
    refine ⟨s2, ?_, by rw [List.length_cons, show k + (xs.length + 1) = k + 1 + xs.length by omega]; exact h2⟩
    unfold forL
    rw [e1]
    exact e2
end G
namespace Law
local instance : G.TabL := ⟨[]⟩
open PySem L2 G
abbrev Dr := List Int × Int × Int × Int
def I (n : Int) (st : Dr) : Prop := 0 ≤ st.2.1 ∧ 0 ≤ st.2.2.2 ∧ st.2.2.2 ≤ n
theorem mod_some {i j : Int} (h : 0 < j) : pyMod i j = some (i % j) := if_pos h
theorem div_some {i j : Int} (h : 0 < j) (h2 : j ≤ 1000000000000) : pyDiv i j = some (i / j) := if_pos ⟨h, by
  have h3 : j.natAbs ≠ 0 := by omega
  rw [Nat.log2_lt h3]
  exact Nat.lt_of_lt_of_le (show j.natAbs < 2 ^ 40 by omega) (Nat.pow_le_pow_right (by decide) (by decide))⟩
theorem at_some {α : Type} {l : List α} {i : Int} (h0 : 0 ≤ i) (h : i < (l.length : Int)) : ∃ x, atI l i = some x := by
  unfold atI ixN
  rw [if_pos h0, if_pos h]
  exact ⟨l[i.toNat]'(by omega), by rw [Option.bind_some]; exact List.getElem?_eq_getElem (by omega)⟩
theorem draw_ok {n : Int} {st : Dr} {many : Int} (h : I n st) (hn : n ≤ 100000) (h1 : 0 < many) (h2 : many ≤ 1000000000000) : ∃ d st', m_l_draw st many = some (d, st') ∧ 0 ≤ d ∧ d < many ∧ I (n + 1) st' := by
  obtain ⟨l, pos, v, cnt⟩ := st
  obtain ⟨a1, a2, a3⟩ := h
  dsimp only at a1 a2 a3
  unfold m_l_draw
  simp only [letO_s]
  cases hc : decide ((10 : Int) ^ ((18 : Int)).toNat ≤ v) with
  | true =>
    rw [iteO_T, mod_some h1, bindO_s, div_some h1 h2, bindO_s]
    exact ⟨_, _, rfl, Int.emod_nonneg _ (by omega), Int.emod_lt_of_pos _ h1, a1, a2, by dsimp only; omega⟩
  | false =>
    rw [iteO_F]
    have hp : pyPow (v % 1000000007 + 69621 * (cnt + 1) + 48271) 17 = some ((v % 1000000007 + 69621 * (cnt + 1) + 48271) ^ (17 : Int).toNat) := if_pos ⟨by decide, by decide, by
      have b1 := Int.emod_nonneg v (show (1000000007 : Int) ≠ 0 by decide)
      have b2 := Int.emod_lt_of_pos v (show (0 : Int) < 1000000007 by decide)
      omega⟩
    rw [hp, bindO_s]
    cases hq : decide (pos < (l.length : Int)) with
    | true =>
      obtain ⟨x, hx⟩ := at_some a1 (of_decide_eq_true hq)
      rw [iteO_T, hx, bindO_s, bindO_s, mod_some h1, bindO_s]
      exact ⟨_, _, rfl, Int.emod_nonneg _ (by omega), Int.emod_lt_of_pos _ h1, by dsimp only; omega, by dsimp only; omega, by dsimp only; omega⟩
    | false =>
      rw [iteO_F, bindO_s, mod_some h1, bindO_s]
      exact ⟨_, _, rfl, Int.emod_nonneg _ (by omega), Int.emod_lt_of_pos _ h1, by dsimp only; omega, by dsimp only; omega, by dsimp only; omega⟩

theorem rng_some {j : Int} (h0 : 0 ≤ j) (h : j ≤ 1000) : pyRng j = some (rng 0 j.toNat) := if_pos ⟨by omega, by omega⟩
theorem start_ok (ns : List Int) (h : ns.length ≤ 63) : ∃ st, m_l_start ns = some st ∧ I 0 st := by
  unfold m_l_start
  have hs : pyScr ns = some ns := if_pos (by omega)
  simp only [letO_s, hs, bindO_s]
  cases hc : decide ((0 : Int) < (ns.length : Int)) with
  | false => exact ⟨_, rfl, by show (0 : Int) ≤ 1; decide, by show (0 : Int) ≤ 0; decide, by show (0 : Int) ≤ 0; decide⟩
  | true =>
    obtain ⟨x, hx⟩ := at_some (l := ns) (i := 0) (by decide) (of_decide_eq_true hc)
    rw [iteO_T, hx]
    exact ⟨_, rfl, by show (0 : Int) ≤ 1; decide, by show (0 : Int) ≤ 0; decide, by show (0 : Int) ≤ 0; decide⟩
theorem forL_cons {α ρ ς : Type} (f : α → ς → Option (Step ρ ς)) (x : α) (xs : List α) (s : ς) : forL f (x :: xs) s = (match f x s with
    | none => none
    | some (.nx s') => forL f xs s'
    | some (.brk s') => some (.nx s')
    | some (.ret b) => some (.ret b)) := rfl
theorem compL_cons {α β : Type} (f : α → Option (Option β)) (x : α) (xs : List α) : compL f (x :: xs) = (match f x with
    | none => none
    | some none => compL f xs
    | some (some y) => match compL f xs with
      | none => none
      | some ys => some (y :: ys)) := rfl

theorem forL_same {α ρ ς : Type} {f : α → ς → Option (Step ρ ς)} {s : ς} : ∀ {xs : List α}, (∀ x ∈ xs, f x s = some (.nx s)) → forL f xs s = some (.nx s)
  | [], _ => rfl
  | x :: xs, h => by
    rw [forL_cons, h x List.mem_cons_self]
    exact forL_same fun y hy => h y (List.mem_cons_of_mem _ hy)
theorem compS_cons {α β ς : Type} (f : α → ς → Option (Option β × ς)) (x : α) (xs : List α) (s : ς) : compS f (x :: xs) s = (match f x s with
    | none => none
    | some (none, s') => compS f xs s'
    | some (some y, s') => match compS f xs s' with
      | none => none
      | some (ys, s'') => some (y :: ys, s'')) := rfl
theorem at_mem {α : Type} {l : List α} {i : Int} {x : α} (h : atI l i = some x) : x ∈ l := by
  unfold atI at h
  cases q : ixN l.length i with
  | none => rw [q] at h; cases h
  | some j => rw [q] at h; exact List.mem_of_getElem? h
/-- a comprehension whose element is drawn -/
theorem drawn_ok {α β : Type} {f : α → Dr → Option (Option β × Dr)} {c : Int} (M : Int) (Z : β → Prop) (hc : 0 ≤ c) (hf : ∀ (x : α) (n : Int) (st : Dr), I n st → n ≤ M → ∃ y st', f x st = some (some y, st') ∧ Z y ∧ I (n + c) st') :
    ∀ (l : List α) (n : Int) (st : Dr), I n st → n + c * (l.length : Int) ≤ M → ∃ (ys : List β) (st' : Dr), compS f l st = some (ys, st') ∧ ys.length = l.length ∧ (∀ y ∈ ys, Z y) ∧ I (n + c * (l.length : Int)) st'
  | [], n, st, h, hm => ⟨[], st, rfl, rfl, (fun _ z => nomatch z), by simpa using h⟩
  | x :: xs, n, st, h, hm => by
    rw [List.length_cons] at hm
    have e0 : c * ((xs.length + 1 : Nat) : Int) = c * (xs.length : Int) + c := by rw [Int.natCast_add, Int.mul_add]; omega
    have e1 : 0 ≤ c * (xs.length : Int) := Int.mul_nonneg hc (by omega)
    obtain ⟨y, s, e, z, i⟩ := hf x n st h (by omega)
    obtain ⟨ys, st', e2, hl, ha, hi⟩ := drawn_ok M Z hc hf xs (n + c) s i (by omega)
    refine ⟨y :: ys, st', ?_, by simp [hl], fun w hw => ?_, ?_⟩
    · rw [compS_cons, e]
      dsimp only
      rw [e2]
    · rcases List.mem_cons.mp hw with rfl | hw
      · exact z
      · exact ha _ hw
    · rw [List.length_cons, e0, show n + (c * (xs.length : Int) + c) = n + c + c * (xs.length : Int) by omega]; exact hi
end Law

set_option maxHeartbeats 4000000
namespace Law
local instance : G.TabL := ⟨[]⟩
open PySem L2 G
theorem contains_ok (l h : Option Int) (w : List Int) (v : Int) : m_Region___contains (mkR l h w) v = some (mb l h w v) := by
  unfold m_Region___contains
  have e : (mkR l h w).2.2.2.2.2 = w.map fun x => (x, true) := rfl
  rw [e, dict_in]
  show bindO (m_between l h v) _ = _
  rw [between_ok]; rfl
end Law

set_option maxHeartbeats 4000000
/-! # the window about the base -/
namespace Law
local instance : G.TabL := ⟨[]⟩
open PySem L2 G
theorem mem_rng {lo v : Int} {n : Nat} : v ∈ rng lo n ↔ lo ≤ v ∧ v < lo + (n : Int) := by
  unfold rng
  rw [List.mem_map]
  constructor
  · rintro ⟨i, hi, rfl⟩
    have := List.mem_range.mp hi
    omega
  · intro ⟨h1, h2⟩
    exact ⟨(v - lo).toNat, List.mem_range.mpr (by omega), by omega⟩
theorem rng_asc (lo : Int) (n : Nat) : (rng lo n).Pairwise (· < ·) := by
  unfold rng
  rw [List.pairwise_map]
  exact List.pairwise_lt_range.imp fun h => by omega
theorem first_ok {l : List Int} {a : Int} (hp : l.Pairwise (· < ·)) (h : atI l (0 : Int) = some a) : a ∈ l ∧ ∀ x ∈ l, a ≤ x := by
  refine ⟨at_mem h, fun x hx => ?_⟩
  cases l with
  | nil => cases hx
  | cons y ys =>
    have e : atI (y :: ys) (0 : Int) = some y := by have := atI_nat2 (y :: ys) 0; exact this
    rw [e] at h; cases h
    rcases List.mem_cons.mp hx with rfl | hx
    · exact Int.le_refl _
    · exact Int.le_of_lt ((List.pairwise_cons.mp hp).1 x hx)
theorem last_ok {l : List Int} {a : Int} (hp : l.Pairwise (· < ·)) (h : atI l (-(1 : Int)) = some a) : a ∈ l ∧ ∀ x ∈ l, x ≤ a := by
  refine ⟨at_mem h, fun x hx => ?_⟩
  obtain ⟨i, hi, rfl⟩ := List.getElem_of_mem hx
  have e : atI l (-(1 : Int)) = some l[l.length - 1] := by
    unfold atI ixN
    rw [if_neg (by omega), if_pos (by omega)]
    show l[(-(1 : Int) + (l.length : Int)).toNat]? = _
    rw [show (-(1 : Int) + (l.length : Int)).toNat = l.length - 1 by omega]
    exact List.getElem?_eq_getElem (by omega)
  rw [e] at h; cases h
  by_cases hl : i = l.length - 1
  · subst hl; exact Int.le_refl _
  · exact Int.le_of_lt (List.pairwise_iff_getElem.mp hp i (l.length - 1) hi (by omega) (by omega))
theorem at_first {l : List Int} (h : l ≠ []) : ∃ a, atI l (0 : Int) = some a := at_some (by decide) (by cases l with | nil => exact absurd rfl h | cons x xs => rw [List.length_cons]; omega)
theorem at_last {l : List Int} (h : l ≠ []) : ∃ a, atI l (-(1 : Int)) = some a := by
  have hl : 0 < l.length := List.length_pos_iff.mpr h
  refine ⟨l[l.length - 1], ?_⟩
  unfold atI ixN
  rw [if_neg (by omega), if_pos (by omega)]
  show l[(-(1 : Int) + (l.length : Int)).toNat]? = _
  rw [show (-(1 : Int) + (l.length : Int)).toNat = l.length - 1 by omega]
  exact List.getElem?_eq_getElem (by omega)
structure Wn (P : Int → Bool) (base : Int) (lo hi : Bool) : Prop where
  l1 : lo = true → ∀ v, P v = true → base - 8 ≤ v
  l0 : lo = false → ∀ v, v < base - 8 → P v = true
  h1 : hi = true → ∀ v, P v = true → v ≤ base + 8
  h0 : hi = false → ∀ v, base + 8 < v → P v = true
def Win (base : Int) : List Int := rng (base - 22) 45
theorem wn_empty {P : Int → Bool} {base : Int} {lo hi : Bool} (W : Wn P base lo hi) (h : (Win base).filter P = []) (v : Int) : P v = false := by
  have hin : ∀ u, base - 22 ≤ u → u < base + 23 → P u = false := fun u h1 h2 => by
    cases q : P u with
    | false => rfl
    | true =>
      have : u ∈ (Win base).filter P := List.mem_filter.mpr ⟨mem_rng.mpr ⟨by omega, by omega⟩, q⟩
      rw [h] at this; cases this
  cases q : P v with
  | false => rfl
  | true =>
    by_cases c1 : v < base - 22
    · cases lo with
      | true => have := W.l1 rfl v q; omega
      | false =>
        have h2 := W.l0 rfl (base - 20) (by omega)
        rw [hin (base - 20) (by omega) (by omega)] at h2; cases h2
    · by_cases c2 : base + 22 < v
      · cases hi with
        | true => have := W.h1 rfl v q; omega
        | false =>
          have h2 := W.h0 rfl (base + 20) (by omega)
          rw [hin (base + 20) (by omega) (by omega)] at h2; cases h2
      · rw [hin v (by omega) (by omega)] at q; cases q
theorem wn_form {P : Int → Bool} {base a b : Int} {lo hi : Bool} (W : Wn P base lo hi) (ha : atI ((Win base).filter P) (0 : Int) = some a) (hb : atI ((Win base).filter P) (-(1 : Int)) = some b) :
    Fm (if lo = true then some a else none) (if hi = true then some b else none) (((Win base).filter fun v => !P v).filter fun v => decide (a < v) && decide (v < b)) ∧
    ∀ v, Mem (if lo = true then some a else none) (if hi = true then some b else none) (((Win base).filter fun v => !P v).filter fun v => decide (a < v) && decide (v < b)) v ↔ P v = true := by
  have hasc : ((Win base).filter P).Pairwise (· < ·) := (rng_asc _ _).sublist List.filter_sublist
  obtain ⟨a1, a2⟩ := first_ok hasc ha
  obtain ⟨b1, b2⟩ := last_ok hasc hb
  have hin : ∀ u, base - 22 ≤ u → u < base + 23 → P u = true → u ∈ (Win base).filter P := fun u h1 h2 q => List.mem_filter.mpr ⟨mem_rng.mpr ⟨by omega, by omega⟩, q⟩
  have ha3 := List.mem_filter.mp a1
  have hb3 := List.mem_filter.mp b1
  have ha4 := mem_rng.mp ha3.1
  have hb4 := mem_rng.mp hb3.1
  have hw : ∀ v, v ∈ ((Win base).filter fun v => !P v).filter (fun v => decide (a < v) && decide (v < b)) ↔ a < v ∧ v < b ∧ P v = false := fun v => by
    rw [List.mem_filter, List.mem_filter, Bool.and_eq_true, decide_eq_true_eq, decide_eq_true_eq, Bool.not_eq_true']
    constructor
    · rintro ⟨⟨_, p⟩, q, r⟩; exact ⟨q, r, p⟩
    · rintro ⟨q, r, p⟩; exact ⟨⟨mem_rng.mpr ⟨by omega, by omega⟩, p⟩, q, r⟩
  have alow : lo = false → a = base - 22 := fun e => by
    have := a2 (base - 22) (hin _ (by omega) (by omega) (W.l0 e _ (by omega)))
    omega
  have bhigh : hi = false → b = base + 22 := fun e => by
    have := b2 (base + 22) (hin _ (by omega) (by omega) (W.h0 e _ (by omega)))
    omega
  have hle : a ≤ b := a2 b b1
  constructor
  · refine .inl ⟨((rng_asc _ _).sublist List.filter_sublist).sublist List.filter_sublist, fun x hx => ?_, fun x y e1 e2 => ?_⟩
    · obtain ⟨q, r, _⟩ := (hw x).mp hx
      refine ⟨fun z e => ?_, fun z e => ?_⟩
      · cases lo with
        | true => cases e; exact q
        | false => cases e
      · cases hi with
        | true => cases e; exact r
        | false => cases e
    · cases lo with
      | false => cases e1
      | true => cases hi with
        | false => cases e2
        | true => cases e1; cases e2; exact hle
  · intro v
    constructor
    · rintro ⟨m1, m2, m3⟩
      cases q : P v with
      | true => rfl
      | false =>
        exfalso
        have hnw : ¬ (a < v ∧ v < b) := fun z => m3 ((hw v).mpr ⟨z.1, z.2, q⟩)
        have hva : a ≠ v := fun z => by rw [← z, ha3.2] at q; cases q
        have hvb : b ≠ v := fun z => by rw [← z, hb3.2] at q; cases q
        have c1 : v < a → False := fun z => by
          cases lo with
          | true => have := lo_some.mp (show LoOk (some a) v from m1); omega
          | false =>
            have := alow rfl
            rw [W.l0 rfl v (by omega)] at q; cases q
        have c2 : b < v → False := fun z => by
          cases hi with
          | true => have := hi_some.mp (show HiOk (some b) v from m2); omega
          | false =>
            have := bhigh rfl
            rw [W.h0 rfl v (by omega)] at q; cases q
        have d1 : ¬ v < a := c1
        have d2 : ¬ b < v := c2
        exact hnw ⟨by omega, by omega⟩
    · intro q
      refine ⟨fun x e => ?_, fun x e => ?_, fun z => by rw [((hw v).mp z).2.2] at q; cases q⟩
      · cases lo with
        | false => cases e
        | true =>
          cases e
          have := W.l1 rfl v q
          by_cases c : v < base + 23
          · exact a2 v (hin v (by omega) c q)
          · omega
      · cases hi with
        | false => cases e
        | true =>
          cases e
          have := W.h1 rfl v q
          by_cases c : base - 22 ≤ v
          · exact b2 v (hin v c (by omega) q)
          · omega
/-! ### the parts that the law draws -/
abbrev Pt := Option Int × Option Int × List Int
def Near (base : Int) (p : Pt) : Prop := (∀ a, p.1 = some a → base - 8 ≤ a ∧ a ≤ base + 8) ∧ (∀ b, p.2.1 = some b → base - 8 ≤ b ∧ b ≤ base + 8) ∧ ∀ x ∈ p.2.2, base - 8 ≤ x ∧ x ≤ base + 8
def mp (p : Pt) (v : Int) : Bool := mb p.1 p.2.1 p.2.2 v
theorem wn_parts {base : Int} {ps : List Pt} (h : ∀ p ∈ ps, Near base p) : Wn (fun v => ps.all fun p => mp p v) base (ps.any fun p => p.1.isSome) (ps.any fun p => p.2.1.isSome) where
  l1 e v q := by
    obtain ⟨p, hp, e⟩ := List.any_eq_true.mp e
    have hm := (mb_iff _ _ _ _).mp (List.all_eq_true.mp q p hp)
    cases ep : p.1 with
    | none => rw [ep] at e; cases e
    | some a =>
      have := hm.1 a ep
      have := (h p hp).1 a ep
      omega
  l0 e v q := by
    refine List.all_eq_true.mpr fun p hp => (mb_iff _ _ _ _).mpr ⟨fun a ea => ?_, fun b eb => ?_, fun z => ?_⟩
    · have := List.any_eq_false.mp e p hp
      rw [ea] at this; exact absurd rfl this
    · have := (h p hp).2.1 b eb; omega
    · have := (h p hp).2.2 v z; omega
  h1 e v q := by
    obtain ⟨p, hp, e⟩ := List.any_eq_true.mp e
    have hm := (mb_iff _ _ _ _).mp (List.all_eq_true.mp q p hp)
    cases ep : p.2.1 with
    | none => rw [ep] at e; cases e
    | some a =>
      have := hm.2.1 a ep
      have := (h p hp).2.1 a ep
      omega
  h0 e v q := by
    refine List.all_eq_true.mpr fun p hp => (mb_iff _ _ _ _).mpr ⟨fun a ea => ?_, fun b eb => ?_, fun z => ?_⟩
    · have := (h p hp).1 a ea; omega
    · have := List.any_eq_false.mp e p hp
      rw [eb] at this; exact absurd rfl this
    · have := (h p hp).2.2 v z; omega
theorem end_ok {n base : Int} {st : Dr} (h : I n st) (hn : n ≤ 60000) : ∃ o st', m_l_end st base = some (o, st') ∧ (∀ a, o = some a → base - 6 ≤ a ∧ a ≤ base + 6) ∧ I (n + 2) st' := by
  unfold m_l_end
  obtain ⟨d, s, e, p, q, i⟩ := draw_ok h (by omega) (show (0 : Int) < 4 by decide) (by decide)
  simp only [e, bindO_s, letO_s]
  by_cases hd : d = 0
  · rw [decide_eq_true hd, iteO_T]
    exact ⟨_, _, rfl, (fun _ z => nomatch z), i.1, i.2.1, by have := i.2.2; omega⟩
  · rw [decide_eq_false hd, iteO_F]
    obtain ⟨d2, s2, e2, p2, q2, i2⟩ := draw_ok i (by omega) (show (0 : Int) < 13 by decide) (by decide)
    simp only [e2, bindO_s]
    refine ⟨_, _, rfl, fun a ea => ?_, i2.1, i2.2.1, by have := i2.2.2; omega⟩
    cases ea
    omega
theorem base_ok {n : Int} {st : Dr} (h : I n st) (hn : n ≤ 60000) : ∃ b st', m_l_base st = some (b, st') ∧ I (n + 1) st' := by
  unfold m_l_base
  obtain ⟨d, s, e, p, q, i⟩ := draw_ok h (by omega) (show (0 : Int) < 5 by decide) (by decide)
  simp only [e, bindO_s, letO_s]
  by_cases hd : d < 3
  · rw [decide_eq_true hd, iteO_T]; exact ⟨_, _, rfl, i⟩
  · rw [decide_eq_false hd, iteO_F]
    obtain ⟨x, hx⟩ := at_some (l := [((10 : Int) ^ ((40 : Int)).toNat), (-((10 : Int) ^ ((40 : Int)).toNat))]) (i := d - 3) (by omega) (by show d - 3 < 2; omega)
    rw [hx]
    exact ⟨_, _, rfl, i⟩
theorem base_ok2 {n : Int} {st : Dr} (h : I n st) (hn : n ≤ 60000) : ∃ b st', m_l_base st = some (b, st') ∧ (-(10 ^ 40) ≤ b ∧ b ≤ 10 ^ 40) ∧ I (n + 1) st' := by
  unfold m_l_base
  obtain ⟨d, s, e, p, q, i⟩ := draw_ok h (by omega) (show (0 : Int) < 5 by decide) (by decide)
  simp only [e, bindO_s, letO_s]
  by_cases hd : d < 3
  · rw [decide_eq_true hd, iteO_T]; exact ⟨_, _, rfl, ⟨by decide, by decide⟩, i⟩
  · rw [decide_eq_false hd, iteO_F]
    obtain ⟨x, hx⟩ := at_some (l := [((10 : Int) ^ ((40 : Int)).toNat), (-((10 : Int) ^ ((40 : Int)).toNat))]) (i := d - 3) (by omega) (by show d - 3 < 2; omega)
    have hm := at_mem hx
    rw [hx]
    refine ⟨_, _, rfl, ?_, i⟩
    simp only [List.mem_cons, List.mem_nil_iff, or_false] at hm
    rcases hm with rfl | rfl
    · exact ⟨by decide, by decide⟩
    · exact ⟨by decide, by decide⟩
/-- where the ends and the numbers left out lie -/
theorem wn_bound {P : Int → Bool} {base : Int} {lo hi : Bool} (W : Wn P base lo hi) {l h : Option Int} {w : List Int} (f : Fm l h w) (m : ∀ v, Mem l h w v ↔ P v = true) : (l = some 1 ∧ h = some 0 ∧ w = []) ∨
    ((∀ x, l = some x → base - 9 ≤ x ∧ x ≤ base + 9) ∧ (∀ x, h = some x → base - 9 ≤ x ∧ x ≤ base + 9) ∧ ∀ x ∈ w, base - 9 ≤ x ∧ x ≤ base + 9) := by
  rcases f with f | f
  · right
    have hlo : ∀ x, l = some x → lo = true := fun x e => by
      cases lo with
      | true => rfl
      | false =>
        have := lo_some.mp (e ▸ ((m (min (x - 1) (base - 9))).mpr (W.l0 rfl _ (by omega))).1)
        omega
    have hhi : ∀ x, h = some x → hi = true := fun x e => by
      cases hi with
      | true => rfl
      | false =>
        have := hi_some.mp (e ▸ ((m (max (x + 1) (base + 9))).mpr (W.h0 rfl _ (by omega))).2.1)
        omega
    have hno : l = none → lo = false := fun e => by
      subst e
      cases lo with
      | false => rfl
      | true =>
        obtain ⟨v, h1, h2⟩ := far_low (h := h) (w := w) (base - 9)
        have := W.l1 rfl v ((m v).mp h2)
        omega
    have hnh : h = none → hi = false := fun e => by
      subst e
      cases hi with
      | false => rfl
      | true =>
        obtain ⟨v, h1, h2⟩ := far_high (l := l) (w := w) (base + 9)
        have := W.h1 rfl v ((m v).mp h2)
        omega
    have b1 : ∀ x, l = some x → base - 9 ≤ x ∧ x ≤ base + 9 := fun x e => by
      have hx : P x = true := (m x).mp (by subst e; exact low_mem f)
      refine ⟨by have := W.l1 (hlo x e) x hx; omega, ?_⟩
      cases hi with
      | true => have := W.h1 rfl x hx; omega
      | false =>
        have := lo_some.mp (e ▸ ((m (base + 9)).mpr (W.h0 rfl _ (by omega))).1)
        omega
    have b2 : ∀ x, h = some x → base - 9 ≤ x ∧ x ≤ base + 9 := fun x e => by
      have hx : P x = true := (m x).mp (by subst e; exact high_mem f)
      refine ⟨?_, by have := W.h1 (hhi x e) x hx; omega⟩
      cases lo with
      | true => have := W.l1 rfl x hx; omega
      | false =>
        have := hi_some.mp (e ▸ ((m (base - 9)).mpr (W.l0 rfl _ (by omega))).2.1)
        omega
    refine ⟨b1, b2, fun x hx => ?_⟩
    have q := f.2.1 x hx
    have nx : ¬ P x = true := fun z => ((m x).mpr z).2.2 hx
    constructor
    · cases e : l with
      | some a => have := q.1 a e; have := b1 a e; omega
      | none =>
        by_cases c : x < base - 8
        · exact absurd (W.l0 (hno e) x c) nx
        · omega
    · cases e : h with
      | some a => have := q.2 a e; have := b2 a e; omega
      | none =>
        by_cases c : base + 8 < x
        · exact absurd (W.h0 (hnh e) x c) nx
        · omega
  · exact .inl f
theorem parts_ok {n base : Int} {st : Dr} (h : I n st) (hn : n ≤ 50000) : ∃ p st', m_l_parts st base = some (p, st') ∧ (Near base p ∧ p.2.2.length ≤ 8) ∧ I (n + 20) st' := by
  unfold m_l_parts
  obtain ⟨o1, s1, e1, b1, i1⟩ := end_ok (base := base) h (by omega)
  obtain ⟨o2, s2, e2, b2, i2⟩ := end_ok (base := base) i1 (by omega)
  obtain ⟨d, s3, e3, p3, q3, i3⟩ := draw_ok i2 (by omega) (show (0 : Int) < 9 by decide) (by decide)
  simp only [e1, e2, e3, bindO_s, letO_s, rng_some p3 (by omega)]
  obtain ⟨ys, s4, e4, hl, hz, i4⟩ := drawn_ok (f := m_l_parts_c1 base) (c := 1) 60000 (fun y => base - 8 ≤ y ∧ y ≤ base + 8) (by decide) (fun x n st h hn => by
    obtain ⟨d, s, e, p, q, i⟩ := draw_ok h (by omega) (show (0 : Int) < 17 by decide) (by decide)
    unfold m_l_parts_c1
    simp only [e, bindO_s]
    exact ⟨_, _, rfl, ⟨by omega, by omega⟩, i⟩) (rng 0 d.toNat) _ s3 i3 (by rw [rng_len]; omega)
  rw [rng_len] at hl i4
  simp only [e4, bindO_s]
  exact ⟨_, _, rfl, ⟨⟨fun a ea => by have := b1 a ea; omega, fun a ea => by have := b2 a ea; omega, hz⟩, by show ys.length ≤ 8; omega⟩, i4.1, i4.2.1, by have := i4.2.2; omega⟩
end Law

set_option maxHeartbeats 4000000
/-! # the mathematics of k06 -/
namespace Law
local instance : G.TabL := ⟨[]⟩
open PySem L2 G
theorem len_sub {α : Type} [DecidableEq α] : ∀ {l m : List α}, l.Nodup → (∀ x ∈ l, x ∈ m) → l.length ≤ m.length
  | [], m, _, _ => Nat.zero_le _
  | x :: l, m, h, k => by
    have hx := k x List.mem_cons_self
    have hn := List.nodup_cons.mp h
    have ih := len_sub (l := l) (m := m.erase x) hn.2 fun y hy => (List.mem_erase_of_ne (fun e => hn.1 (by rw [← e]; exact hy))).mpr (k y (List.mem_cons_of_mem _ hy))
    rw [List.length_erase_of_mem hx] at ih
    have := List.length_pos_of_mem hx
    rw [List.length_cons]; omega
theorem len_same {α : Type} [DecidableEq α] {l m : List α} (h1 : l.Nodup) (h2 : m.Nodup) (h : ∀ x, x ∈ l ↔ x ∈ m) : l.length = m.length :=
  Nat.le_antisymm (len_sub h1 fun x hx => (h x).mp hx) (len_sub h2 fun x hx => (h x).mpr hx)
theorem asc_nodup {l : List Int} (h : l.Pairwise (· < ·)) : l.Nodup := h.imp fun q => by omega
theorem len_parts (p : Int → Bool) : ∀ l : List Int, (l.filter p).length + (l.filter fun v => !p v).length = l.length
  | [] => rfl
  | x :: xs => by
    have ih := len_parts p xs
    cases q : p x with
    | true => rw [List.filter_cons_of_pos q, List.filter_cons_of_neg (by rw [q]; decide), List.length_cons, List.length_cons]; omega
    | false => rw [List.filter_cons_of_neg (by rw [q]; decide), List.filter_cons_of_pos (by rw [q]; rfl), List.length_cons, List.length_cons]; omega
/-! ### what is barred -/
theorem put_keys (d : List (Int × Bool)) (x : Int) : (putM d x true).map Prod.fst = if x ∈ d.map Prod.fst then d.map Prod.fst else d.map Prod.fst ++ [x] := by
  unfold putM
  by_cases h : x ∈ d.map Prod.fst
  · rw [if_pos h]
    have : (d.any fun e => decide (e.1 = x)) = true := by
      obtain ⟨e, he, rfl⟩ := List.mem_map.mp h
      exact List.any_eq_true.mpr ⟨e, he, decide_eq_true rfl⟩
    rw [if_pos this, List.map_map]
    refine List.map_congr_left fun e he => ?_
    show (if e.1 = x then (e.1, true) else e).1 = e.1
    split <;> rfl
  · rw [if_neg h]
    have : ¬ (d.any fun e => decide (e.1 = x)) = true := fun z => by
      obtain ⟨e, he, q⟩ := List.any_eq_true.mp z
      exact h (List.mem_map.mpr ⟨e, he, of_decide_eq_true q⟩)
    rw [if_neg this, List.map_append]; rfl
theorem dict_b : ∀ (b : List Int) (d : List (Int × Bool)), (d.map Prod.fst).Nodup → ∃ d', compD m_Region_members_c1 b d = some d' ∧ (d'.map Prod.fst).Nodup ∧ (∀ v, v ∈ d'.map Prod.fst ↔ v ∈ d.map Prod.fst ∨ v ∈ b) ∧ d'.length ≤ d.length + b.length
  | [], d, h => ⟨d, rfl, h, fun v => by simp, by simp⟩
  | x :: b, d, h => by
    have e : compD m_Region_members_c1 (x :: b) d = compD m_Region_members_c1 b (putM d x true) := rfl
    have hk := put_keys d x
    have hn : ((putM d x true).map Prod.fst).Nodup := by
      rw [hk]
      split
      · exact h
      · rename_i hx
        rw [List.nodup_append]
        exact ⟨h, List.pairwise_singleton _ _, fun a ha c hc => by rw [List.mem_singleton.mp hc]; exact fun z => hx (by rw [← z]; exact ha)⟩
    have hl : (putM d x true).length ≤ d.length + 1 := by
      have := congrArg List.length hk
      rw [List.length_map] at this
      rw [this]
      split <;> simp
    obtain ⟨d', e1, e2, e3, e4⟩ := dict_b b (putM d x true) hn
    refine ⟨d', by rw [e]; exact e1, e2, fun v => ?_, by rw [List.length_cons]; omega⟩
    rw [e3, hk, List.mem_cons]
    by_cases hx : x ∈ d.map Prod.fst
    · rw [if_pos hx]
      constructor
      · rintro (q | q)
        · exact .inl q
        · exact .inr (.inr q)
      · rintro (q | rfl | q)
        · exact .inl q
        · exact .inl hx
        · exact .inr q
    · rw [if_neg hx, List.mem_append, List.mem_singleton]
      constructor
      · rintro ((q | q) | q)
        · exact .inl q
        · exact .inr (.inl q)
        · exact .inr (.inr q)
      · rintro (q | q | q)
        · exact .inl (.inl q)
        · exact .inl (.inr q)
        · exact .inr q
theorem get_in (d : List (Int × Bool)) (v : Int) : (getM d v).isSome = decide (v ∈ d.map Prod.fst) := by
  unfold getM
  rw [Option.isSome_map, Bool.eq_iff_iff, List.find?_isSome, decide_eq_true_eq, List.mem_map]
  constructor
  · rintro ⟨e, he, q⟩; exact ⟨e, he, of_decide_eq_true q⟩
  · rintro ⟨e, he, q⟩; exact ⟨e, he, decide_eq_true q⟩
/-! ### the walk -/
def gl (good : Int → Bool) (n0 step : Int) (k : Nat) : List Int := ((List.range k).map fun (i : Nat) => n0 + step * (i : Int)).filter good
theorem gl_succ (good : Int → Bool) (n0 step : Int) (k : Nat) : gl good n0 step (k + 1) = if good (n0 + step * (k : Int)) = true then gl good n0 step k ++ [n0 + step * (k : Int)] else gl good n0 step k := by
  unfold gl
  rw [List.range_succ, List.map_append, List.filter_append]
  cases h : good (n0 + step * (k : Int)) with
  | true => rw [if_pos rfl]; congr 1; simp [h]
  | false => rw [if_neg (by decide)]; simp [h]
theorem gl_len (good : Int → Bool) (n0 step : Int) (k : Nat) : (gl good n0 step k).length ≤ k := by
  unfold gl
  refine Nat.le_trans (List.length_filter_le _ _) ?_
  rw [List.length_map, List.length_range]; exact Nat.le_refl _
theorem terms_nodup {n0 step : Int} (hs : step = 1 ∨ step = -1) (k : Nat) : ((List.range k).map fun (i : Nat) => n0 + step * (i : Int)).Nodup := by
  rw [List.Nodup, List.pairwise_map]
  refine List.nodup_range.imp fun {a b} h e => h ?_
  rcases hs with rfl | rfl <;> omega
theorem gl_nodup (good : Int → Bool) {n0 step : Int} (hs : step = 1 ∨ step = -1) (k : Nat) : (gl good n0 step k).Nodup := (terms_nodup hs k).filter _
theorem gl_good {good : Int → Bool} {n0 step : Int} {k : Nat} {x : Int} (h : x ∈ gl good n0 step k) : good x = true := (List.mem_filter.mp h).2
theorem walk {ρ : Type} (good : Int → Bool) (n0 step : Int) (cn : Nat) (c : Int × List Int → Option Bool) (f : Int × List Int → Option (Step ρ (Int × List Int))) (hc : ∀ s, c s = some (decide ((s.2.length : Int) < (cn : Int))))
    (hf : ∀ (x : Int) (l : List Int), l.length < 1000 → f (x, l) = some (.nx (x + step, if good x = true then l ++ [x] else l))) (M : Nat) (hM : M ≤ 900) (hg : cn ≤ (gl good n0 step M).length) :
    ∀ (fuel k : Nat), M - k < fuel → k ≤ M → (gl good n0 step k).length ≤ cn → ∃ k' : Nat, whL c f fuel (n0 + step * (k : Int), gl good n0 step k) = some (.nx (n0 + step * (k' : Int), gl good n0 step k')) ∧ (gl good n0 step k').length = cn
  | 0, k, h, _, _ => by omega
  | fuel + 1, k, h, hk, hl => by
    by_cases e : (gl good n0 step k).length = cn
    · exact ⟨k, whL_end (by rw [hc (n0 + step * (k : Int), gl good n0 step k), decide_eq_false (by show ¬ ((gl good n0 step k).length : Int) < _; omega)]), e⟩
    · have hkM : k ≠ M := fun z => by rw [z] at e hl; omega
      have hlen := gl_len good n0 step k
      have st : f (n0 + step * (k : Int), gl good n0 step k) = some (.nx (n0 + step * ((k + 1 : Nat) : Int), gl good n0 step (k + 1))) := by
        rw [hf _ _ (by omega), gl_succ, show n0 + step * ((k + 1 : Nat) : Int) = n0 + step * (k : Int) + step by rw [Int.natCast_add, Int.mul_add]; omega]
      rw [whL_step (by rw [hc (n0 + step * (k : Int), gl good n0 step k), decide_eq_true (by show ((gl good n0 step k).length : Int) < _; omega)]) st]
      refine walk good n0 step cn c f hc hf M hM hg fuel (k + 1) (by omega) (by omega) ?_
      rw [gl_succ]
      split
      · rw [List.length_append, List.length_singleton]; omega
      · exact hl
/-! ### members -/
def startOf (l h : Option Int) : Int × Int := match l, h with
  | some a, _ => (a, 1)
  | none, some c => (c, -1)
  | none, none => (0, 1)
theorem start_mk (l h : Option Int) (w : List Int) : m_Region__start (mkR l h w) = some (startOf l h) := by
  cases l with
  | some a => rfl
  | none => cases h <;> rfl
def goodB (l h : Option Int) (w ks : List Int) (v : Int) : Bool := mb l h w v && !decide (v ∈ ks)
theorem step_mk (l h : Option Int) (w : List Int) (d : List (Int × Bool)) (u : Int × Int) (x : Int) (ls : List Int) (hl : ls.length < 1000) : m_Region_members_b1 (mkR l h w) d u (x, ls) = some (.nx (x + u.2, if goodB l h w (d.map Prod.fst) x = true then ls ++ [x] else ls)) := by
  unfold m_Region_members_b1
  dsimp only
  rw [contains_ok, bindO_s, letO_s, get_in]
  show bindO (iteO (goodB l h w (d.map Prod.fst) x) _ _) _ = _
  cases hg : goodB l h w (d.map Prod.fst) x with
  | true =>
    rw [iteO_T, show pyApp ls x = some (ls ++ [x]) from if_pos (by omega)]
    rfl
  | false => rw [iteO_F]; rfl
/-- how many there are, where both ends are told -/
theorem size_lost {a c : Int} {w ks : List Int} (f : Fm (some a) (some c) w) (hk : ks.Nodup) : c - a + 1 - (w.length : Int) - ((ks.filter (mb (some a) (some c) w)).length : Int) = (((rng a (c - a + 1).toNat).filter (goodB (some a) (some c) w ks)).length : Int) := by
  have h0 : 0 ≤ c - a + 1 := by
    rcases f with f | ⟨e1, e2, _⟩
    · have := f.2.2 a c rfl rfl; omega
    · cases e1; cases e2; decide
  have hw : ∀ x ∈ w, a < x ∧ x < c := fun x hx => by
    rcases f with f | ⟨_, _, e⟩
    · exact ⟨(f.2.1 x hx).1 a rfl, (f.2.1 x hx).2 c rfl⟩
    · rw [e] at hx; cases hx
  have hT : (rng a (c - a + 1).toNat).Nodup := asc_nodup (rng_asc _ _)
  have mT : ∀ v, v ∈ rng a (c - a + 1).toNat ↔ a ≤ v ∧ v ≤ c := fun v => by rw [mem_rng]; omega
  have hm : ∀ v, mb (some a) (some c) w v = true ↔ a ≤ v ∧ v ≤ c ∧ v ∉ w := fun v => by rw [mb_iff]; unfold Mem; rw [lo_some, hi_some]
  have e1 := len_parts (mb (some a) (some c) w) (rng a (c - a + 1).toNat)
  rw [rng_len] at e1
  have e2 : ((rng a (c - a + 1).toNat).filter fun v => !mb (some a) (some c) w v).length = w.length := len_same (hT.filter _) (asc_nodup (fm_asc f)) fun x => by
    rw [List.mem_filter, mT, Bool.not_eq_true']
    constructor
    · rintro ⟨⟨q1, q2⟩, q3⟩
      by_cases hx : x ∈ w
      · exact hx
      · rw [(hm x).mpr ⟨q1, q2, hx⟩] at q3; cases q3
    · intro hx
      have := hw x hx
      refine ⟨⟨by omega, by omega⟩, ?_⟩
      cases q : mb (some a) (some c) w x with
      | false => rfl
      | true => exact absurd hx ((hm x).mp q).2.2
  have e3 := len_parts (fun v => decide (v ∈ ks)) ((rng a (c - a + 1).toNat).filter (mb (some a) (some c) w))
  have e4 : (((rng a (c - a + 1).toNat).filter (mb (some a) (some c) w)).filter fun v => decide (v ∈ ks)).length = (ks.filter (mb (some a) (some c) w)).length := len_same ((hT.filter _).filter _) (hk.filter _) fun x => by
    rw [List.mem_filter, List.mem_filter, List.mem_filter, decide_eq_true_eq, mT]
    constructor
    · rintro ⟨⟨_, q⟩, r⟩; exact ⟨r, q⟩
    · rintro ⟨r, q⟩; have := (hm x).mp q; exact ⟨⟨⟨this.1, this.2.1⟩, q⟩, r⟩
  have e5 : (((rng a (c - a + 1).toNat).filter (mb (some a) (some c) w)).filter fun v => !decide (v ∈ ks)) = (rng a (c - a + 1).toNat).filter (goodB (some a) (some c) w ks) := by
    rw [List.filter_filter]
    refine List.filter_congr fun x _ => ?_
    unfold goodB
    exact Bool.and_comm _ _
  rw [e5] at e3
  omega
theorem enough {good : Int → Bool} {n0 step : Int} (hs : step = 1 ∨ step = -1) (cn : Nat) (bad : List Int) (h : ∀ i : Nat, good (n0 + step * (i : Int)) = false → n0 + step * (i : Int) ∈ bad) : cn ≤ (gl good n0 step (cn + bad.length)).length := by
  have e := len_parts good ((List.range (cn + bad.length)).map fun (i : Nat) => n0 + step * (i : Int))
  rw [List.length_map, List.length_range] at e
  have e2 : (((List.range (cn + bad.length)).map fun (i : Nat) => n0 + step * (i : Int)).filter fun v => !good v).length ≤ bad.length := len_sub ((terms_nodup hs _).filter _) fun x hx => by
    obtain ⟨h1, h2⟩ := List.mem_filter.mp hx
    obtain ⟨i, _, rfl⟩ := List.mem_map.mp h1
    exact h i (by rw [Bool.not_eq_true'] at h2; exact h2)
  unfold gl
  omega
/-- what the call answers -/
inductive Ans (l h : Option Int) (w b : List Int) (cn : Nat) : Option (Res Int (List Int)) → Prop
  | few {a c : Int} (e1 : l = some a) (e2 : h = some c) (k : ((rng a (c - a + 1).toNat).filter fun v => mb l h w v && !decide (v ∈ b)).length < cn) : Ans l h w b cn (some (.er (cn : Int)))
  | told (ls : List Int) (e : ls.length = cn) (asc : ls.Pairwise (· < ·)) (k : ∀ x ∈ ls, Mem l h w x ∧ x ∉ b) (n : ∀ a c, l = some a → h = some c → cn ≤ ((rng a (c - a + 1).toNat).filter fun v => mb l h w v && !decide (v ∈ b)).length) : Ans l h w b cn (some (.ok ls))
theorem good_cong {l h : Option Int} {w ks b : List Int} (hm : ∀ v, v ∈ ks ↔ v ∈ b) (v : Int) : goodB l h w ks v = (mb l h w v && !decide (v ∈ b)) := by
  unfold goodB
  congr 2
  rw [Bool.eq_iff_iff, decide_eq_true_eq, decide_eq_true_eq]; exact hm v
theorem members_ok {l h : Option Int} {w : List Int} (f : Fm l h w) (b : List Int) (hb : b.length ≤ 20) (hw : w.length ≤ 20) (cn : Nat) (hcn : cn ≤ 100) (hfin : ∀ a c, l = some a → h = some c → c - a ≤ 100) : Ans l h w b cn (m_Region_members (mkR l h w) (cn : Int) b) := by
  obtain ⟨d, e1, e2, e3, e4⟩ := dict_b b [] List.nodup_nil
  have hmem : ∀ v, v ∈ d.map Prod.fst ↔ v ∈ b := fun v => by rw [e3]; simp
  simp only [List.length_nil, Nat.zero_add] at e4
  have hkl : (d.map Prod.fst).length ≤ 20 := by rw [List.length_map]; omega
  have ek : pyKeysD d = some (d.map Prod.fst) := if_pos (by omega)
  have ec : compL (m_Region_members_c2 (mkR l h w)) (d.map Prod.fst) = some (((d.map Prod.fst).filter (mb l h w)).map id) := compL_fil fun x _ => by
    unfold m_Region_members_c2
    rw [contains_ok, bindO_s, letO_s]
    cases mb l h w x <;> rfl
  unfold m_Region_members
  rw [e1, bindO_s, letO_s, ek, bindO_s, ec, List.map_id, bindO_s, letO_s, letO_s]
  -- the walk, where there are enough
  have go : ∀ M : Nat, M ≤ 900 → cn ≤ (gl (goodB l h w (d.map Prod.fst)) (startOf l h).1 (startOf l h).2 M).length → (∀ a c, l = some a → h = some c → cn ≤ ((rng a (c - a + 1).toNat).filter fun v => mb l h w v && !decide (v ∈ b)).length) →
      Ans l h w b cn (bindO (m_Region__start (mkR l h w)) fun v14 => letO (v14) fun u15 => letO ([]) fun found16 => bindO (whL (m_Region_members_w1 (cn : Int)) (m_Region_members_b1 (mkR l h w) d u15) 1000000 (u15.1, found16)) fun R23 => stepO R23 fun e24 => some (.ok (isortI e24.2))) := fun M hM hg hn => by
    have hs : (startOf l h).2 = 1 ∨ (startOf l h).2 = -1 := by
      cases l with
      | some a => exact .inl rfl
      | none => cases h with
        | some c => exact .inr rfl
        | none => exact .inl rfl
    obtain ⟨k', ew, el⟩ := walk (goodB l h w (d.map Prod.fst)) (startOf l h).1 (startOf l h).2 cn (m_Region_members_w1 (cn : Int)) (m_Region_members_b1 (mkR l h w) d (startOf l h)) (fun s => rfl) (fun x ls hl => step_mk l h w d _ x ls hl) M hM hg 1000000 0 (by omega) (Nat.zero_le _) (Nat.zero_le _)
    have e0 : (startOf l h).1 + (startOf l h).2 * ((0 : Nat) : Int) = (startOf l h).1 := by simp
    have g0 : gl (goodB l h w (d.map Prod.fst)) (startOf l h).1 (startOf l h).2 0 = [] := rfl
    rw [e0, g0] at ew
    rw [start_mk, bindO_s, letO_s, letO_s, ew, bindO_s]
    refine .told _ ?_ ?_ ?_ hn
    · rw [(isortI_perm _).length_eq]; exact el
    · refine ((isortI_asc _).and ((isortI_perm _).nodup_iff.mpr (gl_nodup _ hs k'))).imp fun {a b} q => ?_
      have := q.1
      have := q.2
      omega
    · intro x hx
      have hx := gl_good ((isortI_perm _).mem_iff.mp hx)
      rw [good_cong hmem, Bool.and_eq_true, mb_iff, Bool.not_eq_true', decide_eq_false_iff_not] at hx
      exact hx
  cases l with
  | some a =>
    cases h with
    | some c =>
      -- both ends
      have hz := size_lost f e2
      have hF : ((rng a (c - a + 1).toNat).filter (goodB (some a) (some c) w (d.map Prod.fst))) = (rng a (c - a + 1).toNat).filter fun v => mb (some a) (some c) w v && !decide (v ∈ b) := List.filter_congr fun v _ => good_cong hmem v
      have hfc := hfin a c rfl rfl
      show Ans _ _ _ _ _ (bindO (iteO true (bindO (some (c - a + 1 - (w.length : Int))) fun g10 => some (decide ((g10 - (((d.map Prod.fst).filter (mb (some a) (some c) w)).length : Int)) < (cn : Int)))) (some false)) _)
      rw [iteO_T, bindO_s, bindO_s, letO_s, hz, hF]
      by_cases hlt : ((rng a (c - a + 1).toNat).filter fun v => mb (some a) (some c) w v && !decide (v ∈ b)).length < cn
      · rw [decide_eq_true (by omega), iteO_T]
        exact .few rfl rfl hlt
      · rw [decide_eq_false (by omega), iteO_F]
        refine go (c - a + 1).toNat (by omega) ?_ fun a' c' e e' => by cases e; cases e'; omega
        have : gl (goodB (some a) (some c) w (d.map Prod.fst)) (startOf (some a) (some c)).1 (startOf (some a) (some c)).2 (c - a + 1).toNat = (rng a (c - a + 1).toNat).filter (goodB (some a) (some c) w (d.map Prod.fst)) := by
          unfold gl rng
          congr 1
          refine List.map_congr_left fun i _ => ?_
          show a + 1 * (i : Int) = a + (i : Int)
          omega
        rw [this, hF]; omega
    | none =>
      show Ans _ _ _ _ _ (bindO (iteO false _ (some false)) _)
      rw [iteO_F, bindO_s, letO_s, iteO_F]
      refine go (cn + (w ++ d.map Prod.fst).length) (by rw [List.length_append]; omega) (enough (.inl rfl) cn _ fun i hi => ?_) fun a' c' e e' => nomatch e'
      rw [List.mem_append]
      by_cases q1 : a + 1 * (i : Int) ∈ w
      · exact .inl q1
      · by_cases q2 : a + 1 * (i : Int) ∈ d.map Prod.fst
        · exact .inr q2
        · exfalso
          have hm : mb (some a) none w (a + 1 * (i : Int)) = true := (mb_iff _ _ _ _).mpr ⟨lo_some.mpr (by omega), hi_none _, q1⟩
          have hi : goodB (some a) none w (d.map Prod.fst) (a + 1 * (i : Int)) = false := hi
          unfold goodB at hi
          rw [hm, decide_eq_false q2] at hi; cases hi
  | none =>
    cases h with
    | some c =>
      show Ans _ _ _ _ _ (bindO (iteO false _ (some false)) _)
      rw [iteO_F, bindO_s, letO_s, iteO_F]
      refine go (cn + (w ++ d.map Prod.fst).length) (by rw [List.length_append]; omega) (enough (.inr rfl) cn _ fun i hi => ?_) fun a' c' e e' => nomatch e
      rw [List.mem_append]
      by_cases q1 : c + -1 * (i : Int) ∈ w
      · exact .inl q1
      · by_cases q2 : c + -1 * (i : Int) ∈ d.map Prod.fst
        · exact .inr q2
        · exfalso
          have hm : mb none (some c) w (c + -1 * (i : Int)) = true := (mb_iff _ _ _ _).mpr ⟨lo_none _, hi_some.mpr (by omega), q1⟩
          have hi : goodB none (some c) w (d.map Prod.fst) (c + -1 * (i : Int)) = false := hi
          unfold goodB at hi
          rw [hm, decide_eq_false q2] at hi; cases hi
    | none =>
      show Ans _ _ _ _ _ (bindO (iteO false _ (some false)) _)
      rw [iteO_F, bindO_s, letO_s, iteO_F]
      refine go (cn + (w ++ d.map Prod.fst).length) (by rw [List.length_append]; omega) (enough (.inl rfl) cn _ fun i hi => ?_) fun a' c' e e' => nomatch e
      rw [List.mem_append]
      by_cases q1 : 0 + 1 * (i : Int) ∈ w
      · exact .inl q1
      · by_cases q2 : 0 + 1 * (i : Int) ∈ d.map Prod.fst
        · exact .inr q2
        · exfalso
          have hm : mb none none w (0 + 1 * (i : Int)) = true := (mb_iff _ _ _ _).mpr ⟨lo_none _, hi_none _, q1⟩
          have hi : goodB none none w (d.map Prod.fst) (0 + 1 * (i : Int)) = false := hi
          unfold goodB at hi
          rw [hm, decide_eq_false q2] at hi; cases hi
theorem members_vk : m_Region_members_Vk = m_Region_members := rfl
theorem asked_vk : m_l_asked_Vk = m_l_asked := rfl
theorem win_rng (base : Int) : pyRng3 (base - 22) (base + 23) = some (Win base) := by
  unfold pyRng3 Win
  rw [if_pos (by omega), show base + 23 - (base - 22) = 45 by omega]; rfl
theorem in_part_ok (p : Pt) (v : Int) : m_l_in_part p v = some (mp p v) := by
  obtain ⟨l, h, w⟩ := p
  unfold m_l_in_part mp mb btw
  cases l with
  | none => cases h with
    | none => rfl
    | some b =>
      by_cases c : b < v
      · simp [c, bindO_s, letO_s, iteO_T, iteO_F, show ¬ v ≤ b by omega]
      · simp [c, bindO_s, letO_s, iteO_T, iteO_F, show v ≤ b by omega]
  | some a =>
    by_cases d : v < a
    · simp [d, bindO_s, letO_s, iteO_T, iteO_F, show ¬ a ≤ v by omega]
    · cases h with
      | none => simp [d, bindO_s, letO_s, iteO_T, iteO_F, show a ≤ v by omega]
      | some b =>
        by_cases c : b < v
        · simp [c, d, bindO_s, letO_s, iteO_T, iteO_F, show a ≤ v by omega, show ¬ v ≤ b by omega]
        · simp [c, d, bindO_s, letO_s, iteO_T, iteO_F, show a ≤ v by omega, show v ≤ b by omega]
def freeL (p : Pt) (base : Int) (b : List Int) : List Int := ((Win base).filter (mp p)).filter fun v => !decide (v ∈ b)
theorem free_ok (p : Pt) (base : Int) (b : List Int) : m_l_free p base b = some (if (p.1.isNone || p.2.1.isNone) = true then none else some ((freeL p base b).length : Int)) := by
  unfold m_l_free
  rw [letO_s]
  cases p.1.isNone || p.2.1.isNone with
  | true => rfl
  | false =>
    rw [iteO_F, if_neg (by decide)]
    unfold m_l_window
    have c1 : compL m_l_window_c1 (Win base) = some (Win base) := by
      rw [compL_all (f := m_l_window_c1) (g := fun x => x) fun x _ => rfl, List.map_id']
    have c2 : compL (m_l_free_c1 p) (Win base) = some ((Win base).filter (mp p)) := by
      rw [compL_fil (p := mp p) (g := fun x => x) fun x _ => ?_, List.map_id']
      unfold m_l_free_c1
      rw [in_part_ok, bindO_s, letO_s]
      cases mp p x <;> rfl
    have c3 : compL (m_l_free_c2 b) ((Win base).filter (mp p)) = some (freeL p base b) := by
      rw [compL_fil (p := fun v => !decide (v ∈ b)) (g := fun x => x) fun x _ => ?_, List.map_id']
      · rfl
      · unfold m_l_free_c2
        rw [letO_s]
        cases decide (x ∈ b) <;> rfl
    rw [win_rng, bindO_s, c1, bindO_s, bindO_s, c2, bindO_s, letO_s, c3, bindO_s]
theorem good_ok {ls : List Int} {p : Pt} {b : List Int} {cn : Nat} (hc : cn ≤ 100) (e : ls.length = cn) (asc : ls.Pairwise (· < ·)) (k : ∀ x ∈ ls, mp p x = true ∧ x ∉ b) : m_l_good ls p (cn : Int) b = some true := by
  unfold m_l_good
  rw [letO_s, e, decide_eq_true rfl]
  rw [show ((!true) || (!true)) = false from rfl, iteO_F, rng_some (by omega) (by omega), bindO_s]
  have st : ∀ x ∈ rng 0 (cn : Int).toNat, m_l_good_b1 ls p b x () = some (.nx ()) := fun x hx => by
    obtain ⟨h1, h2⟩ := mem_rng.mp hx
    have hx0 : x = ((x.toNat : Nat) : Int) := by omega
    have hlt : x.toNat < ls.length := by omega
    have ex : atI ls x = some ls[x.toNat] := (congrArg (atI ls) hx0).trans ((atI_nat2 _ _).trans (List.getElem?_eq_getElem hlt))
    have hk := k ls[x.toNat] (List.getElem_mem hlt)
    unfold m_l_good_b1 m_l_is_integer
    rw [ex]
    simp only [bindO_s, letO_s, Bool.true_and, Bool.not_false, Bool.not_true, iteO_F]
    rw [decide_eq_false hk.2, iteO_F, in_part_ok, hk.1]
    simp only [bindO_s, letO_s, Bool.not_true, iteO_F]
    by_cases h0 : 0 < x
    · have hx1 : x - 1 = ((x.toNat - 1 : Nat) : Int) := by omega
      have ey : atI ls (x - 1) = some ls[x.toNat - 1] := by rw [hx1, atI_nat2]; exact List.getElem?_eq_getElem (by omega)
      have hlt2 := List.pairwise_iff_getElem.mp asc (x.toNat - 1) x.toNat (by omega) hlt (by omega)
      rw [decide_eq_true h0, iteO_T, ey, bindO_s, bindO_s, decide_eq_false (by omega), iteO_F]
    · rw [decide_eq_false h0, iteO_F, bindO_s, iteO_F]
  rw [forL_same st]; rfl
/-- the region that is made of the drawn parts -/
structure Rn (p : Pt) (base : Int) (l h : Option Int) (w : List Int) : Prop where
  f : Fm l h w
  wl : w.length ≤ 20
  m : ∀ v, Mem l h w v ↔ mp p v = true
  fin : ∀ a c, l = some a → h = some c → c - a ≤ 100
  none_ : (p.1.isNone || p.2.1.isNone) = true → ¬ (l.isSome = true ∧ h.isSome = true)
  some_ : (p.1.isNone || p.2.1.isNone) = false → ∃ a c, l = some a ∧ h = some c ∧ ∀ b : List Int, ((rng a (c - a + 1).toNat).filter fun v => mb l h w v && !decide (v ∈ b)).length = (freeL p base b).length
theorem rn_ok {base : Int} {p : Pt} (hn : Near base p) {l h : Option Int} {w : List Int} (f : Fm l h w) (wl : w.length ≤ 20) (m : ∀ v, Mem l h w v ↔ mp p v = true) : Rn p base l h w := by
  have W : Wn (mp p) base p.1.isSome p.2.1.isSome := by
    have W := wn_parts (ps := [p]) fun q hq => by rw [List.mem_singleton.mp hq]; exact hn
    simpa using W
  have hlo : ∀ x, l = some x → p.1.isSome = true := fun x e => by
    cases q : p.1.isSome with
    | true => rfl
    | false =>
      rw [q] at W
      have := lo_some.mp (e ▸ ((m (min (x - 1) (base - 9))).mpr (W.l0 rfl _ (by omega))).1)
      omega
  have hhi : ∀ x, h = some x → p.2.1.isSome = true := fun x e => by
    cases q : p.2.1.isSome with
    | true => rfl
    | false =>
      rw [q] at W
      have := hi_some.mp (e ▸ ((m (max (x + 1) (base + 9))).mpr (W.h0 rfl _ (by omega))).2.1)
      omega
  have hno : p.1.isSome = true → l.isSome = true := fun e => by
    cases q : l with
    | some a => rfl
    | none =>
      rw [e] at W
      obtain ⟨v, h1, h2⟩ := far_low (h := h) (w := w) (base - 9)
      have := W.l1 rfl v ((m v).mp (by rw [q]; exact h2))
      omega
  have hnh : p.2.1.isSome = true → h.isSome = true := fun e => by
    cases q : h with
    | some a => rfl
    | none =>
      rw [e] at W
      obtain ⟨v, h1, h2⟩ := far_high (l := l) (w := w) (base + 9)
      have := W.h1 rfl v ((m v).mp (by rw [q]; exact h2))
      omega
  refine ⟨f, wl, m, fun a c ea ec => ?_, fun e => ?_, fun e => ?_⟩
  · rcases wn_bound W f m with ⟨e1, e2, _⟩ | ⟨b1, b2, _⟩
    · rw [e1] at ea; rw [e2] at ec; cases ea; cases ec; decide
    · have := b1 a ea; have := b2 c ec; omega
  · rintro ⟨h1, h2⟩
    obtain ⟨a, ea⟩ := Option.isSome_iff_exists.mp h1
    obtain ⟨c, ec⟩ := Option.isSome_iff_exists.mp h2
    have q1 := hlo a ea
    have q2 := hhi c ec
    rw [Option.isSome_iff_ne_none] at q1 q2
    rcases Bool.or_eq_true _ _ ▸ e with z | z
    · exact q1 (Option.isNone_iff_eq_none.mp z)
    · exact q2 (Option.isNone_iff_eq_none.mp z)
  · have e1 : p.1.isSome = true := by cases q : p.1 with
      | some a => rfl
      | none => rw [q] at e; cases e
    have e2 : p.2.1.isSome = true := by cases q : p.2.1 with
      | some a => rfl
      | none => rw [q] at e; cases q1 : p.1 <;> rw [q1] at e <;> cases e
    obtain ⟨a, ea⟩ := Option.isSome_iff_exists.mp (hno e1)
    obtain ⟨c, ec⟩ := Option.isSome_iff_exists.mp (hnh e2)
    rw [e1, e2] at W
    refine ⟨a, c, ea, ec, fun b => ?_⟩
    subst ea ec
    refine len_same ((asc_nodup (rng_asc _ _)).filter _) (((asc_nodup (rng_asc _ _)).filter _).filter _) fun x => ?_
    unfold freeL Win
    rw [List.mem_filter, List.mem_filter, List.mem_filter, Bool.and_eq_true, mb_iff, m, mem_rng, mem_rng]
    constructor
    · rintro ⟨_, h1, h2⟩
      have := W.l1 rfl x h1
      have := W.h1 rfl x h1
      exact ⟨⟨⟨by omega, by omega⟩, h1⟩, h2⟩
    · rintro ⟨⟨_, h1⟩, h2⟩
      have q := (m x).mpr h1
      have q1 := lo_some.mp q.1
      have q2 := hi_some.mp q.2.1
      exact ⟨⟨by omega, by omega⟩, h1, h2⟩
theorem few_eq (n : Int) : pyEq ((dTup (dwC PyData.str (dwC PyData.int (dwC PyData.bool (dw1 PyData.bool))))) ((Str.ofString "TooFew"), n, true, false)) ((dTup (dwC PyData.str (dwC PyData.int (dwC PyData.bool (dw1 PyData.bool))))) ((Str.ofString "TooFew"), n, true, false)) = some true := by
  have hl : PyData.canLay0 ((dTup (dwC PyData.str (dwC PyData.int (dwC PyData.bool (dw1 PyData.bool))))) ((Str.ofString "TooFew"), n, true, false)) = true := lay_tup (lay_cons (show PyData.canLay0 (.str (Str.ofString "TooFew")) = true by decide +kernel) (lay_cons (lay_int n) (lay_cons (lay_bool _) (lay_cons (lay_bool _) lay_nil))))
  have hd : ((dTup (dwC PyData.str (dwC PyData.int (dwC PyData.bool (dw1 PyData.bool))))) ((Str.ofString "TooFew"), n, true, false)).depth ≤ 64 := by simp [dTup, dwC, dw1, PyData.depth, PyData.depthAll]
  rw [eq_some hl hd hl hd]
  simp [dTup, dwC, dw1, PyData.eqv, PyData.eqvAll]
/-- what is done with the region -/
theorem rest_ok {p : Pt} {base : Int} {l h : Option Int} {w : List Int} (R : Rn p base l h w) {b : List Int} (hb : b.length ≤ 20) {cn : Nat} (hcn : cn ≤ 100) {fr : Option Int} (efr : fr = if (p.1.isNone || p.2.1.isNone) = true then none else some ((freeL p base b).length : Int)) :
    (bindO (m_l_asked (mkR l h w) (cn : Int) b) fun answer30 => bindO (pyEq ((dLst PyData.int) b) ((dLst PyData.int) b)) fun q31 => letO ((!q31)) fun c32 => iteO c32 (some false) (letO (fr.isSome) fun c35 => bindO (iteO c35 (bindO (fr) fun g33 => some (decide (g33 < (cn : Int)))) (some false)) fun b34 => letO (b34) fun c36 => iteO c36 (bindO (altL answer30.1) fun a37 => bindO (pyEq ((dTup (dwC PyData.str (dwC PyData.int (dwC PyData.bool (dw1 PyData.bool))))) a37) ((dTup (dwC PyData.str (dwC PyData.int (dwC PyData.bool (dw1 PyData.bool))))) ((Str.ofString "TooFew"), (cn : Int), true, false))) fun q38 => letO ((!q38)) fun c41 => bindO (iteO c41 (some true) (bindO (m_l_base_caught (mkR l h w) (cn : Int) b) fun v39 => some (!v39))) fun b40 => letO (b40) fun c42 => iteO c42 (some false) (bindO (fr) fun g43 => bindO (m_Region_members (mkR l h w) g43 b) fun r44 => bindO (okR r44) fun l45 => letO (l45) fun again46 => bindO (fr) fun g47 => bindO (m_l_good again46 p g47 b) fun v48 => some v48)) (letO ((!decide ((altO answer30.1 (fun z => z.1) (fun z => z.1)) = (Str.ofString "told")))) fun c52 => bindO (iteO c52 (some true) (bindO (altR answer30.1) fun y49 => bindO (m_l_good y49.2 p (cn : Int) b) fun v50 => some (!v50))) fun b51 => letO (b51) fun c53 => iteO c53 (some false) (bindO (altR answer30.1) fun y54 => bindO (pyApp y54.2 base) fun l55 => bindO (m_Region_members (mkR l h w) (0 : Int) ([] : (List Int))) fun r56 => bindO (okR r56) fun l57 => bindO (pyEq ((dLst PyData.int) l57) ((dHls dw0) ())) fun q58 => letO ((!q58)) fun c63 => bindO (iteO c63 (some true) (bindO (m_Region_members (mkR l h w) (cn : Int) b) fun r59 => bindO (okR r59) fun l60 => bindO (m_l_good l60 p (cn : Int) b) fun v61 => some (!v61))) fun b62 => letO (b62) fun c64 => iteO c64 (some false) (letO (fr.isSome) fun c65 => iteO c65 (some true) (bindO (m_Region_members (mkR l h w) (cn : Int) ([] : (List Int))) fun r66 => bindO (okR r66) fun l67 => bindO (m_l_good l67 p (cn : Int) []) fun v68 => some v68)))))) = some true := by
  have hm := members_ok R.f b hb R.wl cn hcn R.fin
  have gd : ∀ {ls : List Int} {b' : List Int} {n : Nat}, n ≤ 100 → ls.length = n → ls.Pairwise (· < ·) → (∀ x ∈ ls, Mem l h w x ∧ x ∉ b') → m_l_good ls p (n : Int) b' = some true := fun hn e asc k => good_ok hn e asc fun x hx => ⟨(R.m x).mp (k x hx).1, (k x hx).2⟩
  unfold m_l_asked
  rw [eq_lst, decide_eq_true rfl]
  generalize hr : m_Region_members (mkR l h w) (cn : Int) b = r at hm
  cases hm with
  | @few a c e1 e2 k =>
    have hb2 : (p.1.isNone || p.2.1.isNone) = false := by
      cases q : (p.1.isNone || p.2.1.isNone) with
      | false => rfl
      | true => exact absurd ⟨by rw [e1]; rfl, by rw [e2]; rfl⟩ (R.none_ q)
    obtain ⟨a', c', e1', e2', hF⟩ := R.some_ hb2
    rw [e1] at e1'; rw [e2] at e2'
    cases e1'; cases e2'
    have hF := hF b
    rw [hF] at k
    rw [hb2, if_neg (by decide)] at efr
    subst efr
    rw [letO_s, bindO_s]
    show (bindO (some ((.inl ((Str.ofString "TooFew"), (cn : Int), true, false) : ((Str × Int × Bool × Bool) ⊕ (Str × List Int))), ())) _) = _
    rw [bindO_s, bindO_s, letO_s]
    simp only [Bool.not_true, iteO_F, letO_s, Option.isSome_some, iteO_T, bindO_s]
    rw [decide_eq_true (by omega), iteO_T]
    show (bindO (some ((Str.ofString "TooFew"), (cn : Int), true, false)) _) = _
    rw [bindO_s, few_eq, bindO_s]
    simp only [Bool.not_true, iteO_F]
    unfold m_l_base_caught
    rw [hr]
    simp only [letO_s, bindO_s]
    show (bindO (bindO (some true) fun v39 => some (!v39)) _) = _
    simp only [bindO_s, Bool.not_true, letO_s, iteO_F]
    have h2 := members_ok R.f b hb R.wl (freeL p base b).length (by omega) R.fin
    generalize m_Region_members (mkR l h w) ((freeL p base b).length : Int) b = r2 at h2
    cases h2 with
    | @few a2 c2 f1 f2 k2 =>
      rw [e1] at f1; rw [e2] at f2
      cases f1; cases f2
      rw [hF] at k2
      omega
    | told ls e asc k2 n =>
      rw [bindO_s]
      show (bindO (some ls) _) = _
      rw [bindO_s, gd (by omega) e asc k2, bindO_s]
  | told ls e asc k n =>
    have hnf : ∀ z : Int, fr = some z → ¬ z < (cn : Int) := fun z hz => by
      cases q : (p.1.isNone || p.2.1.isNone) with
      | true => rw [efr, q, if_pos rfl] at hz; cases hz
      | false =>
        obtain ⟨a, c, e1, e2, hF⟩ := R.some_ q
        have := n a c e1 e2
        rw [hF b] at this
        rw [efr, q, if_neg (by decide)] at hz
        cases hz
        omega
    rw [letO_s, bindO_s]
    show (bindO (some ((.inr ((Str.ofString "told"), ls) : ((Str × Int × Bool × Bool) ⊕ (Str × List Int))), ())) _) = _
    rw [bindO_s, bindO_s, letO_s]
    simp only [Bool.not_true, iteO_F, letO_s]
    have c0 : (bindO (iteO fr.isSome (bindO fr fun g33 => some (decide (g33 < (cn : Int)))) (some false)) fun b => some b) = some false := by
      cases q : fr with
      | none => rfl
      | some z =>
        show bindO (bindO (some z) fun g33 => some (decide (g33 < (cn : Int)))) _ = _
        rw [bindO_s, bindO_s, decide_eq_false (hnf z q)]
    obtain ⟨bb, hbb, e0⟩ := bindO_some c0
    cases e0
    rw [hbb, bindO_s, iteO_F]
    have tl : (!decide ((altO (.inr ((Str.ofString "told"), ls) : ((Str × Int × Bool × Bool) ⊕ (Str × List Int))) (fun z => z.1) (fun z => z.1)) = (Str.ofString "told"))) = false := by
      show (!decide ((Str.ofString "told") = (Str.ofString "told"))) = false
      rw [decide_eq_true rfl]; rfl
    rw [tl, iteO_F]
    show (bindO (bindO (some ((Str.ofString "told"), ls)) _) _) = _
    rw [bindO_s, gd hcn e asc k, bindO_s]
    simp only [Bool.not_true, bindO_s, iteO_F]
    show (bindO (some ((Str.ofString "told"), ls)) _) = _
    rw [bindO_s, show pyApp ls base = some (ls ++ [base]) from if_pos (by omega), bindO_s]
    have h0 := members_ok R.f [] (by decide) R.wl 0 (by decide) R.fin
    have ec : ((0 : Nat) : Int) = (0 : Int) := rfl
    rw [ec] at h0
    generalize m_Region_members (mkR l h w) (0 : Int) [] = r0 at h0
    cases h0 with
    | few f1 f2 k2 => omega
    | told l0 f0 asc0 k0 n0 =>
      have : l0 = [] := List.length_eq_zero_iff.mp f0
      subst this
      rw [bindO_s]
      show (bindO (some ([] : List Int)) _) = _
      rw [bindO_s, eq_ints_nil, bindO_s]
      simp only [List.isEmpty_nil, Bool.not_true, iteO_F]
      show bindO (bindO (bindO (some ls) _) _) _ = _
      rw [bindO_s, bindO_s, gd hcn e asc k]
      simp only [bindO_s, Bool.not_true, letO_s, iteO_F]
      cases q : fr with
      | some z => rfl
      | none =>
        show (bindO (m_Region_members (mkR l h w) (cn : Int) []) _) = _
        have h1 := members_ok R.f [] (by decide) R.wl cn hcn R.fin
        generalize m_Region_members (mkR l h w) (cn : Int) [] = r1 at h1
        cases h1 with
        | few f1 f2 k2 =>
          exfalso
          have hb2 : (p.1.isNone || p.2.1.isNone) = true := by
            cases q2 : (p.1.isNone || p.2.1.isNone) with
            | true => rfl
            | false => rw [efr, q2, if_neg (by decide)] at q; cases q
          exact R.none_ hb2 ⟨by rw [f1]; rfl, by rw [f2]; rfl⟩
        | told l1 f1 asc1 k1 n1 =>
          rw [bindO_s]
          show (bindO (some l1) _) = _
          rw [bindO_s, gd hcn f1 asc1 k1, bindO_s]
theorem free_le (p : Pt) (base : Int) (b : List Int) : (freeL p base b).length ≤ 45 := by
  unfold freeL
  refine Nat.le_trans (List.length_filter_le _ _) (Nat.le_trans (List.length_filter_le _ _) ?_)
  unfold Win; rw [rng_len]; exact Nat.le_refl _
theorem law_true (ns : List Int) (h : ns.length ≤ 63) : m_law ns = some true := by
  obtain ⟨s0, e0, i0⟩ := start_ok ns h
  obtain ⟨d1, s1, e1, a1, b1, i1⟩ := draw_ok i0 (by decide) (show (0 : Int) < 3 by decide) (by decide)
  obtain ⟨base, s2, e2, i2⟩ := base_ok i1 (by decide)
  obtain ⟨p, s3, e3, ⟨hn, hp⟩, i3⟩ := parts_ok (base := base) i2 (by decide)
  obtain ⟨d4, s4, e4, a4, b4, i4⟩ := draw_ok i3 (by decide) (show (0 : Int) < 11 by decide) (by decide)
  obtain ⟨b, s5, e5, hbl, _, i5⟩ := drawn_ok (f := m_law_c1 base) (c := 1) 60000 (fun _ => True) (by decide) (fun x n st h hn => by
    obtain ⟨d, s, e, p, q, i⟩ := draw_ok h (by omega) (show (0 : Int) < 17 by decide) (by decide)
    unfold m_law_c1
    simp only [e, bindO_s]
    exact ⟨_, _, rfl, trivial, i⟩) (rng 0 d4.toNat) _ s4 i4 (by rw [rng_len]; omega)
  rw [rng_len] at hbl i5
  have i5 : I 100 s5 := ⟨i5.1, i5.2.1, by have := i5.2.2; omega⟩
  obtain ⟨d6, s6, e6, a6, b6, i6⟩ := draw_ok i5 (by decide) (show (0 : Int) < 21 by decide) (by decide)
  have hb20 : b.length ≤ 20 := by omega
  obtain ⟨l, hh, w, eR, f, wl, m⟩ := init_ok p.1 p.2.1 p.2.2 (by omega)
  have R : Rn p base l hh w := rn_ok hn f (by omega) fun v => (m v).trans (mb_iff _ _ _ _).symm
  unfold m_law
  rw [e0, bindO_s, letO_s, e1, bindO_s, letO_s, e2, bindO_s, letO_s, e3, bindO_s, letO_s, e4, bindO_s, rng_some a4 (by omega), bindO_s, e5, bindO_s, letO_s, e6, bindO_s, letO_s, free_ok, bindO_s, letO_s, letO_s]
  dsimp only
  generalize efr : (if (p.1.isNone || p.2.1.isNone) = true then none else some ((freeL p base b).length : Int)) = fr
  have cnt : ∃ (cn : Nat) (s7 : Dr), (bindO (iteO (decide (d1 = (0 : Int)) && fr.isSome) (bindO (fr) fun g23 => bindO (m_l_draw s6 (2 : Int)) fun p22 => letO ((g23 + p22.1)) fun count24 => some (count24, p22.2)) (some (d6, s6))) fun j => some j) = some ((cn : Int), s7) ∧ cn ≤ 100 ∧ I 200 s7 := by
    cases hc : decide (d1 = (0 : Int)) && fr.isSome with
    | false =>
      rw [iteO_F, bindO_s]
      refine ⟨d6.toNat, s6, by rw [show ((d6.toNat : Nat) : Int) = d6 by omega], by omega, i6.1, i6.2.1, by have := i6.2.2; omega⟩
    | true =>
      rw [Bool.and_eq_true] at hc
      obtain ⟨z, hz⟩ := Option.isSome_iff_exists.mp hc.2
      obtain ⟨d7, s7, e7, a7, b7, i7⟩ := draw_ok i6 (by decide) (show (0 : Int) < 2 by decide) (by decide)
      have hz2 : z = ((freeL p base b).length : Int) := by
        rw [← efr] at hz
        split at hz
        · cases hz
        · cases hz; rfl
      have := free_le p base b
      rw [iteO_T, hz, bindO_s, e7, bindO_s, letO_s, bindO_s]
      exact ⟨(z + d7).toNat, s7, by rw [show (((z + d7).toNat : Nat) : Int) = z + d7 by omega], by omega, i7.1, i7.2.1, by have := i7.2.2; omega⟩
  obtain ⟨cn, s7, ec, hcn, i7⟩ := cnt
  obtain ⟨j, hj, ec⟩ := bindO_some ec
  cases ec
  rw [hj, bindO_s]
  dsimp only
  rw [eR, bindO_s, letO_s, letO_s]
  obtain ⟨d8, s8, e8, a8, b8, i8⟩ := draw_ok i7 (by decide) (show (0 : Int) < 2 by decide) (by decide)
  rw [e8, bindO_s, letO_s]
  have K := rest_ok R hb20 hcn efr.symm
  rw [asked_vk, members_vk]
  cases decide (d8 = (0 : Int)) with
  | true => exact K
  | false => exact K
end Law

set_option maxHeartbeats 4000000
namespace Law
open PySem PySem.Spec PyProof.Rows L2 G
abbrev topS (i : Nat) : Stmt := PySem.Challenge.pw_shownwrites_k06_region_members.main.body.getD i (.Pass ⟨0, 0, 0, 0⟩)
abbrev s_between : Stmt := topS 6
abbrev N_between : List Str := ["low", "high", "number"]
theorem sc_between : FnScope N_between ["low", "high", "number"] (defScope s_between) := ⟨rfl, rfl, rfl, by decide +kernel, rfl, by decide +kernel, by decide +kernel⟩
abbrev s_one_form : Stmt := topS 7
abbrev N_one_form : List Str := ["low", "high", "without", "gaps", "start", "end", "number"]
theorem sc_one_form : FnScope N_one_form ["low", "high", "without"] (defScope s_one_form) := ⟨rfl, rfl, rfl, by decide +kernel, rfl, by decide +kernel, by decide +kernel⟩
abbrev s_size_of : Stmt := topS 8
abbrev N_size_of : List Str := ["low", "high", "without"]
theorem sc_size_of : FnScope N_size_of ["low", "high", "without"] (defScope s_size_of) := ⟨rfl, rfl, rfl, by decide +kernel, rfl, by decide +kernel, by decide +kernel⟩
abbrev s_Region___init : Stmt := inClass (topS 12) 0
abbrev N_Region___init : List Str := ["self", "low", "high", "without", "number"]
theorem sc_Region___init : FnScope N_Region___init ["self", "low", "high", "without"] (defScope s_Region___init) := ⟨rfl, rfl, rfl, by decide +kernel, rfl, by decide +kernel, by decide +kernel⟩
abbrev s_Region___contains : Stmt := inClass (topS 12) 1
abbrev N_Region___contains : List Str := ["self", "x"]
theorem sc_Region___contains : FnScope N_Region___contains ["self", "x"] (defScope s_Region___contains) := ⟨rfl, rfl, rfl, by decide +kernel, rfl, by decide +kernel, by decide +kernel⟩
abbrev s_Region__start : Stmt := inClass (topS 12) 8
abbrev N_Region__start : List Str := ["self"]
theorem sc_Region__start : FnScope N_Region__start ["self"] (defScope s_Region__start) := ⟨rfl, rfl, rfl, by decide +kernel, rfl, by decide +kernel, by decide +kernel⟩
abbrev s_Region_members : Stmt := inClass (topS 12) 7
abbrev N_Region_members : List Str := ["self", "count", "apart", "barred", "lost", "number", "step", "found"]
theorem sc_Region_members : FnScope N_Region_members ["self", "count", "apart"] (defScope s_Region_members) := ⟨rfl, rfl, rfl, by decide +kernel, rfl, by decide +kernel, by decide +kernel⟩
abbrev s_l_start : Stmt := topS 14
abbrev N_l_start : List Str := ["_law_script", "_law_first"]
theorem sc_l_start : FnScope N_l_start ["_law_script"] (defScope s_l_start) := ⟨rfl, rfl, rfl, by decide +kernel, rfl, by decide +kernel, by decide +kernel⟩
abbrev s_l_draw : Stmt := topS 15
abbrev N_l_draw : List Str := ["_law_state", "_law_many", "_law_drawn", "_law_seed", "_law_mixed"]
theorem sc_l_draw : FnScope N_l_draw ["_law_state", "_law_many"] (defScope s_l_draw) := ⟨rfl, rfl, rfl, by decide +kernel, rfl, by decide +kernel, by decide +kernel⟩
abbrev s_l_end : Stmt := topS 16
abbrev N_l_end : List Str := ["_law_state", "_law_base_here"]
theorem sc_l_end : FnScope N_l_end ["_law_state", "_law_base_here"] (defScope s_l_end) := ⟨rfl, rfl, rfl, by decide +kernel, rfl, by decide +kernel, by decide +kernel⟩
abbrev s_l_base : Stmt := topS 17
abbrev N_l_base : List Str := ["_law_state", "_law_kind"]
theorem sc_l_base : FnScope N_l_base ["_law_state"] (defScope s_l_base) := ⟨rfl, rfl, rfl, by decide +kernel, rfl, by decide +kernel, by decide +kernel⟩
abbrev s_l_parts : Stmt := topS 18
abbrev N_l_parts : List Str := ["_law_state", "_law_base_here", "_law_least", "_law_most", "_law_holes", "_law_k"]
theorem sc_l_parts : FnScope N_l_parts ["_law_state", "_law_base_here"] (defScope s_l_parts) := ⟨rfl, rfl, rfl, by decide +kernel, rfl, by decide +kernel, by decide +kernel⟩
abbrev s_l_is_integer : Stmt := topS 19
abbrev N_l_is_integer : List Str := ["_law_actual"]
theorem sc_l_is_integer : FnScope N_l_is_integer ["_law_actual"] (defScope s_l_is_integer) := ⟨rfl, rfl, rfl, by decide +kernel, rfl, by decide +kernel, by decide +kernel⟩
abbrev s_l_in_part : Stmt := topS 20
abbrev N_l_in_part : List Str := ["_law_part", "_law_number"]
theorem sc_l_in_part : FnScope N_l_in_part ["_law_part", "_law_number"] (defScope s_l_in_part) := ⟨rfl, rfl, rfl, by decide +kernel, rfl, by decide +kernel, by decide +kernel⟩
abbrev s_l_window : Stmt := topS 21
abbrev N_l_window : List Str := ["_law_base_here", "_law_number"]
theorem sc_l_window : FnScope N_l_window ["_law_base_here"] (defScope s_l_window) := ⟨rfl, rfl, rfl, by decide +kernel, rfl, by decide +kernel, by decide +kernel⟩
abbrev s_l_free : Stmt := topS 22
abbrev N_l_free : List Str := ["_law_part", "_law_base_here", "_law_barred", "_law_inside", "_law_number"]
theorem sc_l_free : FnScope N_l_free ["_law_part", "_law_base_here", "_law_barred"] (defScope s_l_free) := ⟨rfl, rfl, rfl, by decide +kernel, rfl, by decide +kernel, by decide +kernel⟩
abbrev s_l_asked : Stmt := topS 23
abbrev N_l_asked : List Str := ["_law_region", "_law_count", "_law_barred", "_law_caught", "_law_found", "e"]
theorem sc_l_asked : FnScope N_l_asked ["_law_region", "_law_count", "_law_barred"] (defScope s_l_asked) := ⟨rfl, rfl, rfl, by decide +kernel, rfl, by decide +kernel, by decide +kernel⟩
abbrev s_l_base_caught : Stmt := topS 24
abbrev N_l_base_caught : List Str := ["_law_region", "_law_count", "_law_barred", "_law_caught", "e"]
theorem sc_l_base_caught : FnScope N_l_base_caught ["_law_region", "_law_count", "_law_barred"] (defScope s_l_base_caught) := ⟨rfl, rfl, rfl, by decide +kernel, rfl, by decide +kernel, by decide +kernel⟩
abbrev s_l_good : Stmt := topS 25
abbrev N_l_good : List Str := ["_law_found", "_law_part", "_law_count", "_law_barred", "_law_k"]
theorem sc_l_good : FnScope N_l_good ["_law_found", "_law_part", "_law_count", "_law_barred"] (defScope s_l_good) := ⟨rfl, rfl, rfl, by decide +kernel, rfl, by decide +kernel, by decide +kernel⟩
abbrev s_law : Stmt := topS 26
abbrev N_law : List Str := ["_law_script", "_law_state", "_law_kind", "_law_base_here", "_law_part", "_law_barred", "_law_count", "_law_free_here", "_law_region", "_law_handed", "_law_answer", "_law_again", "_law_k"]
theorem sc_law : FnScope N_law ["_law_script"] (defScope s_law) := ⟨rfl, rfl, rfl, by decide +kernel, rfl, by decide +kernel, by decide +kernel⟩
abbrev s_e_TooFew : Stmt := inClass (topS 4) 0
theorem sc_e_TooFew : FnScope ["self", "count"] ["self", "count"] (defScope s_e_TooFew) := ⟨rfl, rfl, rfl, by decide +kernel, rfl, by decide +kernel, by decide +kernel⟩
structure Ad where
  f_between : Addr
  d_between : FuncData
  f_one_form : Addr
  d_one_form : FuncData
  f_size_of : Addr
  d_size_of : FuncData
  f_Region___init : Addr
  d_Region___init : FuncData
  f_Region___contains : Addr
  d_Region___contains : FuncData
  f_Region__start : Addr
  d_Region__start : FuncData
  f_Region_members : Addr
  d_Region_members : FuncData
  f_l_start : Addr
  d_l_start : FuncData
  f_l_draw : Addr
  d_l_draw : FuncData
  f_l_end : Addr
  d_l_end : FuncData
  f_l_base : Addr
  d_l_base : FuncData
  f_l_parts : Addr
  d_l_parts : FuncData
  f_l_is_integer : Addr
  d_l_is_integer : FuncData
  f_l_in_part : Addr
  d_l_in_part : FuncData
  f_l_window : Addr
  d_l_window : FuncData
  f_l_free : Addr
  d_l_free : FuncData
  f_l_asked : Addr
  d_l_asked : FuncData
  f_l_base_caught : Addr
  d_l_base_caught : FuncData
  f_l_good : Addr
  d_l_good : FuncData
  f_law : Addr
  d_law : FuncData
  e_Region___init_2 : Addr
  z_Region___init_3 : List Value
  e_Region_members_0 : Addr
  z_Region_members_k : List Value
  C_Region : Addr
  C_TooFew : Addr
  C_BadSign : Addr
  C_ShownError : Addr
  f_e_TooFew : Addr
  d_e_TooFew : FuncData
structure Txt (K : PySem.W.Frag) (mg : Str → Option Value) (a : Ad) : Prop where
  F_between : Fun K "between" "between" s_between a.f_between a.d_between
  g_between : mg "between" = some (.ref a.f_between)
  n_between : Binds K a.d_between ["low", "high", "number"] []
  F_one_form : Fun K "one_form" "one_form" s_one_form a.f_one_form a.d_one_form
  g_one_form : mg "one_form" = some (.ref a.f_one_form)
  n_one_form : Binds K a.d_one_form ["low", "high", "without"] []
  F_size_of : Fun K "size_of" "size_of" s_size_of a.f_size_of a.d_size_of
  g_size_of : mg "size_of" = some (.ref a.f_size_of)
  n_size_of : Binds K a.d_size_of ["low", "high", "without"] []
  F_Region___init : FunD K "__init__" "Region.__init__" (defArgs s_Region___init) (defBody s_Region___init) (defScope s_Region___init) [V.non, V.non, V.ref a.e_Region___init_2] [] a.f_Region___init a.d_Region___init
  t_Region___init_2 : EmpT K a.e_Region___init_2
  n_Region___init_3 : Binds K a.d_Region___init ["self", "low", "high", "without"] a.z_Region___init_3
  v_Region___init_3 : Vals [] a.z_Region___init_3
  F_Region___contains : Fun K "__contains__" "Region.__contains__" s_Region___contains a.f_Region___contains a.d_Region___contains
  n_Region___contains : Binds K a.d_Region___contains ["self", "x"] []
  F_Region__start : Fun K "_start" "Region._start" s_Region__start a.f_Region__start a.d_Region__start
  n_Region__start : Binds K a.d_Region__start ["self"] []
  F_Region_members : FunD K "members" "Region.members" (defArgs s_Region_members) (defBody s_Region_members) (defScope s_Region_members) [] [("apart", V.ref a.e_Region_members_0)] a.f_Region_members a.d_Region_members
  t_Region_members_0 : EmpT K a.e_Region_members_0
  kb_Region_members : KBn K a.d_Region_members ["self", "count", "apart"] 2 ["apart"] (fun us ws => us ++ ws) (fun vs zs => vs ++ zs)
  n_Region_members_k : Binds K a.d_Region_members ["self", "count", "apart"] a.z_Region_members_k
  v_Region_members_k : Vals [V.ref a.e_Region_members_0] a.z_Region_members_k
  F_l_start : Fun K "_law_start" "_law_start" s_l_start a.f_l_start a.d_l_start
  g_l_start : mg "_law_start" = some (.ref a.f_l_start)
  n_l_start : Binds K a.d_l_start ["_law_script"] []
  F_l_draw : Fun K "_law_draw" "_law_draw" s_l_draw a.f_l_draw a.d_l_draw
  g_l_draw : mg "_law_draw" = some (.ref a.f_l_draw)
  n_l_draw : Binds K a.d_l_draw ["_law_state", "_law_many"] []
  F_l_end : Fun K "_law_end" "_law_end" s_l_end a.f_l_end a.d_l_end
  g_l_end : mg "_law_end" = some (.ref a.f_l_end)
  n_l_end : Binds K a.d_l_end ["_law_state", "_law_base_here"] []
  F_l_base : Fun K "_law_base" "_law_base" s_l_base a.f_l_base a.d_l_base
  g_l_base : mg "_law_base" = some (.ref a.f_l_base)
  n_l_base : Binds K a.d_l_base ["_law_state"] []
  F_l_parts : Fun K "_law_parts" "_law_parts" s_l_parts a.f_l_parts a.d_l_parts
  g_l_parts : mg "_law_parts" = some (.ref a.f_l_parts)
  n_l_parts : Binds K a.d_l_parts ["_law_state", "_law_base_here"] []
  F_l_is_integer : Fun K "_law_is_integer" "_law_is_integer" s_l_is_integer a.f_l_is_integer a.d_l_is_integer
  g_l_is_integer : mg "_law_is_integer" = some (.ref a.f_l_is_integer)
  n_l_is_integer : Binds K a.d_l_is_integer ["_law_actual"] []
  F_l_in_part : Fun K "_law_in_part" "_law_in_part" s_l_in_part a.f_l_in_part a.d_l_in_part
  g_l_in_part : mg "_law_in_part" = some (.ref a.f_l_in_part)
  n_l_in_part : Binds K a.d_l_in_part ["_law_part", "_law_number"] []
  F_l_window : Fun K "_law_window" "_law_window" s_l_window a.f_l_window a.d_l_window
  g_l_window : mg "_law_window" = some (.ref a.f_l_window)
  n_l_window : Binds K a.d_l_window ["_law_base_here"] []
  F_l_free : Fun K "_law_free" "_law_free" s_l_free a.f_l_free a.d_l_free
  g_l_free : mg "_law_free" = some (.ref a.f_l_free)
  n_l_free : Binds K a.d_l_free ["_law_part", "_law_base_here", "_law_barred"] []
  F_l_asked : Fun K "_law_asked" "_law_asked" s_l_asked a.f_l_asked a.d_l_asked
  g_l_asked : mg "_law_asked" = some (.ref a.f_l_asked)
  n_l_asked : Binds K a.d_l_asked ["_law_region", "_law_count", "_law_barred"] []
  F_l_base_caught : Fun K "_law_base_caught" "_law_base_caught" s_l_base_caught a.f_l_base_caught a.d_l_base_caught
  g_l_base_caught : mg "_law_base_caught" = some (.ref a.f_l_base_caught)
  n_l_base_caught : Binds K a.d_l_base_caught ["_law_region", "_law_count", "_law_barred"] []
  F_l_good : Fun K "_law_good" "_law_good" s_l_good a.f_l_good a.d_l_good
  g_l_good : mg "_law_good" = some (.ref a.f_l_good)
  n_l_good : Binds K a.d_l_good ["_law_found", "_law_part", "_law_count", "_law_barred"] []
  F_law : Fun K "law" "law" s_law a.f_law a.d_law
  g_law : mg "law" = some (.ref a.f_law)
  n_law : Binds K a.d_law ["_law_script"] []
  b_ValueError : mg "ValueError" = none
  b_bool : mg "bool" = none
  b_int : mg "int" = none
  b_isinstance : mg "isinstance" = none
  b_len : mg "len" = none
  b_list : mg "list" = none
  b_range : mg "range" = none
  b_set : mg "set" = none
  b_sorted : mg "sorted" = none
  b_tuple : mg "tuple" = none
  g_Region : mg "Region" = some (.ref a.C_Region)
  cl_Region : Cls K a.C_Region
  na_Region_low : NoAttr K a.C_Region "low"
  na_Region_high : NoAttr K a.C_Region "high"
  na_Region_without : NoAttr K a.C_Region "without"
  na_Region_size : NoAttr K a.C_Region "size"
  na_Region_value : NoAttr K a.C_Region "value"
  na_Region__gaps : NoAttr K a.C_Region "_gaps"
  me_Region___contains : Meth K a.C_Region "__contains__" a.f_Region___contains
  g_TooFew : mg "TooFew" = some (.ref a.C_TooFew)
  me_Region__start : Meth K a.C_Region "_start" a.f_Region__start
  me_Region_members : Meth K a.C_Region "members" a.f_Region_members
  e_TooFew_TooFew : PySem.W.exmOne K (.ref a.C_TooFew) (.ref a.C_TooFew) = some true
  xf_TooFew : XfC K a.C_TooFew
  na_TooFew_count : PySem.W.findIn K (.ref a.C_TooFew) "count" = some none
  xc_TooFew : ExcC K a.C_TooFew
  q_TooFew_ValueError : PySem.W.kitOne K (.ref a.C_TooFew) (.type "ValueError") = some true
  g_BadSign : mg "BadSign" = some (.ref a.C_BadSign)
  q_TooFew_BadSign : PySem.W.kitOne K (.ref a.C_TooFew) (.ref a.C_BadSign) = some false
  g_ShownError : mg "ShownError" = some (.ref a.C_ShownError)
  e_TooFew_ShownError : PySem.W.exmOne K (.ref a.C_TooFew) (.ref a.C_ShownError) = some true
  q_TooFew_TooFew : PySem.W.kitOne K (.ref a.C_TooFew) (.ref a.C_TooFew) = some true
  M_Region : Mk K a.C_Region a.f_Region___init
  x_TooFew : OexC K a.C_TooFew
  i_TooFew : PySem.W.findIn K (.ref a.C_TooFew) "__init__" = some (some (.ref a.f_e_TooFew))
  t_TooFew : PySem.W.typeIn K (.ref a.f_e_TooFew) = some (.type "function")
  F_e_TooFew : Fun K "__init__" "TooFew.__init__" s_e_TooFew a.f_e_TooFew a.d_e_TooFew
  n_e_TooFew : Binds K a.d_e_TooFew ["self", "count"] []
section
variable [TabL] {P : Program} {w : World} {K : PySem.W.Frag} {mg : Str → Option Value} {base : Heap} {a : Ad}
theorem ok_e_TooFew (T : Txt K mg a) : FnOk P w K mg base CX0 1 a.f_e_TooFew a.d_e_TooFew ["self", "count"] (SpE1 a.C_TooFew "count") := okE1 T.F_e_TooFew sc_e_TooFew T.x_TooFew T.na_TooFew_count rfl rfl rfl (Or.inl rfl) (Or.inl rfl) (by decide) (by decide) rfl
theorem ok_between (T : Txt K mg a) : FnOk P w K mg base CX0 1 a.f_between a.d_between ["low", "high", "number"] (SpP (wC (rOpt rInt) (wC (rOpt rInt) (w1 rInt))) rBool (fun x => m_between x.1 x.2.1 x.2.2)) := by
  refine T.F_between.ok sc_between (fun vs H Q E h => ?_) (fun cdv A outer s H vs Q E hr h => ?_)
  · obtain ⟨B, x, b, z, sm, hw, h, kr⟩ := h
    rw [WLen.len hw]; rfl
  · obtain ⟨B, ⟨low0, high0, number0⟩, b, z, sm, hw, h, kr⟩ := h
    have h : m_between low0 high0 number0 = some b := h
    refine ⟨_, (pss_cons (ps_ret (pe_and (pe_or (pe_cmp (pc_isN (pv 0)) rfl) (pe_one (pe_cmpR op_le (pv 0) (pv 2) (nomark _)))) (pe_one (pe_or (pe_cmp (pc_isN (pv 1)) rfl) (pe_one (pe_cmpR op_le (pv 2) (pv 1) (nomark _))))))) pss_nil), ?_⟩
    refine nx_go (frm_start (N := N_between) (n := 0) z sm hw (by rw [WLen.len hw]; rfl)) ?_
    show Nx _ _ [.imm (rOpt rInt) low0, .imm (rOpt rInt) high0, .imm rInt number0]
    unfold m_between at h
    obtain ⟨c3, hc3, h⟩ := letO_some h
    obtain ⟨b2, hb2, h⟩ := bindO_some h
    obtain ⟨c8, hc8, h⟩ := letO_some h
    obtain ⟨b7, hb7, h⟩ := bindO_some h
    exact (sq_ret (ev_and (ev_to (ev_or (ev_to (ev_isN (ev_var rfl)) hc3.symm) (fun hc => by have hx := iteO_f hc hb2; obtain ⟨g1, hg1, hx⟩ := bindO_some hx; exact ev_to (ev_le (ev_get (ev_var rfl) hg1) (ev_var rfl)) (Option.some.inj hx)) (fun hc => ⟨(Option.some.inj (iteO_t hc hb2)).symm, rfl⟩)) hc8.symm) (fun hc => by have hx := iteO_t hc hb7; obtain ⟨c6, hc6, hx⟩ := letO_some hx; obtain ⟨b5, hb5, hx⟩ := bindO_some hx; exact ev_to (ev_or (ev_to (ev_isN (ev_var rfl)) hc6.symm) (fun hc => by have hx := iteO_f hc hb5; obtain ⟨g4, hg4, hx⟩ := bindO_some hx; exact ev_to (ev_le (ev_var rfl) (ev_get (ev_var rfl) hg4)) (Option.some.inj hx)) (fun hc => ⟨(Option.some.inj (iteO_t hc hb5)).symm, rfl⟩)) (Option.some.inj hx)) (fun hc => ⟨(Option.some.inj (iteO_f hc hb7)).symm, rfl⟩)) h kr)
theorem ok_one_form (T : Txt K mg a) : FnOk P w K mg base CX0 2 a.f_one_form a.d_one_form ["low", "high", "without"] (SpP (wC (rOpt rInt) (wC (rOpt rInt) (w1 (rOb (cLst rInt))))) (rOb (cTup (wC (rOpt rInt) (wC (rOpt rInt) (w1 (rOb (cTpl rInt))))))) (fun x => m_one_form x.1 x.2.1 x.2.2)) := by
  refine T.F_one_form.ok sc_one_form (fun vs H Q E h => ?_) (fun cdv A outer s H vs Q E hr h => ?_)
  · obtain ⟨B, x, b, z, sm, hw, h, kr⟩ := h
    rw [WLen.len hw]; rfl
  · obtain ⟨B, ⟨low0, high0, without0⟩, b, z, sm, hw, h, kr⟩ := h
    have h : m_one_form low0 high0 without0 = some b := h
    refine ⟨_, (pss_cons (ps_set (i := 3) sc_one_form.nd rfl (by first | exact Or.inl rfl | exact Or.inr rfl) (pe_callB (sortedSetK (wd := w) rfl rfl) (by rfl) T.b_sorted (by decide +kernel) (pa_cons (pe_callTy (cr_setI (K := K) rfl rfl) (by rfl) T.b_set (by decide +kernel) (pa_cons (pe_lc (own := [("number", 6)]) rfl sc_one_form.nd (pi_list (pv 2)) (blkOk_by (N := N_one_form) (sc := defScope s_one_form) (by decide +kernel)) (fun _ _ _ _ _ => (pg_name (i := 6) sc_one_form.nd rfl (by first | exact Or.inl rfl | exact Or.inr rfl))) (fun _ _ _ _ _ => (pts_one (pt_val (pe_call (ok_between T) (hr.mono (by decide)) rfl T.g_between T.F_between.kp T.n_between .nil pass0 (pa_cons (pv 0) (pa_cons (pv 1) (pa_cons (pv 6) pa_nil))))))) (fun _ _ _ _ _ => (pv 6))) pa_nil)) pa_nil))) (pss_cons (ps_set (i := 4) sc_one_form.nd rfl (by first | exact Or.inl rfl | exact Or.inr rfl) pe_int) (pss_cons (ps_while PassesOwn.never (PW.pt (pw_and (pt_cmpR op_lt (pv 4) (pe_callB (len_seqK (K := K) rfl) (by rfl) T.b_len (by decide +kernel) (pa_cons (pv 3) pa_nil)) (nomark _)) (pw_and1 (pt_cmpR op_eq (pe_ix (ix_listK (K := K) rfl) (pv 3) (pv 4) (fun _ _ => rfl)) (pv 0) (nomark _))))) (pss_cons (ps_set (i := 0) sc_one_form.nd rfl (by first | exact Or.inl rfl | exact Or.inr rfl) (pe_op op_add (pv 0) pe_int)) (pss_cons (ps_set (i := 4) sc_one_form.nd rfl (by first | exact Or.inl rfl | exact Or.inr rfl) (pe_op op_add (pv 4) pe_int)) pss_nil))) (pss_cons (ps_set (i := 5) sc_one_form.nd rfl (by first | exact Or.inl rfl | exact Or.inr rfl) (pe_callB (len_seqK (K := K) rfl) (by rfl) T.b_len (by decide +kernel) (pa_cons (pv 3) pa_nil))) (pss_cons (ps_while PassesOwn.never (PW.pt (pw_and (pt_cmpR op_gt (pv 5) (pv 4) (nomark _)) (pw_and1 (pt_cmpR op_eq (pe_ix (ix_listK (K := K) rfl) (pv 3) (pe_op op_sub (pv 5) pe_int) (fun _ _ => rfl)) (pv 1) (nomark _))))) (pss_cons (ps_set (i := 1) sc_one_form.nd rfl (by first | exact Or.inl rfl | exact Or.inr rfl) (pe_op op_sub (pv 1) pe_int)) (pss_cons (ps_set (i := 5) sc_one_form.nd rfl (by first | exact Or.inl rfl | exact Or.inr rfl) (pe_op op_sub (pv 5) pe_int)) pss_nil))) (pss_cons (ps_if (PW.pt (pw_and (pt_cmp (pc_notN (pv 0))) (pw_and (pt_cmp (pc_notN (pv 1))) (pw_and1 (pt_cmpR op_gt (pv 0) (pv 1) (nomark _)))))) (pss_cons (ps_ret (pe_tup (pa_cons pe_int (pa_cons pe_int (pa_cons (pe_tup pa_nil) pa_nil))))) pss_nil) pss_nil) (pss_cons (ps_ret (pe_tup (pa_cons (pv 0) (pa_cons (pv 1) (pa_cons (pe_callTy (tuple_ofK (K := K) rfl) (by rfl) T.b_tuple (by decide +kernel) (pa_cons (pe_slice (sl_listK (K := K) rfl) (pv 3) (po_some (pv 4)) (po_some (pv 5))) pa_nil)) pa_nil))))) pss_nil))))))), ?_⟩
    refine nx_go (frm_start (N := N_one_form) (n := 4) z sm hw (by rw [WLen.len hw]; rfl)) ?_
    show Nx _ _ [.imm (rOpt rInt) low0, .imm (rOpt rInt) high0, .imm (rOb (cLst rInt)) without0, .no, .no, .no, .no]
    unfold m_one_form at h
    obtain ⟨l4, hl4, h⟩ := bindO_some h
    obtain ⟨l5, hl5, h⟩ := bindO_some h
    obtain ⟨gaps6, hgaps6, h⟩ := letO_some h
    refine (sq_asg (ev_to (ev_new (ec_sortSet (ev_new (ec_lc (m_one_form_c1 low0 high0) (it_list (ev_var rfl)) hl4 tg_name (fun k hk => hk) (by rfl) (fun _ => by rfl) (fun number1 o ho => by unfold m_one_form_c1 at ho; obtain ⟨v2, hv2, ho⟩ := bindO_some ho; obtain ⟨c3, hc3, ho⟩ := letO_some ho; cases c3 with | true => (have ho : (some (some number1)) = some o := ho; cases ho; exact ⟨et_to (et_B (ev_call (ew_C (ev_var rfl) (ew_C (ev_var rfl) (ew_1 (ev_var rfl)))) hv2)) hc3.symm, fun y hy => by cases hy; exact ev_to (ev_var rfl) rfl⟩) | false => (have ho : some none = some o := ho; cases ho; exact ⟨et_to (et_B (ev_call (ew_C (ev_var rfl) (ew_C (ev_var rfl) (ew_1 (ev_var rfl)))) hv2)) hc3.symm, fun y hy => by cases hy⟩)))) hl5)) hgaps6.symm) ?_)
    show Nx _ _ [.imm (rOpt rInt) low0, .imm (rOpt rInt) high0, .imm (rOb (cLst rInt)) without0, .imm (rOb (cLst rInt)) gaps6, .no, .no, .no]
    obtain ⟨start7, hstart7, h⟩ := letO_some h
    refine (sq_asg (ev_to ev_int hstart7.symm) ?_)
    show Nx _ _ [.imm (rOpt rInt) low0, .imm (rOpt rInt) high0, .imm (rOb (cLst rInt)) without0, .imm (rOb (cLst rInt)) gaps6, .imm rInt start7, .no, .no]
    obtain ⟨R15, hR15, h⟩ := bindO_some h
    refine (sq_while (ψ := psi (rOb (cTup (wC (rOpt rInt) (wC (rOpt rInt) (w1 (rOb (cTpl rInt)))))))) (m_one_form_w1 gaps6) (m_one_form_b1) (fun z => [.imm (rOpt rInt) z.1, .imm (rOpt rInt) high0, .imm (rOb (cLst rInt)) without0, .imm (rOb (cLst rInt)) gaps6, .imm rInt z.2, .no, .no]) hR15 ?_ (fun s8 b hc => ?_) (fun D1 s8 st h k1 => ?_) ?_ ?_)
    · exact nx_fin
    · have h : m_one_form_w1 gaps6 s8 = some b := hc
      unfold m_one_form_w1 at h
      obtain ⟨c11, hc11, h⟩ := letO_some h
      obtain ⟨b10, hb10, h⟩ := bindO_some h
      exact et_to (et_and (et_to (et_T (ev_lt (ev_var rfl) (ev_lenL (ev_var rfl)))) hc11.symm) (fun hc => by have hx := iteO_t hc hb10; obtain ⟨y9, hy9, hx⟩ := bindO_some hx; exact et_to (et_T (ev_eqS scOI (ev_some nn_int (ev_ixL (ev_var rfl) (ev_var rfl) hy9)) (ev_var rfl) (sc_oi _ _))) (Option.some.inj hx)) (fun hc => ⟨(Option.some.inj (iteO_f hc hb10)).symm, rfl⟩)) (Option.some.inj h)
    · show Nx _ _ [.imm (rOpt rInt) s8.1, .imm (rOpt rInt) high0, .imm (rOb (cLst rInt)) without0, .imm (rOb (cLst rInt)) gaps6, .imm rInt s8.2, .no, .no]
      unfold m_one_form_b1 at h
      obtain ⟨g12, hg12, h⟩ := bindO_some h
      obtain ⟨low13, hlow13, h⟩ := letO_some h
      refine (sq_asg (ev_to (ev_some nn_int (ev_add (ev_get (ev_var rfl) hg12) ev_int)) hlow13.symm) ?_)
      show Nx _ _ [.imm (rOpt rInt) low13, .imm (rOpt rInt) high0, .imm (rOb (cLst rInt)) without0, .imm (rOb (cLst rInt)) gaps6, .imm rInt s8.2, .no, .no]
      obtain ⟨start14, hstart14, h⟩ := letO_some h
      refine (sq_asg (ev_to (ev_add (ev_var rfl) ev_int) hstart14.symm) ?_)
      show Nx _ _ [.imm (rOpt rInt) low13, .imm (rOpt rInt) high0, .imm (rOb (cLst rInt)) without0, .imm (rOb (cLst rInt)) gaps6, .imm rInt start14, .no, .no]
      refine nx_next ?_
      exact k1.nx _ (Option.some.inj h).symm
    · intro b e
      subst e
      obtain rfl := stepO_ret h; exact kr
    · intro e16 e
      subst e
      have h := stepO_nx h
      show Nx _ _ [.imm (rOpt rInt) e16.1, .imm (rOpt rInt) high0, .imm (rOb (cLst rInt)) without0, .imm (rOb (cLst rInt)) gaps6, .imm rInt e16.2, .no, .no]
      obtain ⟨end17, hend17, h⟩ := letO_some h
      refine (sq_asg (ev_to (ev_lenL (ev_var rfl)) hend17.symm) ?_)
      show Nx _ _ [.imm (rOpt rInt) e16.1, .imm (rOpt rInt) high0, .imm (rOb (cLst rInt)) without0, .imm (rOb (cLst rInt)) gaps6, .imm rInt e16.2, .imm rInt end17, .no]
      obtain ⟨R25, hR25, h⟩ := bindO_some h
      refine (sq_while (ψ := psi (rOb (cTup (wC (rOpt rInt) (wC (rOpt rInt) (w1 (rOb (cTpl rInt)))))))) (m_one_form_w2 gaps6 e16) (m_one_form_b2) (fun z => [.imm (rOpt rInt) e16.1, .imm (rOpt rInt) z.1, .imm (rOb (cLst rInt)) without0, .imm (rOb (cLst rInt)) gaps6, .imm rInt e16.2, .imm rInt z.2, .no]) hR25 ?_ (fun s18 b hc => ?_) (fun D1 s18 st h k1 => ?_) ?_ ?_)
      · exact nx_fin
      · have h : m_one_form_w2 gaps6 e16 s18 = some b := hc
        unfold m_one_form_w2 at h
        obtain ⟨c21, hc21, h⟩ := letO_some h
        obtain ⟨b20, hb20, h⟩ := bindO_some h
        exact et_to (et_and (et_to (et_T (ev_gt (ev_var rfl) (ev_var rfl))) hc21.symm) (fun hc => by have hx := iteO_t hc hb20; obtain ⟨y19, hy19, hx⟩ := bindO_some hx; exact et_to (et_T (ev_eqS scOI (ev_some nn_int (ev_ixL (ev_var rfl) (ev_sub (ev_var rfl) ev_int) hy19)) (ev_var rfl) (sc_oi _ _))) (Option.some.inj hx)) (fun hc => ⟨(Option.some.inj (iteO_f hc hb20)).symm, rfl⟩)) (Option.some.inj h)
      · show Nx _ _ [.imm (rOpt rInt) e16.1, .imm (rOpt rInt) s18.1, .imm (rOb (cLst rInt)) without0, .imm (rOb (cLst rInt)) gaps6, .imm rInt e16.2, .imm rInt s18.2, .no]
        unfold m_one_form_b2 at h
        obtain ⟨g22, hg22, h⟩ := bindO_some h
        obtain ⟨high23, hhigh23, h⟩ := letO_some h
        refine (sq_asg (ev_to (ev_some nn_int (ev_sub (ev_get (ev_var rfl) hg22) ev_int)) hhigh23.symm) ?_)
        show Nx _ _ [.imm (rOpt rInt) e16.1, .imm (rOpt rInt) high23, .imm (rOb (cLst rInt)) without0, .imm (rOb (cLst rInt)) gaps6, .imm rInt e16.2, .imm rInt s18.2, .no]
        obtain ⟨end24, hend24, h⟩ := letO_some h
        refine (sq_asg (ev_to (ev_sub (ev_var rfl) ev_int) hend24.symm) ?_)
        show Nx _ _ [.imm (rOpt rInt) e16.1, .imm (rOpt rInt) high23, .imm (rOb (cLst rInt)) without0, .imm (rOb (cLst rInt)) gaps6, .imm rInt e16.2, .imm rInt end24, .no]
        refine nx_next ?_
        exact k1.nx _ (Option.some.inj h).symm
      · intro b e
        subst e
        obtain rfl := stepO_ret h; exact kr
      · intro e26 e
        subst e
        have h := stepO_nx h
        show Nx _ _ [.imm (rOpt rInt) e16.1, .imm (rOpt rInt) e26.1, .imm (rOb (cLst rInt)) without0, .imm (rOb (cLst rInt)) gaps6, .imm rInt e16.2, .imm rInt e26.2, .no]
        obtain ⟨c32, hc32, h⟩ := letO_some h
        obtain ⟨b31, hb31, h⟩ := bindO_some h
        obtain ⟨c33, hc33, h⟩ := letO_some h
        refine (sq_if (et_to (et_and (et_to (et_B (ev_notN (ev_var rfl))) hc32.symm) (fun hc => by have hx := iteO_t hc hb31; obtain ⟨c30, hc30, hx⟩ := letO_some hx; obtain ⟨b29, hb29, hx⟩ := bindO_some hx; exact et_to (et_and (et_to (et_B (ev_notN (ev_var rfl))) hc30.symm) (fun hc => by have hx := iteO_t hc hb29; obtain ⟨g27, hg27, hx⟩ := bindO_some hx; obtain ⟨g28, hg28, hx⟩ := bindO_some hx; exact et_to (et_T (ev_gt (ev_get (ev_var rfl) hg27) (ev_get (ev_var rfl) hg28))) (Option.some.inj hx)) (fun hc => ⟨(Option.some.inj (iteO_f hc hb29)).symm, rfl⟩)) (Option.some.inj hx)) (fun hc => ⟨(Option.some.inj (iteO_f hc hb31)).symm, rfl⟩)) hc33.symm) (fun hc => ?_) (fun hc => ?_))
        · have h := iteO_t hc h
          exact (sq_ret (ev_new (ec_tup (ew_C (ev_some nn_int ev_int) (ew_C (ev_some nn_int ev_int) (ew_1 (ev_new (ec_tpl eh_0 (Nat.le_of_ble_eq_true rfl)))))))) h kr)
        · have h := iteO_f hc h
          refine nx_next ?_
          try dsimp only
          exact (sq_ret (ev_new (ec_tup (ew_C (ev_var rfl) (ew_C (ev_var rfl) (ew_1 (ev_new (ec_tupL (ev_new (ec_slL (ev_var rfl) (eo_some (ev_var rfl)) (eo_some (ev_var rfl))))))))))) h kr)
theorem ok_size_of (T : Txt K mg a) : FnOk P w K mg base CX0 1 a.f_size_of a.d_size_of ["low", "high", "without"] (SpP (wC (rOpt rInt) (wC (rOpt rInt) (w1 (rOb (cTpl rInt))))) (rOpt rInt) (fun x => m_size_of x.1 x.2.1 x.2.2)) := by
  refine T.F_size_of.ok sc_size_of (fun vs H Q E h => ?_) (fun cdv A outer s H vs Q E hr h => ?_)
  · obtain ⟨B, x, b, z, sm, hw, h, kr⟩ := h
    rw [WLen.len hw]; rfl
  · obtain ⟨B, ⟨low0, high0, without0⟩, b, z, sm, hw, h, kr⟩ := h
    have h : m_size_of low0 high0 without0 = some b := h
    refine ⟨_, (pss_cons (ps_if (PW.pt (pw_or (pt_cmp (pc_isN (pv 0))) (pw_or1 (pt_cmp (pc_isN (pv 1)))))) (pss_cons (ps_ret pe_non) pss_nil) pss_nil) (pss_cons (ps_ret (pe_op op_sub (pe_op op_add (pe_op op_sub (pv 1) (pv 0)) pe_int) (pe_callB (len_seqK (K := K) rfl) (by rfl) T.b_len (by decide +kernel) (pa_cons (pv 2) pa_nil)))) pss_nil)), ?_⟩
    refine nx_go (frm_start (N := N_size_of) (n := 0) z sm hw (by rw [WLen.len hw]; rfl)) ?_
    show Nx _ _ [.imm (rOpt rInt) low0, .imm (rOpt rInt) high0, .imm (rOb (cTpl rInt)) without0]
    unfold m_size_of at h
    obtain ⟨c1, hc1, h⟩ := letO_some h
    refine (sq_if (et_to (et_or0 (et_B (ev_isN (ev_var rfl))) (et_B (ev_isN (ev_var rfl)))) hc1.symm) (fun hc => ?_) (fun hc => ?_))
    · have h := iteO_t hc h
      exact (sq_ret (ev_none (r := rInt)) h kr)
    · have h := iteO_f hc h
      refine nx_next ?_
      try dsimp only
      obtain ⟨g2, hg2, h⟩ := bindO_some h
      obtain ⟨g3, hg3, h⟩ := bindO_some h
      exact (sq_ret (ev_some nn_int (ev_sub (ev_add (ev_sub (ev_get (ev_var rfl) hg2) (ev_get (ev_var rfl) hg3)) ev_int) (ev_lenT (ev_var rfl)))) h kr)
theorem ok_Region___init (T : Txt K mg a) : FnOk P w K mg base CX0 3 a.f_Region___init a.d_Region___init ["self", "low", "high", "without"] (SpJ a.C_Region (wC (rOpt rInt) (wC (rOpt rInt) (w1 (rOb (cLst rInt))))) (cIns a.C_Region [("low" : Str), ("high" : Str), ("without" : Str), ("size" : Str), ("value" : Str), ("_gaps" : Str)] (wC (rOpt rInt) (wC (rOpt rInt) (wC (rOb (cTpl rInt)) (wC (rOpt rInt) (wC (rOpt rInt) (w1 (rOb (cDic kyInt rBool))))))))) (fun x => m_Region___init x.1 x.2.1 x.2.2)) := by
  refine funD_okN T.F_Region___init sc_Region___init (fun vs H Q E h => ?_) (fun cdv A outer s H vs Q E hr h => ?_)
  · obtain ⟨p, dx, vs', B, x, b, rfl, hp, hB, z, sm, hw, h, kr⟩ := h
    show vs'.length + 1 = _; rw [WLen.len hw]; rfl
  · obtain ⟨p, dx, vs', B, ⟨low0, high0, without0⟩, b, rfl, hp, hB, z, sm, hw, h, kr⟩ := h
    have h : m_Region___init low0 high0 without0 = some b := h
    refine ⟨_, (pss_cons (ps_asg (pe_call (ok_one_form T) (hr.mono (by decide)) rfl T.g_one_form T.F_one_form.kp T.n_one_form .nil pass0 (pa_cons (pv 1) (pa_cons (pv 2) (pa_cons (pv 3) pa_nil)))) (pg_tupK (K := K) rfl 3 rfl (pgs_cons (pg_fld (K := K) rfl (pv 0)) (pgs_cons (pg_fld (K := K) rfl (pv 0)) (pgs_cons (pg_fld (K := K) rfl (pv 0)) pgs_nil))))) (pss_cons (ps_fld (pv 0) (pe_call (ok_size_of T) (hr.mono (by decide)) rfl T.g_size_of T.F_size_of.kp T.n_size_of .nil pass0 (pa_cons (fldK (K := K) rfl (pv 0) rfl) (pa_cons (fldK (K := K) rfl (pv 0) rfl) (pa_cons (fldK (K := K) rfl (pv 0) rfl) pa_nil)))) rfl) (pss_cons (ps_fld (pv 0) (pe_ifExp (pt_cmpR op_eq (fldK (K := K) rfl (pv 0) rfl) pe_int (nomark _)) (fldK (K := K) rfl (pv 0) rfl) pe_non) rfl) (pss_cons (ps_fld (pv 0) (pe_dc (own := [("number", 4)]) rfl sc_Region___init.nd (pi_tup (fldK (K := K) rfl (pv 0) rfl)) (blkOk_by (N := N_Region___init) (sc := defScope s_Region___init) (by decide +kernel)) (fun _ _ _ _ _ => (pg_name (i := 4) sc_Region___init.nd rfl (by first | exact Or.inl rfl | exact Or.inr rfl))) (fun _ _ _ _ _ => pts_nil) (fun _ _ _ _ _ => (pv 4)) (fun _ _ _ _ _ => pe_bl)) rfl) pss_nil)))), ?_⟩
    refine nx_go (frm_startS (cc := cIns a.C_Region [] w0) (st := ()) (o := .ins a.C_Region dx []) (N := N_Region___init) (n := 1) z sm hB hp ⟨dx, [], rfl, rfl, rfl⟩ hw (by rw [WLen.len hw]; rfl)) ?_
    show Nx _ _ [.cel p (cIns a.C_Region [] w0) (), .imm (rOpt rInt) low0, .imm (rOpt rInt) high0, .imm (rOb (cLst rInt)) without0, .no]
    unfold m_Region___init at h
    obtain ⟨v1, hv1, h⟩ := bindO_some h
    obtain ⟨u2, hu2, h⟩ := letO_some h
    refine (sq_asgH (ev_to (ev_call (ew_C (ev_var rfl) (ew_C (ev_var rfl) (ew_1 (ev_var rfl)))) hv1) hu2.symm) (th_tup (th_C (th_fld (i := 0) rfl snoc0 (by decide +kernel) (by decide) T.cl_Region T.na_Region_low) (fun _ => (th_C (th_fld (i := 0) rfl snoc1 (by decide +kernel) (by decide) T.cl_Region T.na_Region_high) (fun _ => (th_1 (th_fld (i := 0) rfl (snocC snoc1) (by decide +kernel) (by decide) T.cl_Region T.na_Region_without))))))) ?_)
    show Nx _ _ [.cel p (cIns a.C_Region [("low" : Str), ("high" : Str), ("without" : Str)] (wC (rOpt rInt) (wC (rOpt rInt) (w1 (rOb (cTpl rInt)))))) (u2.1, u2.2.1, u2.2.2), .imm (rOpt rInt) low0, .imm (rOpt rInt) high0, .imm (rOb (cLst rInt)) without0, .no]
    obtain ⟨v3, hv3, h⟩ := bindO_some h
    obtain ⟨size4, hsize4, h⟩ := letO_some h
    refine (sq_fld (i := 0) (ev_to (ev_call (ew_C (ev_celFld rfl (acc0) rfl (by decide +kernel) T.cl_Region T.na_Region_low) (ew_C (ev_celFld rfl (accS (acc0)) rfl (by decide +kernel) T.cl_Region T.na_Region_high) (ew_1 (ev_celFld rfl (accS (accS (acc1))) rfl (by decide +kernel) T.cl_Region T.na_Region_without)))) hv3) hsize4.symm) rfl (snocC (snocC snoc1)) (by decide +kernel) (by decide) T.cl_Region T.na_Region_size ?_)
    show Nx _ _ [.cel p (cIns a.C_Region [("low" : Str), ("high" : Str), ("without" : Str), ("size" : Str)] (wC (rOpt rInt) (wC (rOpt rInt) (wC (rOb (cTpl rInt)) (w1 (rOpt rInt)))))) (u2.1, u2.2.1, u2.2.2, size4), .imm (rOpt rInt) low0, .imm (rOpt rInt) high0, .imm (rOb (cLst rInt)) without0, .no]
    obtain ⟨c6, hc6, h⟩ := letO_some h
    obtain ⟨i5, hi5, h⟩ := bindO_some h
    obtain ⟨value7, hvalue7, h⟩ := letO_some h
    refine (sq_fld (i := 0) (ev_to (ev_if (et_to (et_T (ev_eqS scOI (ev_celFld rfl (accS (accS (accS (acc1)))) rfl (by decide +kernel) T.cl_Region T.na_Region_size) (ev_some nn_int ev_int) (sc_oi _ _))) hc6.symm) (fun hc => by have hx := iteO_t hc hi5; exact ev_to (ev_celFld rfl (acc0) rfl (by decide +kernel) T.cl_Region T.na_Region_low) (Option.some.inj hx)) (fun hc => by have hx := iteO_f hc hi5; exact ev_to (ev_none (r := rInt)) (Option.some.inj hx))) hvalue7.symm) rfl (snocC (snocC (snocC snoc1))) (by decide +kernel) (by decide) T.cl_Region T.na_Region_value ?_)
    show Nx _ _ [.cel p (cIns a.C_Region [("low" : Str), ("high" : Str), ("without" : Str), ("size" : Str), ("value" : Str)] (wC (rOpt rInt) (wC (rOpt rInt) (wC (rOb (cTpl rInt)) (wC (rOpt rInt) (w1 (rOpt rInt))))))) (u2.1, u2.2.1, u2.2.2, size4, value7), .imm (rOpt rInt) low0, .imm (rOpt rInt) high0, .imm (rOb (cLst rInt)) without0, .no]
    obtain ⟨d9, hd9, h⟩ := bindO_some h
    obtain ⟨gaps10, hgaps10, h⟩ := letO_some h
    refine (sq_fld (i := 0) (ev_to (ev_new (ec_dc kyInt (m_Region___init_c1) (it_tpl (ev_celFld rfl (accS (accS (acc0))) rfl (by decide +kernel) T.cl_Region T.na_Region_without)) hd9 tg_name (fun k hk => hk) (by rfl) (fun _ => by rfl) (fun number8 o ho => by unfold m_Region___init_c1 at ho; cases ho; exact ⟨et_yes, fun y hy => by cases hy; exact ⟨(ev_var rfl), ev_bl⟩⟩))) hgaps10.symm) rfl (snocC (snocC (snocC (snocC snoc1)))) (by decide +kernel) (by decide) T.cl_Region T.na_Region__gaps ?_)
    show Nx _ _ [.cel p (cIns a.C_Region [("low" : Str), ("high" : Str), ("without" : Str), ("size" : Str), ("value" : Str), ("_gaps" : Str)] (wC (rOpt rInt) (wC (rOpt rInt) (wC (rOb (cTpl rInt)) (wC (rOpt rInt) (wC (rOpt rInt) (w1 (rOb (cDic kyInt rBool))))))))) (u2.1, u2.2.1, u2.2.2, size4, value7, gaps10), .imm (rOpt rInt) low0, .imm (rOpt rInt) high0, .imm (rOb (cLst rInt)) without0, .no]
    obtain rfl := Option.some.inj h
    exact nx_next (fun σ H B F => kr _ _ F.post (cel_at (i := 0) F rfl).2)
theorem ok_Region___contains (T : Txt K mg a) : FnOk P w K mg base CX0 2 a.f_Region___contains a.d_Region___contains ["self", "x"] (SpP (wC (rIns a.C_Region [("low" : Str), ("high" : Str), ("without" : Str), ("size" : Str), ("value" : Str), ("_gaps" : Str)] (wC (rOpt rInt) (wC (rOpt rInt) (wC (rOb (cTpl rInt)) (wC (rOpt rInt) (wC (rOpt rInt) (w1 (rOb (cDic kyInt rBool))))))))) (w1 rInt)) rBool (fun x => m_Region___contains x.1 x.2)) := by
  refine T.F_Region___contains.ok sc_Region___contains (fun vs H Q E h => ?_) (fun cdv A outer s H vs Q E hr h => ?_)
  · obtain ⟨B, x, b, z, sm, hw, h, kr⟩ := h
    rw [WLen.len hw]; rfl
  · obtain ⟨B, ⟨self0, x0⟩, b, z, sm, hw, h, kr⟩ := h
    have h : m_Region___contains self0 x0 = some b := h
    refine ⟨_, (pss_cons (ps_ret (pe_and (pe_call (ok_between T) (hr.mono (by decide)) rfl T.g_between T.F_between.kp T.n_between .nil pass0 (pa_cons (fldK (K := K) rfl (pv 0) rfl) (pa_cons (fldK (K := K) rfl (pv 0) rfl) (pa_cons (pv 1) pa_nil)))) (pe_one (pe_cmp (pc_dnotin hr.units1 (pv 1) (fldK (K := K) rfl (pv 0) rfl)) rfl)))) pss_nil), ?_⟩
    refine nx_go (frm_start (N := N_Region___contains) (n := 0) z sm hw (by rw [WLen.len hw]; rfl)) ?_
    show Nx _ _ [.imm (rIns a.C_Region [("low" : Str), ("high" : Str), ("without" : Str), ("size" : Str), ("value" : Str), ("_gaps" : Str)] (wC (rOpt rInt) (wC (rOpt rInt) (wC (rOb (cTpl rInt)) (wC (rOpt rInt) (wC (rOpt rInt) (w1 (rOb (cDic kyInt rBool))))))))) self0, .imm rInt x0]
    unfold m_Region___contains at h
    obtain ⟨v1, hv1, h⟩ := bindO_some h
    exact (sq_ret (ev_and0 (ev_call (ew_C (ev_fld (ev_var rfl) (acc0) rfl (by decide +kernel) T.cl_Region T.na_Region_low) (ew_C (ev_fld (ev_var rfl) (accS (acc0)) rfl (by decide +kernel) T.cl_Region T.na_Region_high) (ew_1 (ev_var rfl)))) hv1) (ev_dnin kyInt (ev_var rfl) (ev_fld (ev_var rfl) (accS (accS (accS (accS (accS (acc1)))))) rfl (by decide +kernel) T.cl_Region T.na_Region__gaps))) h kr)
theorem ok_Region__start (T : Txt K mg a) : FnOk P w K mg base CX0 1 a.f_Region__start a.d_Region__start ["self"] (SpP (w1 (rIns a.C_Region [("low" : Str), ("high" : Str), ("without" : Str), ("size" : Str), ("value" : Str), ("_gaps" : Str)] (wC (rOpt rInt) (wC (rOpt rInt) (wC (rOb (cTpl rInt)) (wC (rOpt rInt) (wC (rOpt rInt) (w1 (rOb (cDic kyInt rBool)))))))))) (rOb (cTup (wC rInt (w1 rInt)))) (fun x => m_Region__start x)) := by
  refine T.F_Region__start.ok sc_Region__start (fun vs H Q E h => ?_) (fun cdv A outer s H vs Q E hr h => ?_)
  · obtain ⟨B, x, b, z, sm, hw, h, kr⟩ := h
    rw [WLen.len hw]; rfl
  · obtain ⟨B, self0, b, z, sm, hw, h, kr⟩ := h
    have h : m_Region__start self0 = some b := h
    refine ⟨_, (pss_cons (ps_if (pt_cmp (pc_notN (fldK (K := K) rfl (pv 0) rfl))) (pss_cons (ps_ret (pe_tup (pa_cons (fldK (K := K) rfl (pv 0) rfl) (pa_cons pe_int pa_nil)))) pss_nil) pss_nil) (pss_cons (ps_if (pt_cmp (pc_notN (fldK (K := K) rfl (pv 0) rfl))) (pss_cons (ps_ret (pe_tup (pa_cons (fldK (K := K) rfl (pv 0) rfl) (pa_cons (pe_un un_neg pe_int) pa_nil)))) pss_nil) pss_nil) (pss_cons (ps_ret (pe_tup (pa_cons pe_int (pa_cons pe_int pa_nil)))) pss_nil))), ?_⟩
    refine nx_go (frm_start (N := N_Region__start) (n := 0) z sm hw (by rw [WLen.len hw]; rfl)) ?_
    show Nx _ _ [.imm (rIns a.C_Region [("low" : Str), ("high" : Str), ("without" : Str), ("size" : Str), ("value" : Str), ("_gaps" : Str)] (wC (rOpt rInt) (wC (rOpt rInt) (wC (rOb (cTpl rInt)) (wC (rOpt rInt) (wC (rOpt rInt) (w1 (rOb (cDic kyInt rBool))))))))) self0]
    unfold m_Region__start at h
    obtain ⟨c1, hc1, h⟩ := letO_some h
    refine (sq_if (et_to (et_B (ev_notN (ev_fld (ev_var rfl) (acc0) rfl (by decide +kernel) T.cl_Region T.na_Region_low))) hc1.symm) (fun hc => ?_) (fun hc => ?_))
    · have h := iteO_t hc h
      obtain ⟨g2, hg2, h⟩ := bindO_some h
      exact (sq_ret (ev_new (ec_tup (ew_C (ev_get (ev_fld (ev_var rfl) (acc0) rfl (by decide +kernel) T.cl_Region T.na_Region_low) hg2) (ew_1 ev_int)))) h kr)
    · have h := iteO_f hc h
      refine nx_next ?_
      try dsimp only
      obtain ⟨c3, hc3, h⟩ := letO_some h
      refine (sq_if (et_to (et_B (ev_notN (ev_fld (ev_var rfl) (accS (acc0)) rfl (by decide +kernel) T.cl_Region T.na_Region_high))) hc3.symm) (fun hc => ?_) (fun hc => ?_))
      · have h := iteO_t hc h
        obtain ⟨g4, hg4, h⟩ := bindO_some h
        exact (sq_ret (ev_new (ec_tup (ew_C (ev_get (ev_fld (ev_var rfl) (accS (acc0)) rfl (by decide +kernel) T.cl_Region T.na_Region_high) hg4) (ew_1 (ev_neg ev_int))))) h kr)
      · have h := iteO_f hc h
        refine nx_next ?_
        try dsimp only
        exact (sq_ret (ev_new (ec_tup (ew_C ev_int (ew_1 ev_int)))) h kr)
theorem ok_Region_members (T : Txt K mg a) : FnOk P w K mg base (L2.CX P w) 3 a.f_Region_members a.d_Region_members ["self", "count", "apart"] (SpXC (erC a.C_TooFew [("count" : Str)] (w1 rInt)) (wC (rIns a.C_Region [("low" : Str), ("high" : Str), ("without" : Str), ("size" : Str), ("value" : Str), ("_gaps" : Str)] (wC (rOpt rInt) (wC (rOpt rInt) (wC (rOb (cTpl rInt)) (wC (rOpt rInt) (wC (rOpt rInt) (w1 (rOb (cDic kyInt rBool))))))))) (wC rInt (w1 (rOb (cLst rInt))))) (cLst rInt) (fun x => m_Region_members x.1 x.2.1 x.2.2)) := by
  refine FunD.ok (CX := L2.CX P w) T.F_Region_members sc_Region_members (fun vs H Q E h => ?_) (fun cdv A outer s H vs Q E hr h => ?_)
  · obtain ⟨B, x, b, z, sm, hw, h, kr, ke⟩ := h
    rw [WLen.len hw]; rfl
  · obtain ⟨B, ⟨self0, count0, apart0⟩, b, z, sm, hw, h, kr, ke⟩ := h
    have h : m_Region_members self0 count0 apart0 = some b := h
    refine ⟨_, (pss_cons (ps_setDcF (P := P) (w := w) rfl rfl (i := 3) (own := [("number", 5)]) rfl sc_Region_members.nd rfl rfl (sw_trueD rfl rfl rfl (by decide +kernel)) (pi_list (pv 2)) (blkOk_by (N := N_Region_members) (sc := defScope s_Region_members) (by decide +kernel)) (fun _ _ _ _ _ => (pg_name (i := 5) sc_Region_members.nd rfl (by first | exact Or.inl rfl | exact Or.inr rfl))) (fun _ _ _ _ _ => pts_nil) (fun _ _ _ _ _ => (pv 5)) (fun _ _ _ _ _ => pe_bl)) (pss_cons (ps_setLc (i := 4) (own := [("number", 5)]) rfl sc_Region_members.nd rfl rfl (sw_true rfl rfl rfl (by decide +kernel)) (keysFK (P := P) (w := w) rfl rfl (pv 3)) (blkOk_by (N := N_Region_members) (sc := defScope s_Region_members) (by decide +kernel)) (fun _ _ _ _ _ => (pg_name (i := 5) sc_Region_members.nd rfl (by first | exact Or.inl rfl | exact Or.inr rfl))) (fun _ _ _ _ _ => (pts_one (pt_cmpR (inOK (P := P) (w := w) (K := K) (mg := mg) (base := base) rfl rfl rfl rfl rfl T.me_Region___contains (ok_Region___contains T) (hr.mono (Nat.le_of_ble_eq_true rfl)) T.n_Region___contains pass0) (pv 5) (pv 0) rfl))) (fun _ _ _ _ _ => (pv 5))) (pss_cons (ps_if (PW.pt (pw_and (pt_cmp (pc_notN (fldK (K := K) rfl (pv 0) rfl))) (pw_and1 (pt_cmpR op_lt (pe_op op_sub (fldK (K := K) rfl (pv 0) rfl) (pe_callB (len_seqK (K := K) rfl) (by rfl) T.b_len (by decide +kernel) (pa_cons (pv 4) pa_nil))) (pv 1) (nomark _))))) (pss_cons (ps_raise rfl (takes_of rfl rfl rfl rfl) (pmk_oex T.x_TooFew T.i_TooFew T.t_TooFew (ok_e_TooFew T) (hr.mono (by decide)) T.n_e_TooFew .nil pass0 rfl T.g_TooFew (pa_cons (pv 1) pa_nil))) pss_nil) pss_nil) (pss_cons (ps_asg (pe_meth0 (pv 0) T.cl_Region T.me_Region__start (ok_Region__start T) (hr.mono (by decide)) T.n_Region__start .nil pass0) (pg_tupK (K := K) rfl 2 rfl (pgs_cons (pg_name (i := 5) sc_Region_members.nd rfl (by first | exact Or.inl rfl | exact Or.inr rfl)) (pgs_cons (pg_name (i := 6) sc_Region_members.nd rfl (by first | exact Or.inl rfl | exact Or.inr rfl)) pgs_nil)))) (pss_cons (ps_set (i := 7) sc_Region_members.nd rfl (by first | exact Or.inl rfl | exact Or.inr rfl) (pe_lst pa_nil)) (pss_cons (ps_while (passes_of rfl) (pt_cmpR op_lt (pe_callB (len_seqK (K := K) rfl) (by rfl) T.b_len (by decide +kernel) (pa_cons (pv 7) pa_nil)) (pv 1) (nomark _)) (Evl.pss_cut (ps_if (PW.pt (pw_and (pt_cmpR (inOK (P := P) (w := w) (K := K) (mg := mg) (base := base) rfl rfl rfl rfl rfl T.me_Region___contains (ok_Region___contains T) (hr.mono (Nat.le_of_ble_eq_true rfl)) T.n_Region___contains pass0) (pv 5) (pv 0) rfl) (pw_and1 (pt_cmp (fnotinK (P := P) (w := w) rfl rfl (pv 5) (pv 3)))))) (pss_cons (ps_expr (pe_bm PySem.F.plainAttrs_list PySem.F.slot_list_append PySem.F.type_list_append mt_append (pv 7) (pa_cons (pv 5) pa_nil))) pss_nil) pss_nil) (pss_cons (ps_set (i := 5) sc_Region_members.nd rfl (by first | exact Or.inl rfl | exact Or.inr rfl) (pe_op op_add (pv 5) (pv 6))) pss_nil))) (pss_cons (ps_ret (pe_callB (sortIK (K := K) rfl) (by rfl) T.b_sorted (by decide +kernel) (pa_cons (pv 7) pa_nil))) pss_nil))))))), ?_⟩
    refine nx_go (frm_start (N := N_Region_members) (n := 5) z sm hw (by rw [WLen.len hw]; rfl)) ?_
    show Nx _ _ [.imm (rIns a.C_Region [("low" : Str), ("high" : Str), ("without" : Str), ("size" : Str), ("value" : Str), ("_gaps" : Str)] (wC (rOpt rInt) (wC (rOpt rInt) (wC (rOb (cTpl rInt)) (wC (rOpt rInt) (wC (rOpt rInt) (w1 (rOb (cDic kyInt rBool))))))))) self0, .imm rInt count0, .imm (rOb (cLst rInt)) apart0, .no, .no, .no, .no, .no]
    unfold m_Region_members at h
    obtain ⟨d2, hd2, h⟩ := bindO_some h
    obtain ⟨barred3, hbarred3, h⟩ := letO_some h
    refine (sq_asg (ev_to (ev_newD (ed_exF kyInt (ec_dc kyInt (m_Region_members_c1) (it_list (ev_var rfl)) hd2 tg_name (fun k hk => hk) (by rfl) (fun _ => by rfl) (fun number1 o ho => by unfold m_Region_members_c1 at ho; cases ho; exact ⟨et_yes, fun y hy => by cases hy; exact ⟨(ev_var rfl), ev_bl⟩⟩)))) hbarred3.symm) ?_)
    show Nx _ _ [.imm (rIns a.C_Region [("low" : Str), ("high" : Str), ("without" : Str), ("size" : Str), ("value" : Str), ("_gaps" : Str)] (wC (rOpt rInt) (wC (rOpt rInt) (wC (rOb (cTpl rInt)) (wC (rOpt rInt) (wC (rOpt rInt) (w1 (rOb (cDic kyInt rBool))))))))) self0, .imm rInt count0, .imm (rOb (cLst rInt)) apart0, .imm (rDicF P w kyInt rBool) barred3, .no, .no, .no, .no]
    obtain ⟨l4, hl4, h⟩ := bindO_some h
    obtain ⟨l8, hl8, h⟩ := bindO_some h
    obtain ⟨lost9, hlost9, h⟩ := letO_some h
    refine (sq_asg (ev_to (ev_new (ec_lc (m_Region_members_c2 self0) (it_keysF kyInt (ev_var rfl) hl4) hl8 tg_name (fun k hk => hk) (by rfl) (fun _ => by rfl) (fun number5 o ho => by unfold m_Region_members_c2 at ho; obtain ⟨n6, hn6, ho⟩ := bindO_some ho; obtain ⟨c7, hc7, ho⟩ := letO_some ho; cases c7 with | true => (have ho : (some (some number5)) = some o := ho; cases ho; exact ⟨et_to (et_T (ev_inO (ev_var rfl) (ev_var rfl) hn6)) hc7.symm, fun y hy => by cases hy; exact ev_to (ev_var rfl) rfl⟩) | false => (have ho : some none = some o := ho; cases ho; exact ⟨et_to (et_T (ev_inO (ev_var rfl) (ev_var rfl) hn6)) hc7.symm, fun y hy => by cases hy⟩)))) hlost9.symm) ?_)
    show Nx _ _ [.imm (rIns a.C_Region [("low" : Str), ("high" : Str), ("without" : Str), ("size" : Str), ("value" : Str), ("_gaps" : Str)] (wC (rOpt rInt) (wC (rOpt rInt) (wC (rOb (cTpl rInt)) (wC (rOpt rInt) (wC (rOpt rInt) (w1 (rOb (cDic kyInt rBool))))))))) self0, .imm rInt count0, .imm (rOb (cLst rInt)) apart0, .imm (rDicF P w kyInt rBool) barred3, .imm (rOb (cLst rInt)) lost9, .no, .no, .no]
    obtain ⟨c12, hc12, h⟩ := letO_some h
    obtain ⟨b11, hb11, h⟩ := bindO_some h
    obtain ⟨c13, hc13, h⟩ := letO_some h
    refine (sq_if (et_to (et_and (et_to (et_B (ev_notN (ev_fld (ev_var rfl) (accS (accS (accS (acc0)))) rfl (by decide +kernel) T.cl_Region T.na_Region_size))) hc12.symm) (fun hc => by have hx := iteO_t hc hb11; obtain ⟨g10, hg10, hx⟩ := bindO_some hx; exact et_to (et_T (ev_lt (ev_sub (ev_get (ev_fld (ev_var rfl) (accS (accS (accS (acc0)))) rfl (by decide +kernel) T.cl_Region T.na_Region_size) hg10) (ev_lenL (ev_var rfl))) (ev_var rfl))) (Option.some.inj hx)) (fun hc => ⟨(Option.some.inj (iteO_f hc hb11)).symm, rfl⟩)) hc13.symm) (fun hc => ?_) (fun hc => ?_))
    · have h := iteO_t hc h
      obtain rfl := Option.some.inj h
      exact (sq_raise1 (ev_var rfl) (ke _ rfl) (fun _ _ _ q => q) (fun _ _ _ _ q => q))
    · have h := iteO_f hc h
      refine nx_next ?_
      try dsimp only
      obtain ⟨v14, hv14, h⟩ := bindO_some h
      obtain ⟨u15, hu15, h⟩ := letO_some h
      refine (sq_asgT (ev_to (ev_meth0 (ev_var rfl) hv14 (by decide +kernel)) hu15.symm) (tg_tup (tw_C tg_name (fun _ => (tw_1 tg_name)))) ?_)
      show Nx _ _ [.imm (rIns a.C_Region [("low" : Str), ("high" : Str), ("without" : Str), ("size" : Str), ("value" : Str), ("_gaps" : Str)] (wC (rOpt rInt) (wC (rOpt rInt) (wC (rOb (cTpl rInt)) (wC (rOpt rInt) (wC (rOpt rInt) (w1 (rOb (cDic kyInt rBool))))))))) self0, .imm rInt count0, .imm (rOb (cLst rInt)) apart0, .imm (rDicF P w kyInt rBool) barred3, .imm (rOb (cLst rInt)) lost9, .imm rInt u15.1, .imm rInt u15.2, .no]
      obtain ⟨found16, hfound16, h⟩ := letO_some h
      refine (sq_asgC (c := (cLst rInt)) (ec_to (ec_lst eh_0 (Nat.le_of_ble_eq_true rfl)) hfound16.symm) (fun a_found16 na_found16 => ?_))
      show Nx _ _ [.imm (rIns a.C_Region [("low" : Str), ("high" : Str), ("without" : Str), ("size" : Str), ("value" : Str), ("_gaps" : Str)] (wC (rOpt rInt) (wC (rOpt rInt) (wC (rOb (cTpl rInt)) (wC (rOpt rInt) (wC (rOpt rInt) (w1 (rOb (cDic kyInt rBool))))))))) self0, .imm rInt count0, .imm (rOb (cLst rInt)) apart0, .imm (rDicF P w kyInt rBool) barred3, .imm (rOb (cLst rInt)) lost9, .imm rInt u15.1, .imm rInt u15.2, .cel a_found16 (cLst rInt) found16]
      obtain ⟨R23, hR23, h⟩ := bindO_some h
      refine (sq_while (ψ := (fun _ _ _ _ => False)) (m_Region_members_w1 count0) (m_Region_members_b1 self0 barred3 u15) (fun z => [.imm (rIns a.C_Region [("low" : Str), ("high" : Str), ("without" : Str), ("size" : Str), ("value" : Str), ("_gaps" : Str)] (wC (rOpt rInt) (wC (rOpt rInt) (wC (rOb (cTpl rInt)) (wC (rOpt rInt) (wC (rOpt rInt) (w1 (rOb (cDic kyInt rBool))))))))) self0, .imm rInt count0, .imm (rOb (cLst rInt)) apart0, .imm (rDicF P w kyInt rBool) barred3, .imm (rOb (cLst rInt)) lost9, .imm rInt z.1, .imm rInt u15.2, .cel a_found16 (cLst rInt) z.2]) hR23 ?_ (fun s17 b hc => ?_) (fun D1 s17 st h k1 => ?_) ?_ ?_)
      · exact nx_fin
      · have h : m_Region_members_w1 count0 s17 = some b := hc
        unfold m_Region_members_w1 at h
        exact et_to (et_T (ev_lt (ev_lenCel rfl) (ev_var rfl))) (Option.some.inj h)
      · show Nx _ _ [.imm (rIns a.C_Region [("low" : Str), ("high" : Str), ("without" : Str), ("size" : Str), ("value" : Str), ("_gaps" : Str)] (wC (rOpt rInt) (wC (rOpt rInt) (wC (rOb (cTpl rInt)) (wC (rOpt rInt) (wC (rOpt rInt) (w1 (rOb (cDic kyInt rBool))))))))) self0, .imm rInt count0, .imm (rOb (cLst rInt)) apart0, .imm (rDicF P w kyInt rBool) barred3, .imm (rOb (cLst rInt)) lost9, .imm rInt s17.1, .imm rInt u15.2, .cel a_found16 (cLst rInt) s17.2]
        unfold m_Region_members_b1 at h
        obtain ⟨n18, hn18, h⟩ := bindO_some h
        obtain ⟨c19, hc19, h⟩ := letO_some h
        obtain ⟨j20, hj20, h2⟩ := bindO_some h
        have h := hj20
        refine nx_cut [.imm (rIns a.C_Region [("low" : Str), ("high" : Str), ("without" : Str), ("size" : Str), ("value" : Str), ("_gaps" : Str)] (wC (rOpt rInt) (wC (rOpt rInt) (wC (rOb (cTpl rInt)) (wC (rOpt rInt) (wC (rOpt rInt) (w1 (rOb (cDic kyInt rBool))))))))) self0, .imm rInt count0, .imm (rOb (cLst rInt)) apart0, .imm (rDicF P w kyInt rBool) barred3, .imm (rOb (cLst rInt)) lost9, .imm rInt s17.1, .imm rInt u15.2, .cel a_found16 (cLst rInt) j20] (nx_if (et_to (et_and0 (et_T (ev_inO (ev_var rfl) (ev_var rfl) hn18)) (et_B (ev_fnin kyInt (ev_var rfl) (ev_var rfl)))) hc19.symm) (fun hc => ?_) (fun hc => ?_)) ?_
        · clear h2 hj20
          have h := iteO_t hc h
          obtain ⟨found21, hfound21, h⟩ := bindO_some h
          refine (sq_app (ev_var rfl) rfl rfl hfound21 ?_)
          show Nx _ _ [.imm (rIns a.C_Region [("low" : Str), ("high" : Str), ("without" : Str), ("size" : Str), ("value" : Str), ("_gaps" : Str)] (wC (rOpt rInt) (wC (rOpt rInt) (wC (rOb (cTpl rInt)) (wC (rOpt rInt) (wC (rOpt rInt) (w1 (rOb (cDic kyInt rBool))))))))) self0, .imm rInt count0, .imm (rOb (cLst rInt)) apart0, .imm (rDicF P w kyInt rBool) barred3, .imm (rOb (cLst rInt)) lost9, .imm rInt s17.1, .imm rInt u15.2, .cel a_found16 (cLst rInt) found21]
          obtain rfl := Option.some.inj h
          exact nx_fin
        · clear h2 hj20
          have h := iteO_f hc h
          obtain rfl := Option.some.inj h
          exact nx_fin
        · clear h
          have h := h2
          obtain ⟨number22, hnumber22, h⟩ := letO_some h
          refine (sq_asg (ev_to (ev_add (ev_var rfl) (ev_var rfl)) hnumber22.symm) ?_)
          show Nx _ _ [.imm (rIns a.C_Region [("low" : Str), ("high" : Str), ("without" : Str), ("size" : Str), ("value" : Str), ("_gaps" : Str)] (wC (rOpt rInt) (wC (rOpt rInt) (wC (rOb (cTpl rInt)) (wC (rOpt rInt) (wC (rOpt rInt) (w1 (rOb (cDic kyInt rBool))))))))) self0, .imm rInt count0, .imm (rOb (cLst rInt)) apart0, .imm (rDicF P w kyInt rBool) barred3, .imm (rOb (cLst rInt)) lost9, .imm rInt number22, .imm rInt u15.2, .cel a_found16 (cLst rInt) j20]
          refine nx_next ?_
          exact k1.nx _ (Option.some.inj h).symm
      · intro b e
        subst e
        exact fun _ _ _ _ z => z.elim
      · intro e24 e
        subst e
        have h := stepO_nx h
        show Nx _ _ [.imm (rIns a.C_Region [("low" : Str), ("high" : Str), ("without" : Str), ("size" : Str), ("value" : Str), ("_gaps" : Str)] (wC (rOpt rInt) (wC (rOpt rInt) (wC (rOb (cTpl rInt)) (wC (rOpt rInt) (wC (rOpt rInt) (w1 (rOb (cDic kyInt rBool))))))))) self0, .imm rInt count0, .imm (rOb (cLst rInt)) apart0, .imm (rDicF P w kyInt rBool) barred3, .imm (rOb (cLst rInt)) lost9, .imm rInt e24.1, .imm rInt u15.2, .cel a_found16 (cLst rInt) e24.2]
        obtain rfl := Option.some.inj h
        exact (sq_retC (ec_frz (i := 7) rfl (ec_sortI (ev_var rfl))) rfl (kr _ rfl))
theorem ok_Region_members_Vk (T : Txt K mg a) : FnOk P w K mg base (L2.CX P w) 3 a.f_Region_members a.d_Region_members ["self", "count", "apart"] (SpXC (erC a.C_TooFew [("count" : Str)] (w1 rInt)) (wC (rIns a.C_Region [("low" : Str), ("high" : Str), ("without" : Str), ("size" : Str), ("value" : Str), ("_gaps" : Str)] (wC (rOpt rInt) (wC (rOpt rInt) (wC (rOb (cTpl rInt)) (wC (rOpt rInt) (wC (rOpt rInt) (w1 (rOb (cDic kyInt rBool))))))))) (wC rInt (w1 (rTK K rInt)))) (cLst rInt) (fun x => m_Region_members_Vk x.1 x.2.1 x.2.2)) := by
  refine FunD.ok (CX := L2.CX P w) T.F_Region_members sc_Region_members (fun vs H Q E h => ?_) (fun cdv A outer s H vs Q E hr h => ?_)
  · obtain ⟨B, x, b, z, sm, hw, h, kr, ke⟩ := h
    rw [WLen.len hw]; rfl
  · obtain ⟨B, ⟨self0, count0, apart0⟩, b, z, sm, hw, h, kr, ke⟩ := h
    have h : m_Region_members_Vk self0 count0 apart0 = some b := h
    refine ⟨_, (pss_cons (ps_setDcF (P := P) (w := w) rfl rfl (i := 3) (own := [("number", 5)]) rfl sc_Region_members.nd rfl rfl (sw_trueD rfl rfl rfl (by decide +kernel)) (pi_tup (pv 2)) (blkOk_by (N := N_Region_members) (sc := defScope s_Region_members) (by decide +kernel)) (fun _ _ _ _ _ => (pg_name (i := 5) sc_Region_members.nd rfl (by first | exact Or.inl rfl | exact Or.inr rfl))) (fun _ _ _ _ _ => pts_nil) (fun _ _ _ _ _ => (pv 5)) (fun _ _ _ _ _ => pe_bl)) (pss_cons (ps_setLc (i := 4) (own := [("number", 5)]) rfl sc_Region_members.nd rfl rfl (sw_true rfl rfl rfl (by decide +kernel)) (keysFK (P := P) (w := w) rfl rfl (pv 3)) (blkOk_by (N := N_Region_members) (sc := defScope s_Region_members) (by decide +kernel)) (fun _ _ _ _ _ => (pg_name (i := 5) sc_Region_members.nd rfl (by first | exact Or.inl rfl | exact Or.inr rfl))) (fun _ _ _ _ _ => (pts_one (pt_cmpR (inOK (P := P) (w := w) (K := K) (mg := mg) (base := base) rfl rfl rfl rfl rfl T.me_Region___contains (ok_Region___contains T) (hr.mono (Nat.le_of_ble_eq_true rfl)) T.n_Region___contains pass0) (pv 5) (pv 0) rfl))) (fun _ _ _ _ _ => (pv 5))) (pss_cons (ps_if (PW.pt (pw_and (pt_cmp (pc_notN (fldK (K := K) rfl (pv 0) rfl))) (pw_and1 (pt_cmpR op_lt (pe_op op_sub (fldK (K := K) rfl (pv 0) rfl) (pe_callB (len_seqK (K := K) rfl) (by rfl) T.b_len (by decide +kernel) (pa_cons (pv 4) pa_nil))) (pv 1) (nomark _))))) (pss_cons (ps_raise rfl (takes_of rfl rfl rfl rfl) (pmk_oex T.x_TooFew T.i_TooFew T.t_TooFew (ok_e_TooFew T) (hr.mono (by decide)) T.n_e_TooFew .nil pass0 rfl T.g_TooFew (pa_cons (pv 1) pa_nil))) pss_nil) pss_nil) (pss_cons (ps_asg (pe_meth0 (pv 0) T.cl_Region T.me_Region__start (ok_Region__start T) (hr.mono (by decide)) T.n_Region__start .nil pass0) (pg_tupK (K := K) rfl 2 rfl (pgs_cons (pg_name (i := 5) sc_Region_members.nd rfl (by first | exact Or.inl rfl | exact Or.inr rfl)) (pgs_cons (pg_name (i := 6) sc_Region_members.nd rfl (by first | exact Or.inl rfl | exact Or.inr rfl)) pgs_nil)))) (pss_cons (ps_set (i := 7) sc_Region_members.nd rfl (by first | exact Or.inl rfl | exact Or.inr rfl) (pe_lst pa_nil)) (pss_cons (ps_while (passes_of rfl) (pt_cmpR op_lt (pe_callB (len_seqK (K := K) rfl) (by rfl) T.b_len (by decide +kernel) (pa_cons (pv 7) pa_nil)) (pv 1) (nomark _)) (Evl.pss_cut (ps_if (PW.pt (pw_and (pt_cmpR (inOK (P := P) (w := w) (K := K) (mg := mg) (base := base) rfl rfl rfl rfl rfl T.me_Region___contains (ok_Region___contains T) (hr.mono (Nat.le_of_ble_eq_true rfl)) T.n_Region___contains pass0) (pv 5) (pv 0) rfl) (pw_and1 (pt_cmp (fnotinK (P := P) (w := w) rfl rfl (pv 5) (pv 3)))))) (pss_cons (ps_expr (pe_bm PySem.F.plainAttrs_list PySem.F.slot_list_append PySem.F.type_list_append mt_append (pv 7) (pa_cons (pv 5) pa_nil))) pss_nil) pss_nil) (pss_cons (ps_set (i := 5) sc_Region_members.nd rfl (by first | exact Or.inl rfl | exact Or.inr rfl) (pe_op op_add (pv 5) (pv 6))) pss_nil))) (pss_cons (ps_ret (pe_callB (sortIK (K := K) rfl) (by rfl) T.b_sorted (by decide +kernel) (pa_cons (pv 7) pa_nil))) pss_nil))))))), ?_⟩
    refine nx_go (frm_start (N := N_Region_members) (n := 5) z sm hw (by rw [WLen.len hw]; rfl)) ?_
    show Nx _ _ [.imm (rIns a.C_Region [("low" : Str), ("high" : Str), ("without" : Str), ("size" : Str), ("value" : Str), ("_gaps" : Str)] (wC (rOpt rInt) (wC (rOpt rInt) (wC (rOb (cTpl rInt)) (wC (rOpt rInt) (wC (rOpt rInt) (w1 (rOb (cDic kyInt rBool))))))))) self0, .imm rInt count0, .imm (rTK K rInt) apart0, .no, .no, .no, .no, .no]
    unfold m_Region_members_Vk at h
    obtain ⟨d2, hd2, h⟩ := bindO_some h
    obtain ⟨barred3, hbarred3, h⟩ := letO_some h
    refine (sq_asg (ev_to (ev_newD (ed_exF kyInt (ec_dc kyInt (m_Region_members_Vk_c1) (it_tk (ev_var rfl)) hd2 tg_name (fun k hk => hk) (by rfl) (fun _ => by rfl) (fun number1 o ho => by unfold m_Region_members_Vk_c1 at ho; cases ho; exact ⟨et_yes, fun y hy => by cases hy; exact ⟨(ev_var rfl), ev_bl⟩⟩)))) hbarred3.symm) ?_)
    show Nx _ _ [.imm (rIns a.C_Region [("low" : Str), ("high" : Str), ("without" : Str), ("size" : Str), ("value" : Str), ("_gaps" : Str)] (wC (rOpt rInt) (wC (rOpt rInt) (wC (rOb (cTpl rInt)) (wC (rOpt rInt) (wC (rOpt rInt) (w1 (rOb (cDic kyInt rBool))))))))) self0, .imm rInt count0, .imm (rTK K rInt) apart0, .imm (rDicF P w kyInt rBool) barred3, .no, .no, .no, .no]
    obtain ⟨l4, hl4, h⟩ := bindO_some h
    obtain ⟨l8, hl8, h⟩ := bindO_some h
    obtain ⟨lost9, hlost9, h⟩ := letO_some h
    refine (sq_asg (ev_to (ev_new (ec_lc (m_Region_members_Vk_c2 self0) (it_keysF kyInt (ev_var rfl) hl4) hl8 tg_name (fun k hk => hk) (by rfl) (fun _ => by rfl) (fun number5 o ho => by unfold m_Region_members_Vk_c2 at ho; obtain ⟨n6, hn6, ho⟩ := bindO_some ho; obtain ⟨c7, hc7, ho⟩ := letO_some ho; cases c7 with | true => (have ho : (some (some number5)) = some o := ho; cases ho; exact ⟨et_to (et_T (ev_inO (ev_var rfl) (ev_var rfl) hn6)) hc7.symm, fun y hy => by cases hy; exact ev_to (ev_var rfl) rfl⟩) | false => (have ho : some none = some o := ho; cases ho; exact ⟨et_to (et_T (ev_inO (ev_var rfl) (ev_var rfl) hn6)) hc7.symm, fun y hy => by cases hy⟩)))) hlost9.symm) ?_)
    show Nx _ _ [.imm (rIns a.C_Region [("low" : Str), ("high" : Str), ("without" : Str), ("size" : Str), ("value" : Str), ("_gaps" : Str)] (wC (rOpt rInt) (wC (rOpt rInt) (wC (rOb (cTpl rInt)) (wC (rOpt rInt) (wC (rOpt rInt) (w1 (rOb (cDic kyInt rBool))))))))) self0, .imm rInt count0, .imm (rTK K rInt) apart0, .imm (rDicF P w kyInt rBool) barred3, .imm (rOb (cLst rInt)) lost9, .no, .no, .no]
    obtain ⟨c12, hc12, h⟩ := letO_some h
    obtain ⟨b11, hb11, h⟩ := bindO_some h
    obtain ⟨c13, hc13, h⟩ := letO_some h
    refine (sq_if (et_to (et_and (et_to (et_B (ev_notN (ev_fld (ev_var rfl) (accS (accS (accS (acc0)))) rfl (by decide +kernel) T.cl_Region T.na_Region_size))) hc12.symm) (fun hc => by have hx := iteO_t hc hb11; obtain ⟨g10, hg10, hx⟩ := bindO_some hx; exact et_to (et_T (ev_lt (ev_sub (ev_get (ev_fld (ev_var rfl) (accS (accS (accS (acc0)))) rfl (by decide +kernel) T.cl_Region T.na_Region_size) hg10) (ev_lenL (ev_var rfl))) (ev_var rfl))) (Option.some.inj hx)) (fun hc => ⟨(Option.some.inj (iteO_f hc hb11)).symm, rfl⟩)) hc13.symm) (fun hc => ?_) (fun hc => ?_))
    · have h := iteO_t hc h
      obtain rfl := Option.some.inj h
      exact (sq_raise1 (ev_var rfl) (ke _ rfl) (fun _ _ _ q => q) (fun _ _ _ _ q => q))
    · have h := iteO_f hc h
      refine nx_next ?_
      try dsimp only
      obtain ⟨v14, hv14, h⟩ := bindO_some h
      obtain ⟨u15, hu15, h⟩ := letO_some h
      refine (sq_asgT (ev_to (ev_meth0 (ev_var rfl) hv14 (by decide +kernel)) hu15.symm) (tg_tup (tw_C tg_name (fun _ => (tw_1 tg_name)))) ?_)
      show Nx _ _ [.imm (rIns a.C_Region [("low" : Str), ("high" : Str), ("without" : Str), ("size" : Str), ("value" : Str), ("_gaps" : Str)] (wC (rOpt rInt) (wC (rOpt rInt) (wC (rOb (cTpl rInt)) (wC (rOpt rInt) (wC (rOpt rInt) (w1 (rOb (cDic kyInt rBool))))))))) self0, .imm rInt count0, .imm (rTK K rInt) apart0, .imm (rDicF P w kyInt rBool) barred3, .imm (rOb (cLst rInt)) lost9, .imm rInt u15.1, .imm rInt u15.2, .no]
      obtain ⟨found16, hfound16, h⟩ := letO_some h
      refine (sq_asgC (c := (cLst rInt)) (ec_to (ec_lst eh_0 (Nat.le_of_ble_eq_true rfl)) hfound16.symm) (fun a_found16 na_found16 => ?_))
      show Nx _ _ [.imm (rIns a.C_Region [("low" : Str), ("high" : Str), ("without" : Str), ("size" : Str), ("value" : Str), ("_gaps" : Str)] (wC (rOpt rInt) (wC (rOpt rInt) (wC (rOb (cTpl rInt)) (wC (rOpt rInt) (wC (rOpt rInt) (w1 (rOb (cDic kyInt rBool))))))))) self0, .imm rInt count0, .imm (rTK K rInt) apart0, .imm (rDicF P w kyInt rBool) barred3, .imm (rOb (cLst rInt)) lost9, .imm rInt u15.1, .imm rInt u15.2, .cel a_found16 (cLst rInt) found16]
      obtain ⟨R23, hR23, h⟩ := bindO_some h
      refine (sq_while (ψ := (fun _ _ _ _ => False)) (m_Region_members_Vk_w1 count0) (m_Region_members_Vk_b1 self0 barred3 u15) (fun z => [.imm (rIns a.C_Region [("low" : Str), ("high" : Str), ("without" : Str), ("size" : Str), ("value" : Str), ("_gaps" : Str)] (wC (rOpt rInt) (wC (rOpt rInt) (wC (rOb (cTpl rInt)) (wC (rOpt rInt) (wC (rOpt rInt) (w1 (rOb (cDic kyInt rBool))))))))) self0, .imm rInt count0, .imm (rTK K rInt) apart0, .imm (rDicF P w kyInt rBool) barred3, .imm (rOb (cLst rInt)) lost9, .imm rInt z.1, .imm rInt u15.2, .cel a_found16 (cLst rInt) z.2]) hR23 ?_ (fun s17 b hc => ?_) (fun D1 s17 st h k1 => ?_) ?_ ?_)
      · exact nx_fin
      · have h : m_Region_members_Vk_w1 count0 s17 = some b := hc
        unfold m_Region_members_Vk_w1 at h
        exact et_to (et_T (ev_lt (ev_lenCel rfl) (ev_var rfl))) (Option.some.inj h)
      · show Nx _ _ [.imm (rIns a.C_Region [("low" : Str), ("high" : Str), ("without" : Str), ("size" : Str), ("value" : Str), ("_gaps" : Str)] (wC (rOpt rInt) (wC (rOpt rInt) (wC (rOb (cTpl rInt)) (wC (rOpt rInt) (wC (rOpt rInt) (w1 (rOb (cDic kyInt rBool))))))))) self0, .imm rInt count0, .imm (rTK K rInt) apart0, .imm (rDicF P w kyInt rBool) barred3, .imm (rOb (cLst rInt)) lost9, .imm rInt s17.1, .imm rInt u15.2, .cel a_found16 (cLst rInt) s17.2]
        unfold m_Region_members_Vk_b1 at h
        obtain ⟨n18, hn18, h⟩ := bindO_some h
        obtain ⟨c19, hc19, h⟩ := letO_some h
        obtain ⟨j20, hj20, h2⟩ := bindO_some h
        have h := hj20
        refine nx_cut [.imm (rIns a.C_Region [("low" : Str), ("high" : Str), ("without" : Str), ("size" : Str), ("value" : Str), ("_gaps" : Str)] (wC (rOpt rInt) (wC (rOpt rInt) (wC (rOb (cTpl rInt)) (wC (rOpt rInt) (wC (rOpt rInt) (w1 (rOb (cDic kyInt rBool))))))))) self0, .imm rInt count0, .imm (rTK K rInt) apart0, .imm (rDicF P w kyInt rBool) barred3, .imm (rOb (cLst rInt)) lost9, .imm rInt s17.1, .imm rInt u15.2, .cel a_found16 (cLst rInt) j20] (nx_if (et_to (et_and0 (et_T (ev_inO (ev_var rfl) (ev_var rfl) hn18)) (et_B (ev_fnin kyInt (ev_var rfl) (ev_var rfl)))) hc19.symm) (fun hc => ?_) (fun hc => ?_)) ?_
        · clear h2 hj20
          have h := iteO_t hc h
          obtain ⟨found21, hfound21, h⟩ := bindO_some h
          refine (sq_app (ev_var rfl) rfl rfl hfound21 ?_)
          show Nx _ _ [.imm (rIns a.C_Region [("low" : Str), ("high" : Str), ("without" : Str), ("size" : Str), ("value" : Str), ("_gaps" : Str)] (wC (rOpt rInt) (wC (rOpt rInt) (wC (rOb (cTpl rInt)) (wC (rOpt rInt) (wC (rOpt rInt) (w1 (rOb (cDic kyInt rBool))))))))) self0, .imm rInt count0, .imm (rTK K rInt) apart0, .imm (rDicF P w kyInt rBool) barred3, .imm (rOb (cLst rInt)) lost9, .imm rInt s17.1, .imm rInt u15.2, .cel a_found16 (cLst rInt) found21]
          obtain rfl := Option.some.inj h
          exact nx_fin
        · clear h2 hj20
          have h := iteO_f hc h
          obtain rfl := Option.some.inj h
          exact nx_fin
        · clear h
          have h := h2
          obtain ⟨number22, hnumber22, h⟩ := letO_some h
          refine (sq_asg (ev_to (ev_add (ev_var rfl) (ev_var rfl)) hnumber22.symm) ?_)
          show Nx _ _ [.imm (rIns a.C_Region [("low" : Str), ("high" : Str), ("without" : Str), ("size" : Str), ("value" : Str), ("_gaps" : Str)] (wC (rOpt rInt) (wC (rOpt rInt) (wC (rOb (cTpl rInt)) (wC (rOpt rInt) (wC (rOpt rInt) (w1 (rOb (cDic kyInt rBool))))))))) self0, .imm rInt count0, .imm (rTK K rInt) apart0, .imm (rDicF P w kyInt rBool) barred3, .imm (rOb (cLst rInt)) lost9, .imm rInt number22, .imm rInt u15.2, .cel a_found16 (cLst rInt) j20]
          refine nx_next ?_
          exact k1.nx _ (Option.some.inj h).symm
      · intro b e
        subst e
        exact fun _ _ _ _ z => z.elim
      · intro e24 e
        subst e
        have h := stepO_nx h
        show Nx _ _ [.imm (rIns a.C_Region [("low" : Str), ("high" : Str), ("without" : Str), ("size" : Str), ("value" : Str), ("_gaps" : Str)] (wC (rOpt rInt) (wC (rOpt rInt) (wC (rOb (cTpl rInt)) (wC (rOpt rInt) (wC (rOpt rInt) (w1 (rOb (cDic kyInt rBool))))))))) self0, .imm rInt count0, .imm (rTK K rInt) apart0, .imm (rDicF P w kyInt rBool) barred3, .imm (rOb (cLst rInt)) lost9, .imm rInt e24.1, .imm rInt u15.2, .cel a_found16 (cLst rInt) e24.2]
        obtain rfl := Option.some.inj h
        exact (sq_retC (ec_frz (i := 7) rfl (ec_sortI (ev_var rfl))) rfl (kr _ rfl))
theorem ok_l_start (T : Txt K mg a) : FnOk P w K mg base CX0 1 a.f_l_start a.d_l_start ["_law_script"] (SpC (w1 (rScr K)) (cHls (wC (rOb (cLst rInt)) (wC rInt (wC rInt (w1 rInt))))) (fun x => m_l_start x)) := by
  refine T.F_l_start.ok sc_l_start (fun vs H Q E h => ?_) (fun cdv A outer s H vs Q E hr h => ?_)
  · obtain ⟨B, x, b, z, sm, hw, h, kr⟩ := h
    rw [WLen.len hw]; rfl
  · obtain ⟨B, script0, b, z, sm, hw, h, kr⟩ := h
    have h : m_l_start script0 = some b := h
    have kr : RtC (amb0 B H) (cHls (wC (rOb (cLst rInt)) (wC rInt (wC rInt (w1 rInt))))) b Q := kr
    refine ⟨_, (pss_cons (ps_set (i := 1) sc_l_start.nd rfl (by first | exact Or.inl rfl | exact Or.inr rfl) pe_int) (Evl.pss_cut (ps_if (pt_cmpR op_gt (pe_callB (len_seqK (K := K) rfl) (by rfl) T.b_len (by decide +kernel) (pa_cons (pv 0) pa_nil)) pe_int (nomark _)) (pss_cons (ps_set (i := 1) sc_l_start.nd rfl (by first | exact Or.inl rfl | exact Or.inr rfl) (pe_ix (ix_listK (K := K) rfl) (pv 0) pe_int (fun _ _ => rfl))) pss_nil) pss_nil) (pss_cons (ps_ret (pe_lst (pa_cons (pe_callTy (list_ofK (K := K) rfl) (by rfl) T.b_list (by decide +kernel) (pa_cons (pv 0) pa_nil)) (pa_cons pe_int (pa_cons (pv 1) (pa_cons pe_int pa_nil)))))) pss_nil))), ?_⟩
    refine nx_go (frm_start (N := N_l_start) (n := 1) z sm hw (by rw [WLen.len hw]; rfl)) ?_
    show Nx _ _ [.imm (rScr K) script0, .no]
    unfold m_l_start at h
    obtain ⟨first1, hfirst1, h⟩ := letO_some h
    refine (sq_asg (ev_to ev_int hfirst1.symm) ?_)
    show Nx _ _ [.imm (rScr K) script0, .imm rInt first1]
    obtain ⟨c2, hc2, h⟩ := letO_some h
    obtain ⟨j3, hj3, h2⟩ := bindO_some h
    have h := hj3
    refine nx_cut [.imm (rScr K) script0, .imm rInt j3] (nx_if (et_to (et_T (ev_gt (ev_lenC (ev_var rfl)) ev_int)) hc2.symm) (fun hc => ?_) (fun hc => ?_)) ?_
    · clear h2 hj3
      have h := iteO_t hc h
      obtain ⟨y4, hy4, h⟩ := bindO_some h
      obtain ⟨first5, hfirst5, h⟩ := letO_some h
      refine (sq_asg (ev_to (ev_ixC (ev_var rfl) ev_int hy4) hfirst5.symm) ?_)
      show Nx _ _ [.imm (rScr K) script0, .imm rInt first5]
      obtain rfl := Option.some.inj h
      exact nx_fin
    · clear h2 hj3
      have h := iteO_f hc h
      obtain rfl := Option.some.inj h
      exact nx_fin
    · clear h
      have h := h2
      obtain ⟨l6, hl6, h⟩ := bindO_some h
      exact (sq_retC (ec_hls (ew_C (ev_new (ec_listC (ev_var rfl) hl6)) (ew_C ev_int (ew_C (ev_var rfl) (ew_1 ev_int))))) h kr)
theorem ok_l_draw (T : Txt K mg a) : FnOk P w K mg base CX0 1 a.f_l_draw a.d_l_draw ["_law_state", "_law_many"] (SpS (cHls (wC (rOb (cLst rInt)) (wC rInt (wC rInt (w1 rInt))))) (w1 rInt) rInt (fun st x => m_l_draw st x)) := by
  refine T.F_l_draw.ok sc_l_draw (fun vs H Q E h => ?_) (fun cdv A outer s H vs Q E hr h => ?_)
  · obtain ⟨p, vs', B, o, st, x, b, rfl, z, sm, hB, hp, ko, hw, h, kr⟩ := h
    show vs'.length + 1 = _; rw [WLen.len hw]; rfl
  · obtain ⟨p, vs', B, o, st0, many0, b, rfl, z, sm, hB, hp, ko, hw, h, kr⟩ := h
    have h : m_l_draw st0 many0 = some b := h
    refine ⟨_, (pss_cons (ps_if (pt_cmpR op_ge (pe_ix (ix_listK (K := K) rfl) (pv 0) pe_int (fun _ _ => rfl)) (pe_op op_pow pe_int pe_int) (nomark _)) (pss_cons (ps_set (i := 2) sc_l_draw.nd rfl (by first | exact Or.inl rfl | exact Or.inr rfl) (pe_op op_mod (pe_callTy call_int1 (by rfl) T.b_int (by decide +kernel) (pa_cons (pe_ix (ix_listK (K := K) rfl) (pv 0) pe_int (fun _ _ => rfl)) pa_nil)) (pv 1))) (pss_cons (ps_asg (pe_op op_fdivW (pe_ix (ix_listK (K := K) rfl) (pv 0) pe_int (fun _ _ => rfl)) (pv 1)) (pg_sub (pv 0) pe_int set_list)) (pss_cons (ps_ret (pv 2)) pss_nil))) pss_nil) (pss_cons (ps_asg (pe_op op_add (pe_ix (ix_listK (K := K) rfl) (pv 0) pe_int (fun _ _ => rfl)) pe_int) (pg_sub (pv 0) pe_int set_list)) (pss_cons (ps_set (i := 3) sc_l_draw.nd rfl (by first | exact Or.inl rfl | exact Or.inr rfl) (pe_op op_add (pe_op op_add (pe_op op_mod (pe_callTy call_int1 (by rfl) T.b_int (by decide +kernel) (pa_cons (pe_ix (ix_listK (K := K) rfl) (pv 0) pe_int (fun _ _ => rfl)) pa_nil)) pe_int) (pe_op op_mul pe_int (pe_ix (ix_listK (K := K) rfl) (pv 0) pe_int (fun _ _ => rfl)))) pe_int)) (pss_cons (ps_set (i := 4) sc_l_draw.nd rfl (by first | exact Or.inl rfl | exact Or.inr rfl) (pe_op op_mod (pe_op op_pow (pv 3) pe_int) pe_int)) (Evl.pss_cut (ps_if (pt_cmpR op_lt (pe_ix (ix_listK (K := K) rfl) (pv 0) pe_int (fun _ _ => rfl)) (pe_callB (len_seqK (K := K) rfl) (by rfl) T.b_len (by decide +kernel) (pa_cons (pe_ix (ix_listK (K := K) rfl) (pv 0) pe_int (fun _ _ => rfl)) pa_nil)) (nomark _)) (pss_cons (ps_asg (pe_ix (ix_listK (K := K) rfl) (pe_ix (ix_listK (K := K) rfl) (pv 0) pe_int (fun _ _ => rfl)) (pe_ix (ix_listK (K := K) rfl) (pv 0) pe_int (fun _ _ => rfl)) (fun _ _ => rfl)) (pg_sub (pv 0) pe_int set_list)) (pss_cons (ps_asg (pe_op op_add (pe_ix (ix_listK (K := K) rfl) (pv 0) pe_int (fun _ _ => rfl)) pe_int) (pg_sub (pv 0) pe_int set_list)) pss_nil)) pss_nil) (pss_cons (ps_ret (pe_op op_mod (pe_op op_fdivW (pe_callTy call_int1 (by rfl) T.b_int (by decide +kernel) (pa_cons (pv 4) pa_nil)) pe_int) (pv 1))) pss_nil)))))), ?_⟩
    refine nx_go (frm_startS (N := N_l_draw) (n := 3) z sm hB hp ko hw (by rw [WLen.len hw]; rfl)) ?_
    show Nx _ _ [.cel p (cHls (wC (rOb (cLst rInt)) (wC rInt (wC rInt (w1 rInt))))) st0, .imm rInt many0, .no, .no, .no]
    unfold m_l_draw at h
    obtain ⟨c1, hc1, h⟩ := letO_some h
    refine (sq_if (et_to (et_T (ev_ge (ev_celR (k := 2) rfl (accS (accS (acc0)))) (ev_pow ev_int ev_int (by unfold CPow; decide)))) hc1.symm) (fun hc => ?_) (fun hc => ?_))
    · have h := iteO_t hc h
      obtain ⟨r2, hr2, h⟩ := bindO_some h
      obtain ⟨drawn3, hdrawn3, h⟩ := letO_some h
      refine (sq_asg (ev_to (ev_modP (ev_int1 (ev_celR (k := 2) rfl (accS (accS (acc0))))) (ev_var rfl) hr2) hdrawn3.symm) ?_)
      show Nx _ _ [.cel p (cHls (wC (rOb (cLst rInt)) (wC rInt (wC rInt (w1 rInt))))) st0, .imm rInt many0, .imm rInt drawn3, .no, .no]
      obtain ⟨q4, hq4, h⟩ := bindO_some h
      obtain ⟨z5, hz5, h⟩ := letO_some h
      refine (sq_setR (k := 2) (ev_divP (ev_celR (k := 2) rfl (accS (accS (acc0)))) (ev_var rfl) hq4) rfl (updS (updS (upd0))) (nx_cel (i := 0) rfl hz5.symm ?_))
      show Nx _ _ [.cel p (cHls (wC (rOb (cLst rInt)) (wC rInt (wC rInt (w1 rInt))))) z5, .imm rInt many0, .imm rInt drawn3, .no, .no]
      exact (sq_retS (i := 0) (ev_var rfl) rfl h kr)
    · have h := iteO_f hc h
      refine nx_next ?_
      try dsimp only
      obtain ⟨z6, hz6, h⟩ := letO_some h
      refine (sq_setR (k := 3) (ev_add (ev_celR (k := 3) rfl (accS (accS (accS (acc1))))) ev_int) rfl (updS (updS (updS (upd1)))) (nx_cel (i := 0) rfl hz6.symm ?_))
      show Nx _ _ [.cel p (cHls (wC (rOb (cLst rInt)) (wC rInt (wC rInt (w1 rInt))))) z6, .imm rInt many0, .no, .no, .no]
      obtain ⟨seed7, hseed7, h⟩ := letO_some h
      refine (sq_asg (ev_to (ev_add (ev_add (ev_mod (ev_int1 (ev_celR (k := 2) rfl (accS (accS (acc0))))) ev_int (by decide)) (ev_mul ev_int (ev_celR (k := 3) rfl (accS (accS (accS (acc1))))) (.inl (by decide)))) ev_int) hseed7.symm) ?_)
      show Nx _ _ [.cel p (cHls (wC (rOb (cLst rInt)) (wC rInt (wC rInt (w1 rInt))))) z6, .imm rInt many0, .no, .imm rInt seed7, .no]
      obtain ⟨w8, hw8, h⟩ := bindO_some h
      obtain ⟨mixed9, hmixed9, h⟩ := letO_some h
      refine (sq_asg (ev_to (ev_mod (ev_powP (ev_var rfl) ev_int hw8) ev_int (by decide)) hmixed9.symm) ?_)
      show Nx _ _ [.cel p (cHls (wC (rOb (cLst rInt)) (wC rInt (wC rInt (w1 rInt))))) z6, .imm rInt many0, .no, .imm rInt seed7, .imm rInt mixed9]
      obtain ⟨c10, hc10, h⟩ := letO_some h
      obtain ⟨j11, hj11, h2⟩ := bindO_some h
      have h := hj11
      refine nx_cut [.cel p (cHls (wC (rOb (cLst rInt)) (wC rInt (wC rInt (w1 rInt))))) j11, .imm rInt many0, .no, .imm rInt seed7, .imm rInt mixed9] (nx_if (et_to (et_T (ev_lt (ev_celR (k := 1) rfl (accS (acc0))) (ev_lenL (ev_celR (k := 0) rfl (acc0))))) hc10.symm) (fun hc => ?_) (fun hc => ?_)) ?_
      · clear h2 hj11
        have h := iteO_t hc h
        obtain ⟨y12, hy12, h⟩ := bindO_some h
        obtain ⟨z13, hz13, h⟩ := letO_some h
        refine (sq_setR (k := 2) (ev_ixL (ev_celR (k := 0) rfl (acc0)) (ev_celR (k := 1) rfl (accS (acc0))) hy12) rfl (updS (updS (upd0))) (nx_cel (i := 0) rfl hz13.symm ?_))
        show Nx _ _ [.cel p (cHls (wC (rOb (cLst rInt)) (wC rInt (wC rInt (w1 rInt))))) z13, .imm rInt many0, .no, .imm rInt seed7, .imm rInt mixed9]
        obtain ⟨z14, hz14, h⟩ := letO_some h
        refine (sq_setR (k := 1) (ev_add (ev_celR (k := 1) rfl (accS (acc0))) ev_int) rfl (updS (upd0)) (nx_cel (i := 0) rfl hz14.symm ?_))
        show Nx _ _ [.cel p (cHls (wC (rOb (cLst rInt)) (wC rInt (wC rInt (w1 rInt))))) z14, .imm rInt many0, .no, .imm rInt seed7, .imm rInt mixed9]
        obtain rfl := Option.some.inj h
        exact nx_fin
      · clear h2 hj11
        have h := iteO_f hc h
        obtain rfl := Option.some.inj h
        exact nx_fin
      · clear h
        have h := h2
        obtain ⟨r15, hr15, h⟩ := bindO_some h
        exact (sq_retS (i := 0) (ev_modP (ev_divW (ev_int1 (ev_var rfl)) ev_int (by unfold CDivW; decide)) (ev_var rfl) hr15) rfl h kr)
theorem ok_l_end (T : Txt K mg a) : FnOk P w K mg base CX0 2 a.f_l_end a.d_l_end ["_law_state", "_law_base_here"] (SpS (cHls (wC (rOb (cLst rInt)) (wC rInt (wC rInt (w1 rInt))))) (w1 rInt) (rOpt rInt) (fun st x => m_l_end st x)) := by
  refine T.F_l_end.ok sc_l_end (fun vs H Q E h => ?_) (fun cdv A outer s H vs Q E hr h => ?_)
  · obtain ⟨p, vs', B, o, st, x, b, rfl, z, sm, hB, hp, ko, hw, h, kr⟩ := h
    show vs'.length + 1 = _; rw [WLen.len hw]; rfl
  · obtain ⟨p, vs', B, o, st0, base_here0, b, rfl, z, sm, hB, hp, ko, hw, h, kr⟩ := h
    have h : m_l_end st0 base_here0 = some b := h
    refine ⟨_, (pss_cons (ps_if (pt_cmpR op_eq (pe_call (ok_l_draw T) (hr.mono (by decide)) rfl T.g_l_draw T.F_l_draw.kp T.n_l_draw .nil pass0 (pa_cons (pv 0) (pa_cons pe_int pa_nil))) pe_int (nomark _)) (pss_cons (ps_ret pe_non) pss_nil) pss_nil) (pss_cons (ps_ret (pe_op op_sub (pe_op op_add (pv 1) (pe_call (ok_l_draw T) (hr.mono (by decide)) rfl T.g_l_draw T.F_l_draw.kp T.n_l_draw .nil pass0 (pa_cons (pv 0) (pa_cons pe_int pa_nil)))) pe_int)) pss_nil)), ?_⟩
    refine nx_go (frm_startS (N := N_l_end) (n := 0) z sm hB hp ko hw (by rw [WLen.len hw]; rfl)) ?_
    show Nx _ _ [.cel p (cHls (wC (rOb (cLst rInt)) (wC rInt (wC rInt (w1 rInt))))) st0, .imm rInt base_here0]
    unfold m_l_end at h
    obtain ⟨p1, hp1, h⟩ := bindO_some h
    obtain ⟨c2, hc2, h⟩ := letO_some h
    refine (sq_if (et_to (et_T (ev_eqS scInt (ev_callS (ew_1 ev_int) rfl rfl hp1) ev_int rfl)) hc2.symm) (fun hc => ?_) (fun hc => ?_))
    · have h := iteO_t hc h
      exact (sq_retS (i := 0) (ev_none (r := rInt)) rfl h kr)
    · have h := iteO_f hc h
      refine nx_next ?_
      try dsimp only
      obtain ⟨p3, hp3, h⟩ := bindO_some h
      exact (sq_retS (i := 0) (ev_some nn_int (ev_sub (ev_add (ev_var rfl) (ev_callS (ew_1 ev_int) rfl rfl hp3)) ev_int)) rfl h kr)
theorem ok_l_base (T : Txt K mg a) : FnOk P w K mg base CX0 2 a.f_l_base a.d_l_base ["_law_state"] (SpS (cHls (wC (rOb (cLst rInt)) (wC rInt (wC rInt (w1 rInt))))) w0 rInt (fun st x => m_l_base st)) := by
  refine T.F_l_base.ok sc_l_base (fun vs H Q E h => ?_) (fun cdv A outer s H vs Q E hr h => ?_)
  · obtain ⟨p, vs', B, o, st, x, b, rfl, z, sm, hB, hp, ko, hw, h, kr⟩ := h
    show vs'.length + 1 = _; rw [WLen.len hw]; rfl
  · obtain ⟨p, vs', B, o, st0, _x, b, rfl, z, sm, hB, hp, ko, hw, h, kr⟩ := h
    have h : m_l_base st0  = some b := h
    refine ⟨_, (pss_cons (ps_set (i := 1) sc_l_base.nd rfl (by first | exact Or.inl rfl | exact Or.inr rfl) (pe_call (ok_l_draw T) (hr.mono (by decide)) rfl T.g_l_draw T.F_l_draw.kp T.n_l_draw .nil pass0 (pa_cons (pv 0) (pa_cons pe_int pa_nil)))) (pss_cons (ps_if (pt_cmpR op_lt (pv 1) pe_int (nomark _)) (pss_cons (ps_ret pe_int) pss_nil) pss_nil) (pss_cons (ps_ret (pe_ix (ix_listK (K := K) rfl) (pe_lst (pa_cons (pe_op op_pow pe_int pe_int) (pa_cons (pe_un un_neg (pe_op op_pow pe_int pe_int)) pa_nil))) (pe_op op_sub (pv 1) pe_int) (fun _ _ => rfl))) pss_nil))), ?_⟩
    refine nx_go (frm_startS (N := N_l_base) (n := 1) z sm hB hp ko hw (by rw [WLen.len hw]; rfl)) ?_
    show Nx _ _ [.cel p (cHls (wC (rOb (cLst rInt)) (wC rInt (wC rInt (w1 rInt))))) st0, .no]
    unfold m_l_base at h
    obtain ⟨p1, hp1, h⟩ := bindO_some h
    obtain ⟨kind2, hkind2, h⟩ := letO_some h
    refine (sq_asg (ev_to (ev_callS (ew_1 ev_int) rfl rfl hp1) hkind2.symm) ?_)
    show Nx _ _ [.cel p (cHls (wC (rOb (cLst rInt)) (wC rInt (wC rInt (w1 rInt))))) p1.2, .imm rInt kind2]
    obtain ⟨c3, hc3, h⟩ := letO_some h
    refine (sq_if (et_to (et_T (ev_lt (ev_var rfl) ev_int)) hc3.symm) (fun hc => ?_) (fun hc => ?_))
    · have h := iteO_t hc h
      exact (sq_retS (i := 0) ev_int rfl h kr)
    · have h := iteO_f hc h
      refine nx_next ?_
      try dsimp only
      obtain ⟨y4, hy4, h⟩ := bindO_some h
      exact (sq_retS (i := 0) (ev_ixL (ev_new (ec_lst (eh_C (ev_pow ev_int ev_int (by unfold CPow; decide)) (eh_C (ev_neg (ev_pow ev_int ev_int (by unfold CPow; decide))) eh_0)) (Nat.le_of_ble_eq_true rfl))) (ev_sub (ev_var rfl) ev_int) hy4) rfl h kr)
theorem ok_l_parts (T : Txt K mg a) : FnOk P w K mg base CX0 3 a.f_l_parts a.d_l_parts ["_law_state", "_law_base_here"] (SpS (cHls (wC (rOb (cLst rInt)) (wC rInt (wC rInt (w1 rInt))))) (w1 rInt) (rOb (cHls (wC (rOpt rInt) (wC (rOpt rInt) (w1 (rOb (cLst rInt))))))) (fun st x => m_l_parts st x)) := by
  refine T.F_l_parts.ok sc_l_parts (fun vs H Q E h => ?_) (fun cdv A outer s H vs Q E hr h => ?_)
  · obtain ⟨p, vs', B, o, st, x, b, rfl, z, sm, hB, hp, ko, hw, h, kr⟩ := h
    show vs'.length + 1 = _; rw [WLen.len hw]; rfl
  · obtain ⟨p, vs', B, o, st0, base_here0, b, rfl, z, sm, hB, hp, ko, hw, h, kr⟩ := h
    have h : m_l_parts st0 base_here0 = some b := h
    refine ⟨_, (pss_cons (ps_set (i := 2) sc_l_parts.nd rfl (by first | exact Or.inl rfl | exact Or.inr rfl) (pe_call (ok_l_end T) (hr.mono (by decide)) rfl T.g_l_end T.F_l_end.kp T.n_l_end .nil pass0 (pa_cons (pv 0) (pa_cons (pv 1) pa_nil)))) (pss_cons (ps_set (i := 3) sc_l_parts.nd rfl (by first | exact Or.inl rfl | exact Or.inr rfl) (pe_call (ok_l_end T) (hr.mono (by decide)) rfl T.g_l_end T.F_l_end.kp T.n_l_end .nil pass0 (pa_cons (pv 0) (pa_cons (pv 1) pa_nil)))) (pss_cons (ps_setLc (i := 4) (own := [("_law_k", 5)]) rfl sc_l_parts.nd rfl rfl (sw_true rfl rfl rfl (by decide +kernel)) (pi_range1 rfl T.b_range (pa_cons (pe_call (ok_l_draw T) (hr.mono (by decide)) rfl T.g_l_draw T.F_l_draw.kp T.n_l_draw .nil pass0 (pa_cons (pv 0) (pa_cons pe_int pa_nil))) pa_nil)) (blkOk_by (N := N_l_parts) (sc := defScope s_l_parts) (by decide +kernel)) (fun _ _ _ _ _ => (pg_name (i := 5) sc_l_parts.nd rfl (by first | exact Or.inl rfl | exact Or.inr rfl))) (fun _ _ _ _ _ => pts_nil) (fun _ _ _ _ _ => (pe_op op_sub (pe_op op_add (pv 1) (pe_call (ok_l_draw T) (hr.mono (by decide)) rfl T.g_l_draw T.F_l_draw.kp T.n_l_draw .nil pass0 (pa_cons (pv 0) (pa_cons pe_int pa_nil)))) pe_int))) (pss_cons (ps_ret (pe_lst (pa_cons (pv 2) (pa_cons (pv 3) (pa_cons (pv 4) pa_nil))))) pss_nil)))), ?_⟩
    refine nx_go (frm_startS (N := N_l_parts) (n := 4) z sm hB hp ko hw (by rw [WLen.len hw]; rfl)) ?_
    show Nx _ _ [.cel p (cHls (wC (rOb (cLst rInt)) (wC rInt (wC rInt (w1 rInt))))) st0, .imm rInt base_here0, .no, .no, .no, .no]
    unfold m_l_parts at h
    obtain ⟨p1, hp1, h⟩ := bindO_some h
    obtain ⟨least2, hleast2, h⟩ := letO_some h
    refine (sq_asg (ev_to (ev_callS (ew_1 (ev_var rfl)) rfl rfl hp1) hleast2.symm) ?_)
    show Nx _ _ [.cel p (cHls (wC (rOb (cLst rInt)) (wC rInt (wC rInt (w1 rInt))))) p1.2, .imm rInt base_here0, .imm (rOpt rInt) least2, .no, .no, .no]
    obtain ⟨p3, hp3, h⟩ := bindO_some h
    obtain ⟨most4, hmost4, h⟩ := letO_some h
    refine (sq_asg (ev_to (ev_callS (ew_1 (ev_var rfl)) rfl rfl hp3) hmost4.symm) ?_)
    show Nx _ _ [.cel p (cHls (wC (rOb (cLst rInt)) (wC rInt (wC rInt (w1 rInt))))) p3.2, .imm rInt base_here0, .imm (rOpt rInt) least2, .imm (rOpt rInt) most4, .no, .no]
    obtain ⟨p5, hp5, h⟩ := bindO_some h
    obtain ⟨l6, hl6, h⟩ := bindO_some h
    obtain ⟨l10, hl10, h⟩ := bindO_some h
    obtain ⟨holes11, hholes11, h⟩ := letO_some h
    refine (sq_asg (ev_to (ev_new (ec_lcS (m_l_parts_c1 base_here0) (fun z => [.cel p (cHls (wC (rOb (cLst rInt)) (wC rInt (wC rInt (w1 rInt))))) z, .imm rInt base_here0, .imm (rOpt rInt) least2, .imm (rOpt rInt) most4, .no, .no]) (it_rng1 (ew_1 (ev_callS (ew_1 ev_int) rfl rfl hp5)) hl6) hl10 (fun A2 => nx_fin) (fun _ => rfl) (fun _ => tg_name) (fun k hk => hk) (fun _ _ => rfl) (fun k7 st8 o s2 ho => by unfold m_l_parts_c1 at ho; obtain ⟨p9, hp9, ho⟩ := bindO_some ho; obtain ⟨ho1, ho2⟩ := Prod.mk.inj (Option.some.inj ho); subst ho1; subst ho2; exact ⟨st8, et_yes, fun y hy => by cases hy; exact ev_to (ev_sub (ev_add (ev_var rfl) (ev_callS (ew_1 ev_int) rfl rfl hp9)) ev_int) rfl, fun hn => by cases hn⟩))) hholes11.symm) ?_)
    show Nx _ _ [.cel p (cHls (wC (rOb (cLst rInt)) (wC rInt (wC rInt (w1 rInt))))) l10.2, .imm rInt base_here0, .imm (rOpt rInt) least2, .imm (rOpt rInt) most4, .imm (rOb (cLst rInt)) holes11, .no]
    exact (sq_retS (i := 0) (ev_new (ec_hls (ew_C (ev_var rfl) (ew_C (ev_var rfl) (ew_1 (ev_var rfl)))))) rfl h kr)
theorem ok_l_is_integer (T : Txt K mg a) : FnOk P w K mg base CX0 1 a.f_l_is_integer a.d_l_is_integer ["_law_actual"] (SpP (w1 rInt) rBool (fun x => m_l_is_integer x)) := by
  refine T.F_l_is_integer.ok sc_l_is_integer (fun vs H Q E h => ?_) (fun cdv A outer s H vs Q E hr h => ?_)
  · obtain ⟨B, x, b, z, sm, hw, h, kr⟩ := h
    rw [WLen.len hw]; rfl
  · obtain ⟨B, actual0, b, z, sm, hw, h, kr⟩ := h
    have h : m_l_is_integer actual0 = some b := h
    refine ⟨_, (pss_cons (ps_ret (pe_and (pe_callB (isiK (K := K) rfl) (by rfl) T.b_isinstance (by decide +kernel) (pa_cons (pv 0) (pa_cons (pe_bltn (v := .ty "int") (by rfl) T.b_int boot_int rfl) pa_nil))) (pe_one (pe_not (pe_callB (isiK (K := K) rfl) (by rfl) T.b_isinstance (by decide +kernel) (pa_cons (pv 0) (pa_cons (pe_bltn (v := .ty "bool") (by rfl) T.b_bool boot_bool rfl) pa_nil))))))) pss_nil), ?_⟩
    refine nx_go (frm_start (N := N_l_is_integer) (n := 0) z sm hw (by rw [WLen.len hw]; rfl)) ?_
    show Nx _ _ [.imm rInt actual0]
    unfold m_l_is_integer at h
    exact (sq_ret (ev_and0 (ev_isi (ev_var rfl) ty_int (.ty _) (kit_ty (by decide +kernel))) (ev_not (ev_isi (ev_var rfl) ty_int (.ty _) (kit_ty (by decide +kernel))))) h kr)
theorem ok_l_in_part (T : Txt K mg a) : FnOk P w K mg base CX0 1 a.f_l_in_part a.d_l_in_part ["_law_part", "_law_number"] (SpP (wC (rOb (cHls (wC (rOpt rInt) (wC (rOpt rInt) (w1 (rOb (cLst rInt))))))) (w1 rInt)) rBool (fun x => m_l_in_part x.1 x.2)) := by
  refine T.F_l_in_part.ok sc_l_in_part (fun vs H Q E h => ?_) (fun cdv A outer s H vs Q E hr h => ?_)
  · obtain ⟨B, x, b, z, sm, hw, h, kr⟩ := h
    rw [WLen.len hw]; rfl
  · obtain ⟨B, ⟨part0, number0⟩, b, z, sm, hw, h, kr⟩ := h
    have h : m_l_in_part part0 number0 = some b := h
    refine ⟨_, (pss_cons (ps_if (PW.pt (pw_and (pt_cmp (pc_notN (pe_ix (ix_listK (K := K) rfl) (pv 0) pe_int (fun _ _ => rfl)))) (pw_and1 (pt_cmpR op_lt (pv 1) (pe_ix (ix_listK (K := K) rfl) (pv 0) pe_int (fun _ _ => rfl)) (nomark _))))) (pss_cons (ps_ret pe_bl) pss_nil) pss_nil) (pss_cons (ps_if (PW.pt (pw_and (pt_cmp (pc_notN (pe_ix (ix_listK (K := K) rfl) (pv 0) pe_int (fun _ _ => rfl)))) (pw_and1 (pt_cmpR op_gt (pv 1) (pe_ix (ix_listK (K := K) rfl) (pv 0) pe_int (fun _ _ => rfl)) (nomark _))))) (pss_cons (ps_ret pe_bl) pss_nil) pss_nil) (pss_cons (ps_ret (pe_cmpR (notIn_seqK (K := K) rfl) (pv 1) (pe_ix (ix_listK (K := K) rfl) (pv 0) pe_int (fun _ _ => rfl)) rfl)) pss_nil))), ?_⟩
    refine nx_go (frm_start (N := N_l_in_part) (n := 0) z sm hw (by rw [WLen.len hw]; rfl)) ?_
    show Nx _ _ [.imm (rOb (cHls (wC (rOpt rInt) (wC (rOpt rInt) (w1 (rOb (cLst rInt))))))) part0, .imm rInt number0]
    unfold m_l_in_part at h
    obtain ⟨c3, hc3, h⟩ := letO_some h
    obtain ⟨b2, hb2, h⟩ := bindO_some h
    obtain ⟨c4, hc4, h⟩ := letO_some h
    refine (sq_if (et_to (et_and (et_to (et_B (ev_notN (ev_ixR (k := 0) (ev_var rfl) (acc0)))) hc3.symm) (fun hc => by have hx := iteO_t hc hb2; obtain ⟨g1, hg1, hx⟩ := bindO_some hx; exact et_to (et_T (ev_lt (ev_var rfl) (ev_get (ev_ixR (k := 0) (ev_var rfl) (acc0)) hg1))) (Option.some.inj hx)) (fun hc => ⟨(Option.some.inj (iteO_f hc hb2)).symm, rfl⟩)) hc4.symm) (fun hc => ?_) (fun hc => ?_))
    · have h := iteO_t hc h
      exact (sq_ret ev_bl h kr)
    · have h := iteO_f hc h
      refine nx_next ?_
      try dsimp only
      obtain ⟨c7, hc7, h⟩ := letO_some h
      obtain ⟨b6, hb6, h⟩ := bindO_some h
      obtain ⟨c8, hc8, h⟩ := letO_some h
      refine (sq_if (et_to (et_and (et_to (et_B (ev_notN (ev_ixR (k := 1) (ev_var rfl) (accS (acc0))))) hc7.symm) (fun hc => by have hx := iteO_t hc hb6; obtain ⟨g5, hg5, hx⟩ := bindO_some hx; exact et_to (et_T (ev_gt (ev_var rfl) (ev_get (ev_ixR (k := 1) (ev_var rfl) (accS (acc0))) hg5))) (Option.some.inj hx)) (fun hc => ⟨(Option.some.inj (iteO_f hc hb6)).symm, rfl⟩)) hc8.symm) (fun hc => ?_) (fun hc => ?_))
      · have h := iteO_t hc h
        exact (sq_ret ev_bl h kr)
      · have h := iteO_f hc h
        refine nx_next ?_
        try dsimp only
        exact (sq_ret (ev_ninL fl_int (ev_var rfl) (ev_ixR (k := 2) (ev_var rfl) (accS (accS (acc1))))) h kr)
theorem ok_l_window (T : Txt K mg a) : FnOk P w K mg base CX0 1 a.f_l_window a.d_l_window ["_law_base_here"] (SpC (w1 rInt) (cLst rInt) (fun x => m_l_window x)) := by
  refine T.F_l_window.ok sc_l_window (fun vs H Q E h => ?_) (fun cdv A outer s H vs Q E hr h => ?_)
  · obtain ⟨B, x, b, z, sm, hw, h, kr⟩ := h
    rw [WLen.len hw]; rfl
  · obtain ⟨B, base_here0, b, z, sm, hw, h, kr⟩ := h
    have h : m_l_window base_here0 = some b := h
    have kr : RtC (amb0 B H) (cLst rInt) b Q := kr
    refine ⟨_, (pss_cons (ps_ret (pe_lc (own := [("_law_number", 1)]) rfl sc_l_window.nd (pi_range3 rfl T.b_range (pa_cons (pe_op op_sub (pv 0) pe_int) (pa_cons (pe_op op_add (pv 0) pe_int) pa_nil))) (blkOk_by (N := N_l_window) (sc := defScope s_l_window) (by decide +kernel)) (fun _ _ _ _ _ => (pg_name (i := 1) sc_l_window.nd rfl (by first | exact Or.inl rfl | exact Or.inr rfl))) (fun _ _ _ _ _ => pts_nil) (fun _ _ _ _ _ => (pv 1)))) pss_nil), ?_⟩
    refine nx_go (frm_start (N := N_l_window) (n := 1) z sm hw (by rw [WLen.len hw]; rfl)) ?_
    show Nx _ _ [.imm rInt base_here0, .no]
    unfold m_l_window at h
    obtain ⟨l1, hl1, h⟩ := bindO_some h
    obtain ⟨l3, hl3, h⟩ := bindO_some h
    exact (sq_retC (ec_lc (m_l_window_c1) (it_rng3 (ew_C (ev_sub (ev_var rfl) ev_int) (ew_1 (ev_add (ev_var rfl) ev_int))) hl1) hl3 tg_name (fun k hk => hk) (by rfl) (fun _ => by rfl) (fun number2 o ho => by unfold m_l_window_c1 at ho; cases ho; exact ⟨et_yes, fun y hy => by cases hy; exact ev_to (ev_var rfl) rfl⟩)) h kr)
theorem ok_l_free (T : Txt K mg a) : FnOk P w K mg base CX0 2 a.f_l_free a.d_l_free ["_law_part", "_law_base_here", "_law_barred"] (SpP (wC (rOb (cHls (wC (rOpt rInt) (wC (rOpt rInt) (w1 (rOb (cLst rInt))))))) (wC rInt (w1 (rOb (cLst rInt))))) (rOpt rInt) (fun x => m_l_free x.1 x.2.1 x.2.2)) := by
  refine T.F_l_free.ok sc_l_free (fun vs H Q E h => ?_) (fun cdv A outer s H vs Q E hr h => ?_)
  · obtain ⟨B, x, b, z, sm, hw, h, kr⟩ := h
    rw [WLen.len hw]; rfl
  · obtain ⟨B, ⟨part0, base_here0, barred0⟩, b, z, sm, hw, h, kr⟩ := h
    have h : m_l_free part0 base_here0 barred0 = some b := h
    refine ⟨_, (pss_cons (ps_if (PW.pt (pw_or (pt_cmp (pc_isN (pe_ix (ix_listK (K := K) rfl) (pv 0) pe_int (fun _ _ => rfl)))) (pw_or1 (pt_cmp (pc_isN (pe_ix (ix_listK (K := K) rfl) (pv 0) pe_int (fun _ _ => rfl))))))) (pss_cons (ps_ret pe_non) pss_nil) pss_nil) (pss_cons (ps_setLc (i := 3) (own := [("_law_number", 4)]) rfl sc_l_free.nd rfl rfl (sw_true rfl rfl rfl (by decide +kernel)) (pi_list (pe_call (ok_l_window T) (hr.mono (by decide)) rfl T.g_l_window T.F_l_window.kp T.n_l_window .nil pass0 (pa_cons (pv 1) pa_nil))) (blkOk_by (N := N_l_free) (sc := defScope s_l_free) (by decide +kernel)) (fun _ _ _ _ _ => (pg_name (i := 4) sc_l_free.nd rfl (by first | exact Or.inl rfl | exact Or.inr rfl))) (fun _ _ _ _ _ => (pts_one (pt_val (pe_call (ok_l_in_part T) (hr.mono (by decide)) rfl T.g_l_in_part T.F_l_in_part.kp T.n_l_in_part .nil pass0 (pa_cons (pv 0) (pa_cons (pv 4) pa_nil)))))) (fun _ _ _ _ _ => (pv 4))) (pss_cons (ps_ret (pe_callB (len_seqK (K := K) rfl) (by rfl) T.b_len (by decide +kernel) (pa_cons (pe_lc (own := [("_law_number", 4)]) rfl sc_l_free.nd (pi_list (pv 3)) (blkOk_by (N := N_l_free) (sc := defScope s_l_free) (by decide +kernel)) (fun _ _ _ _ _ => (pg_name (i := 4) sc_l_free.nd rfl (by first | exact Or.inl rfl | exact Or.inr rfl))) (fun _ _ _ _ _ => (pts_one (pt_cmpR (notIn_seqK (K := K) rfl) (pv 4) (pv 2) rfl))) (fun _ _ _ _ _ => (pv 4))) pa_nil))) pss_nil))), ?_⟩
    refine nx_go (frm_start (N := N_l_free) (n := 2) z sm hw (by rw [WLen.len hw]; rfl)) ?_
    show Nx _ _ [.imm (rOb (cHls (wC (rOpt rInt) (wC (rOpt rInt) (w1 (rOb (cLst rInt))))))) part0, .imm rInt base_here0, .imm (rOb (cLst rInt)) barred0, .no, .no]
    unfold m_l_free at h
    obtain ⟨c1, hc1, h⟩ := letO_some h
    refine (sq_if (et_to (et_or0 (et_B (ev_isN (ev_ixR (k := 0) (ev_var rfl) (acc0)))) (et_B (ev_isN (ev_ixR (k := 1) (ev_var rfl) (accS (acc0)))))) hc1.symm) (fun hc => ?_) (fun hc => ?_))
    · have h := iteO_t hc h
      exact (sq_ret (ev_none (r := rInt)) h kr)
    · have h := iteO_f hc h
      refine nx_next ?_
      try dsimp only
      obtain ⟨v2, hv2, h⟩ := bindO_some h
      obtain ⟨l6, hl6, h⟩ := bindO_some h
      obtain ⟨inside7, hinside7, h⟩ := letO_some h
      refine (sq_asg (ev_to (ev_new (ec_lc (m_l_free_c1 part0) (it_list (ev_new (ec_call (ew_1 (ev_var rfl)) hv2))) hl6 tg_name (fun k hk => hk) (by rfl) (fun _ => by rfl) (fun number3 o ho => by unfold m_l_free_c1 at ho; obtain ⟨v4, hv4, ho⟩ := bindO_some ho; obtain ⟨c5, hc5, ho⟩ := letO_some ho; cases c5 with | true => (have ho : (some (some number3)) = some o := ho; cases ho; exact ⟨et_to (et_B (ev_call (ew_C (ev_var rfl) (ew_1 (ev_var rfl))) hv4)) hc5.symm, fun y hy => by cases hy; exact ev_to (ev_var rfl) rfl⟩) | false => (have ho : some none = some o := ho; cases ho; exact ⟨et_to (et_B (ev_call (ew_C (ev_var rfl) (ew_1 (ev_var rfl))) hv4)) hc5.symm, fun y hy => by cases hy⟩)))) hinside7.symm) ?_)
      show Nx _ _ [.imm (rOb (cHls (wC (rOpt rInt) (wC (rOpt rInt) (w1 (rOb (cLst rInt))))))) part0, .imm rInt base_here0, .imm (rOb (cLst rInt)) barred0, .imm (rOb (cLst rInt)) inside7, .no]
      obtain ⟨l10, hl10, h⟩ := bindO_some h
      exact (sq_ret (ev_some nn_int (ev_lenL (ev_new (ec_lc (m_l_free_c2 barred0) (it_list (ev_var rfl)) hl10 tg_name (fun k hk => hk) (by rfl) (fun _ => by rfl) (fun number8 o ho => by unfold m_l_free_c2 at ho; obtain ⟨c9, hc9, ho⟩ := letO_some ho; cases c9 with | true => (have ho : (some (some number8)) = some o := ho; cases ho; exact ⟨et_to (et_T (ev_ninL fl_int (ev_var rfl) (ev_var rfl))) hc9.symm, fun y hy => by cases hy; exact ev_to (ev_var rfl) rfl⟩) | false => (have ho : some none = some o := ho; cases ho; exact ⟨et_to (et_T (ev_ninL fl_int (ev_var rfl) (ev_var rfl))) hc9.symm, fun y hy => by cases hy⟩)))))) h kr)
theorem ok_l_asked (T : Txt K mg a) : FnOk P w K mg base CX0 4 a.f_l_asked a.d_l_asked ["_law_region", "_law_count", "_law_barred"] (SpM (mwI (rIns a.C_Region [("low" : Str), ("high" : Str), ("without" : Str), ("size" : Str), ("value" : Str), ("_gaps" : Str)] (wC (rOpt rInt) (wC (rOpt rInt) (wC (rOb (cTpl rInt)) (wC (rOpt rInt) (wC (rOpt rInt) (w1 (rOb (cDic kyInt rBool))))))))) (mwI rInt (mwI (rOb (cLst rInt)) mwN))) (tA (rOb (cTup (wC rStr (wC rInt (wC rBool (w1 rBool)))))) (tP rInt)) (fun g x => m_l_asked x.1 x.2.1 x.2.2.1)) := by
  refine T.F_l_asked.ok sc_l_asked (fun vs H Q E h => ?_) (fun cdv A outer s H vs Q E hr h => ?_)
  · obtain ⟨B, o, g, x, b, z, sm, ho, hw, hi, h, kr⟩ := h
    exact Mw.olen _ hw
  · obtain ⟨B, o, g, x, b, z, sm, ho, hw, hi, h, kr⟩ := h
    obtain ⟨gu⟩ := g
    obtain ⟨region0, count0, barred0, xu⟩ := x
    obtain ⟨v_0, t_0, rfl, hw⟩ := hw
    obtain ⟨_, _, e_0, r_0, hi⟩ := hi; cases e_0
    obtain ⟨v_1, t_1, rfl, hw⟩ := hw
    obtain ⟨_, _, e_1, r_1, hi⟩ := hi; cases e_1
    obtain ⟨v_2, t_2, rfl, hw⟩ := hw
    obtain ⟨_, _, e_2, r_2, hi⟩ := hi; cases e_2
    cases (show _ = ([] : List V) from hw)
    have h : m_l_asked region0 count0 barred0 = some b := h
    refine ⟨_, (pss_cons (ps_set (i := 3) sc_l_asked.nd rfl (by first | exact Or.inl rfl | exact Or.inr rfl) pe_non) (pss_cons (ps_tryG (i := 5) rfl rfl sc_l_asked.nd rfl rfl ⟨rfl, by decide, Or.inl T.g_TooFew⟩ takes0) (pss_cons (ps_if (pt_cmp (pc_notN (pv 3))) (pss_cons (ps_ret (pv 3)) pss_nil) pss_nil) (pss_cons (ps_ret (pe_tup (pa_cons pe_str (pa_cons (pv 4) pa_nil)))) pss_nil)))), ?_⟩
    refine nx_go (frm_startM (N := N_l_asked) (n := 3) (st_I r_0 (st_I r_1 (st_I r_2 st_N))) z sm ho rfl) ?_
    show Nx _ _ [.imm (rIns a.C_Region [("low" : Str), ("high" : Str), ("without" : Str), ("size" : Str), ("value" : Str), ("_gaps" : Str)] (wC (rOpt rInt) (wC (rOpt rInt) (wC (rOb (cTpl rInt)) (wC (rOpt rInt) (wC (rOpt rInt) (w1 (rOb (cDic kyInt rBool))))))))) region0, .imm rInt count0, .imm (rOb (cLst rInt)) barred0, .no, .no, .no]
    unfold m_l_asked at h
    obtain ⟨caught1, hcaught1, h⟩ := letO_some h
    refine (sq_asg (ev_to ev_non hcaught1.symm) ?_)
    show Nx _ _ [.imm (rIns a.C_Region [("low" : Str), ("high" : Str), ("without" : Str), ("size" : Str), ("value" : Str), ("_gaps" : Str)] (wC (rOpt rInt) (wC (rOpt rInt) (wC (rOb (cTpl rInt)) (wC (rOpt rInt) (wC (rOpt rInt) (w1 (rOb (cDic kyInt rBool))))))))) region0, .imm rInt count0, .imm (rOb (cLst rInt)) barred0, .imm rNon caught1, .no, .no]
    refine sq_try (fun pn xe tk po => (pss_cons (ps_set (i := 4) sc_l_asked.nd rfl (by first | exact Or.inl rfl | exact Or.inr rfl) (pe_methXK (n := 1) (pv 0) T.cl_Region T.me_Region_members (ok_Region_members (P := P) (w := w) (base := base) T) (hr.mono (Nat.le_of_ble_eq_true rfl)) T.kb_Region_members (fun σ => passAt tk σ) (pa_cons (pv 1) pa_nil) (pk_cons (pv 2) pk_nil))) pss_nil)) ?_
    show Nx _ _ [.imm (rIns a.C_Region [("low" : Str), ("high" : Str), ("without" : Str), ("size" : Str), ("value" : Str), ("_gaps" : Str)] (wC (rOpt rInt) (wC (rOpt rInt) (wC (rOb (cTpl rInt)) (wC (rOpt rInt) (wC (rOpt rInt) (w1 (rOb (cDic kyInt rBool))))))))) region0, .imm rInt count0, .imm (rOb (cLst rInt)) barred0, .imm rNon caught1, .no, .no]
    obtain ⟨r2, hr2, h⟩ := bindO_some h
    refine (sq_asgRC (er_methK1 (n := 1) (f := fun b y => (b, y)) (ev_var rfl) (ew_1 (ev_var rfl)) (ew_1 (ev_var rfl)) (fun B v vs u h1 h2 h3 => by obtain ⟨x, rfl, h2⟩ := h2; exact ⟨v, _, rfl, h1, x, _, rfl, h2, u, rfl, h3⟩) hr2 (by decide +kernel)) h (fun law_found3 h a_law_found3 na_law_found3 => ?_) (fun e4 h => ?_))
    · show Nx _ _ [.imm (rIns a.C_Region [("low" : Str), ("high" : Str), ("without" : Str), ("size" : Str), ("value" : Str), ("_gaps" : Str)] (wC (rOpt rInt) (wC (rOpt rInt) (wC (rOb (cTpl rInt)) (wC (rOpt rInt) (wC (rOpt rInt) (w1 (rOb (cDic kyInt rBool))))))))) region0, .imm rInt count0, .imm (rOb (cLst rInt)) barred0, .imm rNon caught1, .cel a_law_found3 (cLst rInt) law_found3, .no]
      refine nx_next ?_
      show Nx _ _ [.imm (rIns a.C_Region [("low" : Str), ("high" : Str), ("without" : Str), ("size" : Str), ("value" : Str), ("_gaps" : Str)] (wC (rOpt rInt) (wC (rOpt rInt) (wC (rOb (cTpl rInt)) (wC (rOpt rInt) (wC (rOpt rInt) (w1 (rOb (cDic kyInt rBool))))))))) region0, .imm rInt count0, .imm (rOb (cLst rInt)) barred0, .imm rNon caught1, .cel a_law_found3 (cLst rInt) law_found3, .no]
      obtain ⟨c5, hc5, h⟩ := letO_some h
      refine (sq_if (et_to (et_B (ev_to (ev_notN (ev_nonO (r := rInt) (ev_var rfl))) rfl)) hc5.symm) (fun hc => ?_) (fun hc => ?_))
      · have h := iteO_t hc h
        cases h
      · have h := iteO_f hc h
        refine nx_next ?_
        try dsimp only
        exact (sq_retMP (i := 4) ⟨rfl, rfl⟩ rfl na_law_found3 (by decide) ((oa_I (oa_I (oa_I oa_N))) : OwnAt _ 3 0 _ _ _) h kr)
    · refine nxe_as T.e_TooFew_TooFew (fun p6 d7 => ⟨_, fun oe pn hz hf => (pss_cons (ps_set (i := 3) sc_l_asked.nd rfl (by first | exact Or.inl rfl | exact Or.inr rfl) (pe_tup (pa_cons pe_str (pa_cons (pe_xf T.xf_TooFew T.na_TooFew_count hz hf (pv 5)) (pa_cons (pe_callB (call_isX (K := K) rfl T.xc_TooFew hz hf) (by rfl) T.b_isinstance (by decide +kernel) (pa_cons (pv 5) (pa_cons (pe_bltn (v := .ty "ValueError") (by rfl) T.b_ValueError (by decide +kernel) rfl) pa_nil))) (pa_cons (pe_callB (call_isX (K := K) rfl T.xc_TooFew hz hf) (by rfl) T.b_isinstance (by decide +kernel) (pa_cons (pv 5) (pa_cons (pe_glob (v := .ref a.C_BadSign) (by rfl) T.g_BadSign rfl) pa_nil))) pa_nil)))))) pss_nil), ?_⟩)
      show Nx _ _ [.imm (rIns a.C_Region [("low" : Str), ("high" : Str), ("without" : Str), ("size" : Str), ("value" : Str), ("_gaps" : Str)] (wC (rOpt rInt) (wC (rOpt rInt) (wC (rOb (cTpl rInt)) (wC (rOpt rInt) (wC (rOpt rInt) (w1 (rOb (cDic kyInt rBool))))))))) region0, .imm rInt count0, .imm (rOb (cLst rInt)) barred0, .imm rNon caught1, .no, .imm (rExc p6 d7 a.C_TooFew [("count" : Str)] (w1 rInt)) e4]
      obtain ⟨caught8, hcaught8, h⟩ := letO_some h
      refine (sq_asg (ev_to (ev_new (ec_tup (ew_C ev_str (ew_C (ev_xf (ev_var rfl) (acc1) rfl) (ew_C (ev_isX (ev_var rfl) (.ty _) T.q_TooFew_ValueError) (ew_1 (ev_isX (ev_var rfl) (.own _) T.q_TooFew_BadSign))))))) hcaught8.symm) ?_)
      show Nx _ _ [.imm (rIns a.C_Region [("low" : Str), ("high" : Str), ("without" : Str), ("size" : Str), ("value" : Str), ("_gaps" : Str)] (wC (rOpt rInt) (wC (rOpt rInt) (wC (rOb (cTpl rInt)) (wC (rOpt rInt) (wC (rOpt rInt) (w1 (rOb (cDic kyInt rBool))))))))) region0, .imm rInt count0, .imm (rOb (cLst rInt)) barred0, .imm (rOb (cTup (wC rStr (wC rInt (wC rBool (w1 rBool)))))) caught8, .no, .imm (rExc p6 d7 a.C_TooFew [("count" : Str)] (w1 rInt)) e4]
      refine nx_next ?_
      refine nx_unsetE ?_
      show Nx _ _ [.imm (rIns a.C_Region [("low" : Str), ("high" : Str), ("without" : Str), ("size" : Str), ("value" : Str), ("_gaps" : Str)] (wC (rOpt rInt) (wC (rOpt rInt) (wC (rOb (cTpl rInt)) (wC (rOpt rInt) (wC (rOpt rInt) (w1 (rOb (cDic kyInt rBool))))))))) region0, .imm rInt count0, .imm (rOb (cLst rInt)) barred0, .imm (rOb (cTup (wC rStr (wC rInt (wC rBool (w1 rBool)))))) caught8, .no, .no]
      obtain ⟨c9, hc9, h⟩ := letO_some h
      refine (sq_if (et_to (et_B (ev_to (ev_notN (ev_some nn_ob (ev_var rfl))) rfl)) hc9.symm) (fun hc => ?_) (fun hc => ?_))
      · have h := iteO_t hc h
        exact (sq_retMAl ⟨rfl, rfl⟩ (ev_var rfl) ((oa_I (oa_I (oa_I oa_N))) : OwnAt _ 3 0 _ _ _) h kr)
      · have h := iteO_f hc h
        cases h
theorem ok_l_asked_Vk (T : Txt K mg a) : FnOk P w K mg base CX0 4 a.f_l_asked a.d_l_asked ["_law_region", "_law_count", "_law_barred"] (SpM (mwI (rIns a.C_Region [("low" : Str), ("high" : Str), ("without" : Str), ("size" : Str), ("value" : Str), ("_gaps" : Str)] (wC (rOpt rInt) (wC (rOpt rInt) (wC (rOb (cTpl rInt)) (wC (rOpt rInt) (wC (rOpt rInt) (w1 (rOb (cDic kyInt rBool))))))))) (mwI rInt (mwI (rTK K rInt) mwN))) (tA (rOb (cTup (wC rStr (wC rInt (wC rBool (w1 rBool)))))) (tP rInt)) (fun g x => m_l_asked_Vk x.1 x.2.1 x.2.2.1)) := by
  refine T.F_l_asked.ok sc_l_asked (fun vs H Q E h => ?_) (fun cdv A outer s H vs Q E hr h => ?_)
  · obtain ⟨B, o, g, x, b, z, sm, ho, hw, hi, h, kr⟩ := h
    exact Mw.olen _ hw
  · obtain ⟨B, o, g, x, b, z, sm, ho, hw, hi, h, kr⟩ := h
    obtain ⟨gu⟩ := g
    obtain ⟨region0, count0, barred0, xu⟩ := x
    obtain ⟨v_0, t_0, rfl, hw⟩ := hw
    obtain ⟨_, _, e_0, r_0, hi⟩ := hi; cases e_0
    obtain ⟨v_1, t_1, rfl, hw⟩ := hw
    obtain ⟨_, _, e_1, r_1, hi⟩ := hi; cases e_1
    obtain ⟨v_2, t_2, rfl, hw⟩ := hw
    obtain ⟨_, _, e_2, r_2, hi⟩ := hi; cases e_2
    cases (show _ = ([] : List V) from hw)
    have h : m_l_asked_Vk region0 count0 barred0 = some b := h
    refine ⟨_, (pss_cons (ps_set (i := 3) sc_l_asked.nd rfl (by first | exact Or.inl rfl | exact Or.inr rfl) pe_non) (pss_cons (ps_tryG (i := 5) rfl rfl sc_l_asked.nd rfl rfl ⟨rfl, by decide, Or.inl T.g_TooFew⟩ takes0) (pss_cons (ps_if (pt_cmp (pc_notN (pv 3))) (pss_cons (ps_ret (pv 3)) pss_nil) pss_nil) (pss_cons (ps_ret (pe_tup (pa_cons pe_str (pa_cons (pv 4) pa_nil)))) pss_nil)))), ?_⟩
    refine nx_go (frm_startM (N := N_l_asked) (n := 3) (st_I r_0 (st_I r_1 (st_I r_2 st_N))) z sm ho rfl) ?_
    show Nx _ _ [.imm (rIns a.C_Region [("low" : Str), ("high" : Str), ("without" : Str), ("size" : Str), ("value" : Str), ("_gaps" : Str)] (wC (rOpt rInt) (wC (rOpt rInt) (wC (rOb (cTpl rInt)) (wC (rOpt rInt) (wC (rOpt rInt) (w1 (rOb (cDic kyInt rBool))))))))) region0, .imm rInt count0, .imm (rTK K rInt) barred0, .no, .no, .no]
    unfold m_l_asked_Vk at h
    obtain ⟨caught1, hcaught1, h⟩ := letO_some h
    refine (sq_asg (ev_to ev_non hcaught1.symm) ?_)
    show Nx _ _ [.imm (rIns a.C_Region [("low" : Str), ("high" : Str), ("without" : Str), ("size" : Str), ("value" : Str), ("_gaps" : Str)] (wC (rOpt rInt) (wC (rOpt rInt) (wC (rOb (cTpl rInt)) (wC (rOpt rInt) (wC (rOpt rInt) (w1 (rOb (cDic kyInt rBool))))))))) region0, .imm rInt count0, .imm (rTK K rInt) barred0, .imm rNon caught1, .no, .no]
    refine sq_try (fun pn xe tk po => (pss_cons (ps_set (i := 4) sc_l_asked.nd rfl (by first | exact Or.inl rfl | exact Or.inr rfl) (pe_methXK (n := 1) (pv 0) T.cl_Region T.me_Region_members (ok_Region_members_Vk (P := P) (w := w) (base := base) T) (hr.mono (Nat.le_of_ble_eq_true rfl)) T.kb_Region_members (fun σ => passAt tk σ) (pa_cons (pv 1) pa_nil) (pk_cons (pv 2) pk_nil))) pss_nil)) ?_
    show Nx _ _ [.imm (rIns a.C_Region [("low" : Str), ("high" : Str), ("without" : Str), ("size" : Str), ("value" : Str), ("_gaps" : Str)] (wC (rOpt rInt) (wC (rOpt rInt) (wC (rOb (cTpl rInt)) (wC (rOpt rInt) (wC (rOpt rInt) (w1 (rOb (cDic kyInt rBool))))))))) region0, .imm rInt count0, .imm (rTK K rInt) barred0, .imm rNon caught1, .no, .no]
    obtain ⟨r2, hr2, h⟩ := bindO_some h
    refine (sq_asgRC (er_methK1 (n := 1) (f := fun b y => (b, y)) (ev_var rfl) (ew_1 (ev_var rfl)) (ew_1 (ev_var rfl)) (fun B v vs u h1 h2 h3 => by obtain ⟨x, rfl, h2⟩ := h2; exact ⟨v, _, rfl, h1, x, _, rfl, h2, u, rfl, h3⟩) hr2 (by decide +kernel)) h (fun law_found3 h a_law_found3 na_law_found3 => ?_) (fun e4 h => ?_))
    · show Nx _ _ [.imm (rIns a.C_Region [("low" : Str), ("high" : Str), ("without" : Str), ("size" : Str), ("value" : Str), ("_gaps" : Str)] (wC (rOpt rInt) (wC (rOpt rInt) (wC (rOb (cTpl rInt)) (wC (rOpt rInt) (wC (rOpt rInt) (w1 (rOb (cDic kyInt rBool))))))))) region0, .imm rInt count0, .imm (rTK K rInt) barred0, .imm rNon caught1, .cel a_law_found3 (cLst rInt) law_found3, .no]
      refine nx_next ?_
      show Nx _ _ [.imm (rIns a.C_Region [("low" : Str), ("high" : Str), ("without" : Str), ("size" : Str), ("value" : Str), ("_gaps" : Str)] (wC (rOpt rInt) (wC (rOpt rInt) (wC (rOb (cTpl rInt)) (wC (rOpt rInt) (wC (rOpt rInt) (w1 (rOb (cDic kyInt rBool))))))))) region0, .imm rInt count0, .imm (rTK K rInt) barred0, .imm rNon caught1, .cel a_law_found3 (cLst rInt) law_found3, .no]
      obtain ⟨c5, hc5, h⟩ := letO_some h
      refine (sq_if (et_to (et_B (ev_to (ev_notN (ev_nonO (r := rInt) (ev_var rfl))) rfl)) hc5.symm) (fun hc => ?_) (fun hc => ?_))
      · have h := iteO_t hc h
        cases h
      · have h := iteO_f hc h
        refine nx_next ?_
        try dsimp only
        exact (sq_retMP (i := 4) ⟨rfl, rfl⟩ rfl na_law_found3 (by decide) ((oa_I (oa_I (oa_I oa_N))) : OwnAt _ 3 0 _ _ _) h kr)
    · refine nxe_as T.e_TooFew_TooFew (fun p6 d7 => ⟨_, fun oe pn hz hf => (pss_cons (ps_set (i := 3) sc_l_asked.nd rfl (by first | exact Or.inl rfl | exact Or.inr rfl) (pe_tup (pa_cons pe_str (pa_cons (pe_xf T.xf_TooFew T.na_TooFew_count hz hf (pv 5)) (pa_cons (pe_callB (call_isX (K := K) rfl T.xc_TooFew hz hf) (by rfl) T.b_isinstance (by decide +kernel) (pa_cons (pv 5) (pa_cons (pe_bltn (v := .ty "ValueError") (by rfl) T.b_ValueError (by decide +kernel) rfl) pa_nil))) (pa_cons (pe_callB (call_isX (K := K) rfl T.xc_TooFew hz hf) (by rfl) T.b_isinstance (by decide +kernel) (pa_cons (pv 5) (pa_cons (pe_glob (v := .ref a.C_BadSign) (by rfl) T.g_BadSign rfl) pa_nil))) pa_nil)))))) pss_nil), ?_⟩)
      show Nx _ _ [.imm (rIns a.C_Region [("low" : Str), ("high" : Str), ("without" : Str), ("size" : Str), ("value" : Str), ("_gaps" : Str)] (wC (rOpt rInt) (wC (rOpt rInt) (wC (rOb (cTpl rInt)) (wC (rOpt rInt) (wC (rOpt rInt) (w1 (rOb (cDic kyInt rBool))))))))) region0, .imm rInt count0, .imm (rTK K rInt) barred0, .imm rNon caught1, .no, .imm (rExc p6 d7 a.C_TooFew [("count" : Str)] (w1 rInt)) e4]
      obtain ⟨caught8, hcaught8, h⟩ := letO_some h
      refine (sq_asg (ev_to (ev_new (ec_tup (ew_C ev_str (ew_C (ev_xf (ev_var rfl) (acc1) rfl) (ew_C (ev_isX (ev_var rfl) (.ty _) T.q_TooFew_ValueError) (ew_1 (ev_isX (ev_var rfl) (.own _) T.q_TooFew_BadSign))))))) hcaught8.symm) ?_)
      show Nx _ _ [.imm (rIns a.C_Region [("low" : Str), ("high" : Str), ("without" : Str), ("size" : Str), ("value" : Str), ("_gaps" : Str)] (wC (rOpt rInt) (wC (rOpt rInt) (wC (rOb (cTpl rInt)) (wC (rOpt rInt) (wC (rOpt rInt) (w1 (rOb (cDic kyInt rBool))))))))) region0, .imm rInt count0, .imm (rTK K rInt) barred0, .imm (rOb (cTup (wC rStr (wC rInt (wC rBool (w1 rBool)))))) caught8, .no, .imm (rExc p6 d7 a.C_TooFew [("count" : Str)] (w1 rInt)) e4]
      refine nx_next ?_
      refine nx_unsetE ?_
      show Nx _ _ [.imm (rIns a.C_Region [("low" : Str), ("high" : Str), ("without" : Str), ("size" : Str), ("value" : Str), ("_gaps" : Str)] (wC (rOpt rInt) (wC (rOpt rInt) (wC (rOb (cTpl rInt)) (wC (rOpt rInt) (wC (rOpt rInt) (w1 (rOb (cDic kyInt rBool))))))))) region0, .imm rInt count0, .imm (rTK K rInt) barred0, .imm (rOb (cTup (wC rStr (wC rInt (wC rBool (w1 rBool)))))) caught8, .no, .no]
      obtain ⟨c9, hc9, h⟩ := letO_some h
      refine (sq_if (et_to (et_B (ev_to (ev_notN (ev_some nn_ob (ev_var rfl))) rfl)) hc9.symm) (fun hc => ?_) (fun hc => ?_))
      · have h := iteO_t hc h
        exact (sq_retMAl ⟨rfl, rfl⟩ (ev_var rfl) ((oa_I (oa_I (oa_I oa_N))) : OwnAt _ 3 0 _ _ _) h kr)
      · have h := iteO_f hc h
        cases h
theorem ok_l_base_caught (T : Txt K mg a) : FnOk P w K mg base CX0 4 a.f_l_base_caught a.d_l_base_caught ["_law_region", "_law_count", "_law_barred"] (SpP (wC (rIns a.C_Region [("low" : Str), ("high" : Str), ("without" : Str), ("size" : Str), ("value" : Str), ("_gaps" : Str)] (wC (rOpt rInt) (wC (rOpt rInt) (wC (rOb (cTpl rInt)) (wC (rOpt rInt) (wC (rOpt rInt) (w1 (rOb (cDic kyInt rBool))))))))) (wC rInt (w1 (rOb (cLst rInt))))) rBool (fun x => m_l_base_caught x.1 x.2.1 x.2.2)) := by
  refine T.F_l_base_caught.ok sc_l_base_caught (fun vs H Q E h => ?_) (fun cdv A outer s H vs Q E hr h => ?_)
  · obtain ⟨B, x, b, z, sm, hw, h, kr⟩ := h
    rw [WLen.len hw]; rfl
  · obtain ⟨B, ⟨region0, count0, barred0⟩, b, z, sm, hw, h, kr⟩ := h
    have h : m_l_base_caught region0 count0 barred0 = some b := h
    refine ⟨_, (pss_cons (ps_set (i := 3) sc_l_base_caught.nd rfl (by first | exact Or.inl rfl | exact Or.inr rfl) pe_non) (pss_cons (ps_tryG (i := 4) rfl rfl sc_l_base_caught.nd rfl rfl ⟨rfl, by decide, Or.inl T.g_ShownError⟩ takes0) (pss_cons (ps_if (pt_cmp (pc_notN (pv 3))) (pss_cons (ps_ret (pv 3)) pss_nil) pss_nil) (pss_cons (ps_ret pe_bl) pss_nil)))), ?_⟩
    refine nx_go (frm_start (N := N_l_base_caught) (n := 2) z sm hw (by rw [WLen.len hw]; rfl)) ?_
    show Nx _ _ [.imm (rIns a.C_Region [("low" : Str), ("high" : Str), ("without" : Str), ("size" : Str), ("value" : Str), ("_gaps" : Str)] (wC (rOpt rInt) (wC (rOpt rInt) (wC (rOb (cTpl rInt)) (wC (rOpt rInt) (wC (rOpt rInt) (w1 (rOb (cDic kyInt rBool))))))))) region0, .imm rInt count0, .imm (rOb (cLst rInt)) barred0, .no, .no]
    unfold m_l_base_caught at h
    obtain ⟨caught1, hcaught1, h⟩ := letO_some h
    refine (sq_asg (ev_to ev_non hcaught1.symm) ?_)
    show Nx _ _ [.imm (rIns a.C_Region [("low" : Str), ("high" : Str), ("without" : Str), ("size" : Str), ("value" : Str), ("_gaps" : Str)] (wC (rOpt rInt) (wC (rOpt rInt) (wC (rOb (cTpl rInt)) (wC (rOpt rInt) (wC (rOpt rInt) (w1 (rOb (cDic kyInt rBool))))))))) region0, .imm rInt count0, .imm (rOb (cLst rInt)) barred0, .imm rNon caught1, .no]
    refine sq_try (fun pn xe tk po => (pss_cons (ps_expr (pe_methXK (n := 1) (pv 0) T.cl_Region T.me_Region_members (ok_Region_members (P := P) (w := w) (base := base) T) (hr.mono (Nat.le_of_ble_eq_true rfl)) T.kb_Region_members (fun σ => passAt tk σ) (pa_cons (pv 1) pa_nil) (pk_cons (pv 2) pk_nil))) pss_nil)) ?_
    show Nx _ _ [.imm (rIns a.C_Region [("low" : Str), ("high" : Str), ("without" : Str), ("size" : Str), ("value" : Str), ("_gaps" : Str)] (wC (rOpt rInt) (wC (rOpt rInt) (wC (rOb (cTpl rInt)) (wC (rOpt rInt) (wC (rOpt rInt) (w1 (rOb (cDic kyInt rBool))))))))) region0, .imm rInt count0, .imm (rOb (cLst rInt)) barred0, .imm rNon caught1, .no]
    obtain ⟨r2, hr2, h⟩ := bindO_some h
    refine (sq_dropRC (er_methK1 (n := 1) (f := fun b y => (b, y)) (ev_var rfl) (ew_1 (ev_var rfl)) (ew_1 (ev_var rfl)) (fun B v vs u h1 h2 h3 => by obtain ⟨x, rfl, h2⟩ := h2; exact ⟨v, _, rfl, h1, x, _, rfl, h2, u, rfl, h3⟩) hr2 (by decide +kernel)) h (fun y3 h => ?_) (fun e4 h => ?_))
    · show Nx _ _ [.imm (rIns a.C_Region [("low" : Str), ("high" : Str), ("without" : Str), ("size" : Str), ("value" : Str), ("_gaps" : Str)] (wC (rOpt rInt) (wC (rOpt rInt) (wC (rOb (cTpl rInt)) (wC (rOpt rInt) (wC (rOpt rInt) (w1 (rOb (cDic kyInt rBool))))))))) region0, .imm rInt count0, .imm (rOb (cLst rInt)) barred0, .imm rNon caught1, .no]
      refine nx_next ?_
      show Nx _ _ [.imm (rIns a.C_Region [("low" : Str), ("high" : Str), ("without" : Str), ("size" : Str), ("value" : Str), ("_gaps" : Str)] (wC (rOpt rInt) (wC (rOpt rInt) (wC (rOb (cTpl rInt)) (wC (rOpt rInt) (wC (rOpt rInt) (w1 (rOb (cDic kyInt rBool))))))))) region0, .imm rInt count0, .imm (rOb (cLst rInt)) barred0, .imm rNon caught1, .no]
      obtain ⟨c5, hc5, h⟩ := letO_some h
      refine (sq_if (et_to (et_B (ev_to (ev_notN (ev_nonO (r := rInt) (ev_var rfl))) rfl)) hc5.symm) (fun hc => ?_) (fun hc => ?_))
      · have h := iteO_t hc h
        cases h
      · have h := iteO_f hc h
        refine nx_next ?_
        try dsimp only
        exact (sq_ret ev_bl h kr)
    · refine nxe_as T.e_TooFew_ShownError (fun p6 d7 => ⟨_, fun oe pn hz hf => (pss_cons (ps_set (i := 3) sc_l_base_caught.nd rfl (by first | exact Or.inl rfl | exact Or.inr rfl) (pe_callB (call_isX (K := K) rfl T.xc_TooFew hz hf) (by rfl) T.b_isinstance (by decide +kernel) (pa_cons (pv 4) (pa_cons (pe_glob (v := .ref a.C_TooFew) (by rfl) T.g_TooFew rfl) pa_nil)))) pss_nil), ?_⟩)
      show Nx _ _ [.imm (rIns a.C_Region [("low" : Str), ("high" : Str), ("without" : Str), ("size" : Str), ("value" : Str), ("_gaps" : Str)] (wC (rOpt rInt) (wC (rOpt rInt) (wC (rOb (cTpl rInt)) (wC (rOpt rInt) (wC (rOpt rInt) (w1 (rOb (cDic kyInt rBool))))))))) region0, .imm rInt count0, .imm (rOb (cLst rInt)) barred0, .imm rNon caught1, .imm (rExc p6 d7 a.C_TooFew [("count" : Str)] (w1 rInt)) e4]
      obtain ⟨caught8, hcaught8, h⟩ := letO_some h
      refine (sq_asg (ev_to (ev_isX (ev_var rfl) (.own _) T.q_TooFew_TooFew) hcaught8.symm) ?_)
      show Nx _ _ [.imm (rIns a.C_Region [("low" : Str), ("high" : Str), ("without" : Str), ("size" : Str), ("value" : Str), ("_gaps" : Str)] (wC (rOpt rInt) (wC (rOpt rInt) (wC (rOb (cTpl rInt)) (wC (rOpt rInt) (wC (rOpt rInt) (w1 (rOb (cDic kyInt rBool))))))))) region0, .imm rInt count0, .imm (rOb (cLst rInt)) barred0, .imm rBool caught8, .imm (rExc p6 d7 a.C_TooFew [("count" : Str)] (w1 rInt)) e4]
      refine nx_next ?_
      refine nx_unsetE ?_
      show Nx _ _ [.imm (rIns a.C_Region [("low" : Str), ("high" : Str), ("without" : Str), ("size" : Str), ("value" : Str), ("_gaps" : Str)] (wC (rOpt rInt) (wC (rOpt rInt) (wC (rOb (cTpl rInt)) (wC (rOpt rInt) (wC (rOpt rInt) (w1 (rOb (cDic kyInt rBool))))))))) region0, .imm rInt count0, .imm (rOb (cLst rInt)) barred0, .imm rBool caught8, .no]
      obtain ⟨c9, hc9, h⟩ := letO_some h
      refine (sq_if (et_to (et_B (ev_to (ev_notN (ev_some nn_bool (ev_var rfl))) rfl)) hc9.symm) (fun hc => ?_) (fun hc => ?_))
      · have h := iteO_t hc h
        exact (sq_ret (ev_var rfl) h kr)
      · have h := iteO_f hc h
        cases h
theorem ok_l_good (T : Txt K mg a) : FnOk P w K mg base CX0 2 a.f_l_good a.d_l_good ["_law_found", "_law_part", "_law_count", "_law_barred"] (SpP (wC (rOb (cLst rInt)) (wC (rOb (cHls (wC (rOpt rInt) (wC (rOpt rInt) (w1 (rOb (cLst rInt))))))) (wC rInt (w1 (rOb (cLst rInt)))))) rBool (fun x => m_l_good x.1 x.2.1 x.2.2.1 x.2.2.2)) := by
  refine T.F_l_good.ok sc_l_good (fun vs H Q E h => ?_) (fun cdv A outer s H vs Q E hr h => ?_)
  · obtain ⟨B, x, b, z, sm, hw, h, kr⟩ := h
    rw [WLen.len hw]; rfl
  · obtain ⟨B, ⟨found0, part0, count0, barred0⟩, b, z, sm, hw, h, kr⟩ := h
    have h : m_l_good found0 part0 count0 barred0 = some b := h
    refine ⟨_, (pss_cons (ps_if (PW.pt (pw_or (pt_not (pt_val (pe_callB (isiK (K := K) rfl) (by rfl) T.b_isinstance (by decide +kernel) (pa_cons (pv 0) (pa_cons (pe_bltn (v := .ty "list") (by rfl) T.b_list boot_list rfl) pa_nil))))) (pw_or1 (pt_cmpR op_ne (pe_callB (len_seqK (K := K) rfl) (by rfl) T.b_len (by decide +kernel) (pa_cons (pv 0) pa_nil)) (pv 2) (nomark _))))) (pss_cons (ps_ret pe_bl) pss_nil) pss_nil) (pss_cons (ps_for PassesOwn.never rfl (pi_range1 rfl T.b_range (pa_cons (pv 2) pa_nil)) (pg_name (i := 4) sc_l_good.nd rfl (by first | exact Or.inl rfl | exact Or.inr rfl)) (pss_cons (ps_if (PW.pt (pw_or (pt_not (pt_val (pe_call (ok_l_is_integer T) (hr.mono (by decide)) rfl T.g_l_is_integer T.F_l_is_integer.kp T.n_l_is_integer .nil pass0 (pa_cons (pe_ix (ix_listK (K := K) rfl) (pv 0) (pv 4) (fun _ _ => rfl)) pa_nil)))) (pw_or (pt_cmpR (in_seqK (K := K) rfl) (pe_ix (ix_listK (K := K) rfl) (pv 0) (pv 4) (fun _ _ => rfl)) (pv 3) rfl) (pw_or1 (pt_not (pt_val (pe_call (ok_l_in_part T) (hr.mono (by decide)) rfl T.g_l_in_part T.F_l_in_part.kp T.n_l_in_part .nil pass0 (pa_cons (pv 1) (pa_cons (pe_ix (ix_listK (K := K) rfl) (pv 0) (pv 4) (fun _ _ => rfl)) pa_nil))))))))) (pss_cons (ps_ret pe_bl) pss_nil) pss_nil) (pss_cons (ps_if (PW.pt (pw_and (pt_cmpR op_gt (pv 4) pe_int (nomark _)) (pw_and1 (pt_cmpR op_ge (pe_ix (ix_listK (K := K) rfl) (pv 0) (pe_op op_sub (pv 4) pe_int) (fun _ _ => rfl)) (pe_ix (ix_listK (K := K) rfl) (pv 0) (pv 4) (fun _ _ => rfl)) (nomark _))))) (pss_cons (ps_ret pe_bl) pss_nil) pss_nil) pss_nil))) (pss_cons (ps_ret pe_bl) pss_nil))), ?_⟩
    refine nx_go (frm_start (N := N_l_good) (n := 1) z sm hw (by rw [WLen.len hw]; rfl)) ?_
    show Nx _ _ [.imm (rOb (cLst rInt)) found0, .imm (rOb (cHls (wC (rOpt rInt) (wC (rOpt rInt) (w1 (rOb (cLst rInt))))))) part0, .imm rInt count0, .imm (rOb (cLst rInt)) barred0, .no]
    unfold m_l_good at h
    obtain ⟨c1, hc1, h⟩ := letO_some h
    refine (sq_if (et_to (et_or0 (et_not (et_B (ev_isi (ev_var rfl) ty_lst (.ty _) (kit_ty (by decide +kernel))))) (et_T (ev_neS scInt (ev_lenL (ev_var rfl)) (ev_var rfl) rfl))) hc1.symm) (fun hc => ?_) (fun hc => ?_))
    · have h := iteO_t hc h
      exact (sq_ret ev_bl h kr)
    · have h := iteO_f hc h
      refine nx_next ?_
      try dsimp only
      obtain ⟨l2, hl2, h⟩ := bindO_some h
      obtain ⟨R20, hR20, h⟩ := bindO_some h
      refine (sq_for (ψ := psi rBool) (m_l_good_b1 found0 part0 barred0) (fun z => [.imm (rOb (cLst rInt)) found0, .imm (rOb (cHls (wC (rOpt rInt) (wC (rOpt rInt) (w1 (rOb (cLst rInt))))))) part0, .imm rInt count0, .imm (rOb (cLst rInt)) barred0, .no]) (it_rng1 (ew_1 (ev_var rfl)) hl2) hR20 (fun A1 _ => ?_) (fun _ => tg_name) (fun A1 D1 k4 s3 st hA1 h k1 => ?_) ?_ ?_)
      · exact nx_fin
      · show Nx _ _ [.imm (rOb (cLst rInt)) found0, .imm (rOb (cHls (wC (rOpt rInt) (wC (rOpt rInt) (w1 (rOb (cLst rInt))))))) part0, .imm rInt count0, .imm (rOb (cLst rInt)) barred0, .imm rInt k4]
        unfold m_l_good_b1 at h
        obtain ⟨y5, hy5, h⟩ := bindO_some h
        obtain ⟨v6, hv6, h⟩ := bindO_some h
        obtain ⟨c13, hc13, h⟩ := letO_some h
        obtain ⟨b12, hb12, h⟩ := bindO_some h
        obtain ⟨c14, hc14, h⟩ := letO_some h
        refine (sq_if (et_to (et_or (et_to (et_not (et_B (ev_call (ew_1 (ev_ixL (ev_var rfl) (ev_var rfl) hy5)) hv6))) hc13.symm) (fun hc => by have hx := iteO_f hc hb12; obtain ⟨y7, hy7, hx⟩ := bindO_some hx; obtain ⟨c11, hc11, hx⟩ := letO_some hx; obtain ⟨b10, hb10, hx⟩ := bindO_some hx; exact et_to (et_or (et_to (et_T (ev_inL fl_int (ev_ixL (ev_var rfl) (ev_var rfl) hy7) (ev_var rfl))) hc11.symm) (fun hc => by have hx := iteO_f hc hb10; obtain ⟨y8, hy8, hx⟩ := bindO_some hx; obtain ⟨v9, hv9, hx⟩ := bindO_some hx; exact et_to (et_not (et_B (ev_call (ew_C (ev_var rfl) (ew_1 (ev_ixL (ev_var rfl) (ev_var rfl) hy8))) hv9))) (Option.some.inj hx)) (fun hc => ⟨(Option.some.inj (iteO_t hc hb10)).symm, rfl⟩)) (Option.some.inj hx)) (fun hc => ⟨(Option.some.inj (iteO_t hc hb12)).symm, rfl⟩)) hc14.symm) (fun hc => ?_) (fun hc => ?_))
        · have h := iteO_t hc h
          exact (sq_ret ev_bl rfl (k1.rt _ (Option.some.inj h).symm))
        · have h := iteO_f hc h
          refine nx_next ?_
          try dsimp only
          obtain ⟨c18, hc18, h⟩ := letO_some h
          obtain ⟨b17, hb17, h⟩ := bindO_some h
          obtain ⟨c19, hc19, h⟩ := letO_some h
          refine (sq_if (et_to (et_and (et_to (et_T (ev_gt (ev_var rfl) ev_int)) hc18.symm) (fun hc => by have hx := iteO_t hc hb17; obtain ⟨y15, hy15, hx⟩ := bindO_some hx; obtain ⟨y16, hy16, hx⟩ := bindO_some hx; exact et_to (et_T (ev_ge (ev_ixL (ev_var rfl) (ev_sub (ev_var rfl) ev_int) hy15) (ev_ixL (ev_var rfl) (ev_var rfl) hy16))) (Option.some.inj hx)) (fun hc => ⟨(Option.some.inj (iteO_f hc hb17)).symm, rfl⟩)) hc19.symm) (fun hc => ?_) (fun hc => ?_))
          · have h := iteO_t hc h
            exact (sq_ret ev_bl rfl (k1.rt _ (Option.some.inj h).symm))
          · have h := iteO_f hc h
            refine nx_next ?_
            try dsimp only
            refine nx_next ?_
            refine nx_forget 4 ?_
            exact k1.nx _ (Option.some.inj h).symm
      · intro b e
        subst e
        obtain rfl := stepO_ret h; exact kr
      · intro e21 e
        subst e
        have h := stepO_nx h
        show Nx _ _ [.imm (rOb (cLst rInt)) found0, .imm (rOb (cHls (wC (rOpt rInt) (wC (rOpt rInt) (w1 (rOb (cLst rInt))))))) part0, .imm rInt count0, .imm (rOb (cLst rInt)) barred0, .no]
        exact (sq_ret ev_bl h kr)
theorem ok_law (T : Txt K mg a) : FnOk P w K mg base CX0 5 a.f_law a.d_law ["_law_script"] (SpL (w1 (rScr K)) rBool (fun x => m_law x)) := by
  refine T.F_law.ok sc_law (fun vs H Q E h => ?_) (fun cdv A outer s H vs Q E hr h => ?_)
  · obtain ⟨B, x, b, sm, hw, h, kr⟩ := h
    rw [WLen.len hw]; rfl
  · obtain ⟨B, script0, b, sm, hw, h, kr⟩ := h
    have h : m_law script0 = some b := h
    refine ⟨_, pss_sz (pss_cons (ps_set (i := 1) sc_law.nd rfl (by first | exact Or.inl rfl | exact Or.inr rfl) (pe_call (ok_l_start T) (hr.mono (by decide)) rfl T.g_l_start T.F_l_start.kp T.n_l_start .nil pass0 (pa_cons (pv 0) pa_nil))) (pss_cons (ps_set (i := 2) sc_law.nd rfl (by first | exact Or.inl rfl | exact Or.inr rfl) (pe_call (ok_l_draw T) (hr.mono (by decide)) rfl T.g_l_draw T.F_l_draw.kp T.n_l_draw .nil pass0 (pa_cons (pv 1) (pa_cons pe_int pa_nil)))) (pss_cons (ps_set (i := 3) sc_law.nd rfl (by first | exact Or.inl rfl | exact Or.inr rfl) (pe_call (ok_l_base T) (hr.mono (by decide)) rfl T.g_l_base T.F_l_base.kp T.n_l_base .nil pass0 (pa_cons (pv 1) pa_nil))) (pss_cons (ps_set (i := 4) sc_law.nd rfl (by first | exact Or.inl rfl | exact Or.inr rfl) (pe_call (ok_l_parts T) (hr.mono (by decide)) rfl T.g_l_parts T.F_l_parts.kp T.n_l_parts .nil pass0 (pa_cons (pv 1) (pa_cons (pv 3) pa_nil)))) (pss_cons (ps_setLc (i := 5) (own := [("_law_k", 12)]) rfl sc_law.nd rfl rfl (sw_true rfl rfl rfl (by decide +kernel)) (pi_range1 rfl T.b_range (pa_cons (pe_call (ok_l_draw T) (hr.mono (by decide)) rfl T.g_l_draw T.F_l_draw.kp T.n_l_draw .nil pass0 (pa_cons (pv 1) (pa_cons pe_int pa_nil))) pa_nil)) (blkOk_by (N := N_law) (sc := defScope s_law) (by decide +kernel)) (fun _ _ _ _ _ => (pg_name (i := 12) sc_law.nd rfl (by first | exact Or.inl rfl | exact Or.inr rfl))) (fun _ _ _ _ _ => pts_nil) (fun _ _ _ _ _ => (pe_op op_sub (pe_op op_add (pv 3) (pe_call (ok_l_draw T) (hr.mono (by decide)) rfl T.g_l_draw T.F_l_draw.kp T.n_l_draw .nil pass0 (pa_cons (pv 1) (pa_cons pe_int pa_nil)))) pe_int))) (pss_cons (ps_set (i := 6) sc_law.nd rfl (by first | exact Or.inl rfl | exact Or.inr rfl) (pe_call (ok_l_draw T) (hr.mono (by decide)) rfl T.g_l_draw T.F_l_draw.kp T.n_l_draw .nil pass0 (pa_cons (pv 1) (pa_cons pe_int pa_nil)))) (pss_cons (ps_set (i := 7) sc_law.nd rfl (by first | exact Or.inl rfl | exact Or.inr rfl) (pe_call (ok_l_free T) (hr.mono (by decide)) rfl T.g_l_free T.F_l_free.kp T.n_l_free .nil pass0 (pa_cons (pv 4) (pa_cons (pv 3) (pa_cons (pv 5) pa_nil))))) (Evl.pss_cut (ps_if (PW.pt (pw_and (pt_cmpR op_eq (pv 2) pe_int (nomark _)) (pw_and1 (pt_cmp (pc_notN (pv 7)))))) (pss_cons (ps_set (i := 6) sc_law.nd rfl (by first | exact Or.inl rfl | exact Or.inr rfl) (pe_op op_add (pv 7) (pe_call (ok_l_draw T) (hr.mono (by decide)) rfl T.g_l_draw T.F_l_draw.kp T.n_l_draw .nil pass0 (pa_cons (pv 1) (pa_cons pe_int pa_nil))))) pss_nil) pss_nil) (pss_cons (ps_set (i := 8) sc_law.nd rfl (by first | exact Or.inl rfl | exact Or.inr rfl) (makeNK (P := P) (w := w) (K := K) (mg := mg) (base := base) rfl rfl rfl rfl rfl T.M_Region (ok_Region___init T) (hr.mono (Nat.le_of_ble_eq_true rfl)) (by rfl) T.g_Region T.n_Region___init_3 T.v_Region___init_3 pass0 (pa_cons (pe_ix (ix_listK (K := K) rfl) (pv 4) pe_int (fun _ _ => rfl)) (pa_cons (pe_ix (ix_listK (K := K) rfl) (pv 4) pe_int (fun _ _ => rfl)) (pa_cons (pe_callTy (list_ofK (K := K) rfl) (by rfl) T.b_list (by decide +kernel) (pa_cons (pe_ix (ix_listK (K := K) rfl) (pv 4) pe_int (fun _ _ => rfl)) pa_nil)) pa_nil))))) (pss_cons (ps_set (i := 9) sc_law.nd rfl (by first | exact Or.inl rfl | exact Or.inr rfl) (pe_callTy (list_ofK (K := K) rfl) (by rfl) T.b_list (by decide +kernel) (pa_cons (pv 5) pa_nil))) (pss_cons (ps_if (pt_cmpR op_eq (pe_call (ok_l_draw T) (hr.mono (by decide)) rfl T.g_l_draw T.F_l_draw.kp T.n_l_draw .nil pass0 (pa_cons (pv 1) (pa_cons pe_int pa_nil))) pe_int (nomark _)) (pss_cons (ps_set (i := 10) sc_law.nd rfl (by first | exact Or.inl rfl | exact Or.inr rfl) (pe_call (ok_l_asked T) (hr.mono (by decide)) rfl T.g_l_asked T.F_l_asked.kp T.n_l_asked .nil pass0 (pa_cons (pv 8) (pa_cons (pv 6) (pa_cons (pv 9) pa_nil))))) pss_nil) (pss_cons (ps_set (i := 10) sc_law.nd rfl (by first | exact Or.inl rfl | exact Or.inr rfl) (pe_call (ok_l_asked_Vk T) (hr.mono (by decide)) rfl T.g_l_asked T.F_l_asked.kp T.n_l_asked .nil pass0 (pa_cons (pv 8) (pa_cons (pv 6) (pa_cons (pe_callTy (tuple_ofK (K := K) rfl) (by rfl) T.b_tuple (by decide +kernel) (pa_cons (pv 5) pa_nil)) pa_nil))))) pss_nil)) (pss_cons (ps_if (pt_cmpR (neDK (K := K) rfl hr.units) (pv 9) (pv 5) (nomark _)) (pss_cons (ps_ret pe_bl) pss_nil) pss_nil) (pss_cons (ps_if (PW.pt (pw_and (pt_cmp (pc_notN (pv 7))) (pw_and1 (pt_cmpR op_lt (pv 7) (pv 6) (nomark _))))) (pss_cons (ps_if (PW.pt (pw_or (pt_cmpR (neDK (K := K) rfl hr.units) (pv 10) (pe_tup (pa_cons pe_str (pa_cons (pv 6) (pa_cons pe_bl (pa_cons pe_bl pa_nil))))) (nomark _)) (pw_or1 (pt_not (pt_val (pe_call (ok_l_base_caught T) (hr.mono (by decide)) rfl T.g_l_base_caught T.F_l_base_caught.kp T.n_l_base_caught .nil pass0 (pa_cons (pv 8) (pa_cons (pv 6) (pa_cons (pv 9) pa_nil))))))))) (pss_cons (ps_ret pe_bl) pss_nil) pss_nil) (pss_cons (ps_set (i := 11) sc_law.nd rfl (by first | exact Or.inl rfl | exact Or.inr rfl) (pe_methXK (n := 1) (pv 8) T.cl_Region T.me_Region_members (ok_Region_members (P := P) (w := w) (base := base) T) (hr.mono (Nat.le_of_ble_eq_true rfl)) T.kb_Region_members (fun σ => passAt takes0 σ) (pa_cons (pv 7) pa_nil) (pk_cons (pv 9) pk_nil))) (pss_cons (ps_ret (pe_call (ok_l_good T) (hr.mono (by decide)) rfl T.g_l_good T.F_l_good.kp T.n_l_good .nil pass0 (pa_cons (pv 11) (pa_cons (pv 4) (pa_cons (pv 7) (pa_cons (pv 5) pa_nil)))))) pss_nil))) pss_nil) (pss_cons (ps_if (PW.pt (pw_or (pt_cmpR op_ne (pe_ix (ix_tupK (K := K) rfl) (pv 10) pe_int (fun _ _ => rfl)) pe_str (nomark _)) (pw_or1 (pt_not (pt_val (pe_call (ok_l_good T) (hr.mono (by decide)) rfl T.g_l_good T.F_l_good.kp T.n_l_good .nil pass0 (pa_cons (pe_ix (ix_tupK (K := K) rfl) (pv 10) pe_int (fun _ _ => rfl)) (pa_cons (pv 4) (pa_cons (pv 6) (pa_cons (pv 5) pa_nil)))))))))) (pss_cons (ps_ret pe_bl) pss_nil) pss_nil) (pss_cons (ps_expr (pe_bm PySem.F.plainAttrs_list PySem.F.slot_list_append PySem.F.type_list_append mt_append (pe_ix (ix_tupK (K := K) rfl) (pv 10) pe_int (fun _ _ => rfl)) (pa_cons (pv 3) pa_nil))) (pss_cons (ps_if (PW.pt (pw_or (pt_cmpR (neDK (K := K) rfl hr.units) (pe_methXD (pv 8) T.cl_Region T.me_Region_members (ok_Region_members_Vk (P := P) (w := w) (base := base) T) (hr.mono (Nat.le_of_ble_eq_true rfl)) T.n_Region_members_k T.v_Region_members_k (fun σ => passAt takes0 σ) (pa_cons pe_int pa_nil)) (pe_lst pa_nil) (nomark _)) (pw_or1 (pt_not (pt_val (pe_call (ok_l_good T) (hr.mono (by decide)) rfl T.g_l_good T.F_l_good.kp T.n_l_good .nil pass0 (pa_cons (pe_methXK (n := 1) (pv 8) T.cl_Region T.me_Region_members (ok_Region_members (P := P) (w := w) (base := base) T) (hr.mono (Nat.le_of_ble_eq_true rfl)) T.kb_Region_members (fun σ => passAt takes0 σ) (pa_cons (pv 6) pa_nil) (pk_cons (pv 9) pk_nil)) (pa_cons (pv 4) (pa_cons (pv 6) (pa_cons (pv 5) pa_nil)))))))))) (pss_cons (ps_ret pe_bl) pss_nil) pss_nil) (pss_cons (ps_if (pt_cmp (pc_notN (pv 7))) (pss_cons (ps_ret pe_bl) pss_nil) pss_nil) (pss_cons (ps_ret (pe_call (ok_l_good T) (hr.mono (by decide)) rfl T.g_l_good T.F_l_good.kp T.n_l_good .nil pass0 (pa_cons (pe_methXD (pv 8) T.cl_Region T.me_Region_members (ok_Region_members_Vk (P := P) (w := w) (base := base) T) (hr.mono (Nat.le_of_ble_eq_true rfl)) T.n_Region_members_k T.v_Region_members_k (fun σ => passAt takes0 σ) (pa_cons (pv 6) pa_nil)) (pa_cons (pv 4) (pa_cons (pv 6) (pa_cons (pe_lst pa_nil) pa_nil)))))) pss_nil)))))))))))))))))), fun z => ?_⟩
    refine nx_go (frm_start (N := N_law) (n := 12) ⟨z, sm.2⟩ sm.1 hw (by rw [WLen.len hw]; rfl)) ?_
    show Nx _ _ [.imm (rScr K) script0, .no, .no, .no, .no, .no, .no, .no, .no, .no, .no, .no, .no]
    unfold m_law at h
    obtain ⟨v1, hv1, h⟩ := bindO_some h
    obtain ⟨state2, hstate2, h⟩ := letO_some h
    refine (sq_asgC (c := (cHls (wC (rOb (cLst rInt)) (wC rInt (wC rInt (w1 rInt)))))) (ec_to (ec_call (ew_1 (ev_var rfl)) hv1) hstate2.symm) (fun a_state2 na_state2 => ?_))
    show Nx _ _ [.imm (rScr K) script0, .cel a_state2 (cHls (wC (rOb (cLst rInt)) (wC rInt (wC rInt (w1 rInt))))) state2, .no, .no, .no, .no, .no, .no, .no, .no, .no, .no, .no]
    obtain ⟨p3, hp3, h⟩ := bindO_some h
    obtain ⟨kind4, hkind4, h⟩ := letO_some h
    refine (sq_asg (ev_to (ev_callS (ew_1 ev_int) rfl rfl hp3) hkind4.symm) ?_)
    show Nx _ _ [.imm (rScr K) script0, .cel a_state2 (cHls (wC (rOb (cLst rInt)) (wC rInt (wC rInt (w1 rInt))))) p3.2, .imm rInt kind4, .no, .no, .no, .no, .no, .no, .no, .no, .no, .no]
    obtain ⟨p5, hp5, h⟩ := bindO_some h
    obtain ⟨base_here6, hbase_here6, h⟩ := letO_some h
    refine (sq_asg (ev_to (ev_callS ew_0 rfl rfl hp5) hbase_here6.symm) ?_)
    show Nx _ _ [.imm (rScr K) script0, .cel a_state2 (cHls (wC (rOb (cLst rInt)) (wC rInt (wC rInt (w1 rInt))))) p5.2, .imm rInt kind4, .imm rInt base_here6, .no, .no, .no, .no, .no, .no, .no, .no, .no]
    obtain ⟨p7, hp7, h⟩ := bindO_some h
    obtain ⟨part8, hpart8, h⟩ := letO_some h
    refine (sq_asg (ev_to (ev_callS (ew_1 (ev_var rfl)) rfl rfl hp7) hpart8.symm) ?_)
    show Nx _ _ [.imm (rScr K) script0, .cel a_state2 (cHls (wC (rOb (cLst rInt)) (wC rInt (wC rInt (w1 rInt))))) p7.2, .imm rInt kind4, .imm rInt base_here6, .imm (rOb (cHls (wC (rOpt rInt) (wC (rOpt rInt) (w1 (rOb (cLst rInt))))))) part8, .no, .no, .no, .no, .no, .no, .no, .no]
    obtain ⟨p9, hp9, h⟩ := bindO_some h
    obtain ⟨l10, hl10, h⟩ := bindO_some h
    obtain ⟨l14, hl14, h⟩ := bindO_some h
    obtain ⟨barred15, hbarred15, h⟩ := letO_some h
    refine (sq_asg (ev_to (ev_new (ec_lcS (m_law_c1 base_here6) (fun z => [.imm (rScr K) script0, .cel a_state2 (cHls (wC (rOb (cLst rInt)) (wC rInt (wC rInt (w1 rInt))))) z, .imm rInt kind4, .imm rInt base_here6, .imm (rOb (cHls (wC (rOpt rInt) (wC (rOpt rInt) (w1 (rOb (cLst rInt))))))) part8, .no, .no, .no, .no, .no, .no, .no, .no]) (it_rng1 (ew_1 (ev_callS (ew_1 ev_int) rfl rfl hp9)) hl10) hl14 (fun A2 => nx_fin) (fun _ => rfl) (fun _ => tg_name) (fun k hk => hk) (fun _ _ => rfl) (fun k11 st12 o s2 ho => by unfold m_law_c1 at ho; obtain ⟨p13, hp13, ho⟩ := bindO_some ho; obtain ⟨ho1, ho2⟩ := Prod.mk.inj (Option.some.inj ho); subst ho1; subst ho2; exact ⟨st12, et_yes, fun y hy => by cases hy; exact ev_to (ev_sub (ev_add (ev_var rfl) (ev_callS (ew_1 ev_int) rfl rfl hp13)) ev_int) rfl, fun hn => by cases hn⟩))) hbarred15.symm) ?_)
    show Nx _ _ [.imm (rScr K) script0, .cel a_state2 (cHls (wC (rOb (cLst rInt)) (wC rInt (wC rInt (w1 rInt))))) l14.2, .imm rInt kind4, .imm rInt base_here6, .imm (rOb (cHls (wC (rOpt rInt) (wC (rOpt rInt) (w1 (rOb (cLst rInt))))))) part8, .imm (rOb (cLst rInt)) barred15, .no, .no, .no, .no, .no, .no, .no]
    obtain ⟨p16, hp16, h⟩ := bindO_some h
    obtain ⟨count17, hcount17, h⟩ := letO_some h
    refine (sq_asg (ev_to (ev_callS (ew_1 ev_int) rfl rfl hp16) hcount17.symm) ?_)
    show Nx _ _ [.imm (rScr K) script0, .cel a_state2 (cHls (wC (rOb (cLst rInt)) (wC rInt (wC rInt (w1 rInt))))) p16.2, .imm rInt kind4, .imm rInt base_here6, .imm (rOb (cHls (wC (rOpt rInt) (wC (rOpt rInt) (w1 (rOb (cLst rInt))))))) part8, .imm (rOb (cLst rInt)) barred15, .imm rInt count17, .no, .no, .no, .no, .no, .no]
    obtain ⟨v18, hv18, h⟩ := bindO_some h
    obtain ⟨free_here19, hfree_here19, h⟩ := letO_some h
    refine (sq_asg (ev_to (ev_call (ew_C (ev_var rfl) (ew_C (ev_var rfl) (ew_1 (ev_var rfl)))) hv18) hfree_here19.symm) ?_)
    show Nx _ _ [.imm (rScr K) script0, .cel a_state2 (cHls (wC (rOb (cLst rInt)) (wC rInt (wC rInt (w1 rInt))))) p16.2, .imm rInt kind4, .imm rInt base_here6, .imm (rOb (cHls (wC (rOpt rInt) (wC (rOpt rInt) (w1 (rOb (cLst rInt))))))) part8, .imm (rOb (cLst rInt)) barred15, .imm rInt count17, .imm (rOpt rInt) free_here19, .no, .no, .no, .no, .no]
    obtain ⟨c20, hc20, h⟩ := letO_some h
    obtain ⟨j21, hj21, h2⟩ := bindO_some h
    have h := hj21
    refine nx_cut [.imm (rScr K) script0, .cel a_state2 (cHls (wC (rOb (cLst rInt)) (wC rInt (wC rInt (w1 rInt))))) j21.2, .imm rInt kind4, .imm rInt base_here6, .imm (rOb (cHls (wC (rOpt rInt) (wC (rOpt rInt) (w1 (rOb (cLst rInt))))))) part8, .imm (rOb (cLst rInt)) barred15, .imm rInt j21.1, .imm (rOpt rInt) free_here19, .no, .no, .no, .no, .no] (nx_if (et_to (et_and0 (et_T (ev_eqS scInt (ev_var rfl) ev_int rfl)) (et_B (ev_notN (ev_var rfl)))) hc20.symm) (fun hc => ?_) (fun hc => ?_)) ?_
    · clear h2 hj21
      have h := iteO_t hc h
      obtain ⟨g23, hg23, h⟩ := bindO_some h
      obtain ⟨p22, hp22, h⟩ := bindO_some h
      obtain ⟨count24, hcount24, h⟩ := letO_some h
      refine (sq_asg (ev_to (ev_add (ev_get (ev_var rfl) hg23) (ev_callS (ew_1 ev_int) rfl rfl hp22)) hcount24.symm) ?_)
      show Nx _ _ [.imm (rScr K) script0, .cel a_state2 (cHls (wC (rOb (cLst rInt)) (wC rInt (wC rInt (w1 rInt))))) p22.2, .imm rInt kind4, .imm rInt base_here6, .imm (rOb (cHls (wC (rOpt rInt) (wC (rOpt rInt) (w1 (rOb (cLst rInt))))))) part8, .imm (rOb (cLst rInt)) barred15, .imm rInt count24, .imm (rOpt rInt) free_here19, .no, .no, .no, .no, .no]
      obtain rfl := Option.some.inj h
      exact nx_fin
    · clear h2 hj21
      have h := iteO_f hc h
      obtain rfl := Option.some.inj h
      exact nx_fin
    · clear h
      have h := h2
      obtain ⟨o25, ho25, h⟩ := bindO_some h
      obtain ⟨region26, hregion26, h⟩ := letO_some h
      refine (sq_asg (ev_to (ev_make (ew_C (ev_ixR (k := 0) (ev_var rfl) (acc0)) (ew_C (ev_ixR (k := 1) (ev_var rfl) (accS (acc0))) (ew_1 (ev_new (ec_listL (ev_ixR (k := 2) (ev_var rfl) (accS (accS (acc1))))))))) ho25) hregion26.symm) ?_)
      show Nx _ _ [.imm (rScr K) script0, .cel a_state2 (cHls (wC (rOb (cLst rInt)) (wC rInt (wC rInt (w1 rInt))))) j21.2, .imm rInt kind4, .imm rInt base_here6, .imm (rOb (cHls (wC (rOpt rInt) (wC (rOpt rInt) (w1 (rOb (cLst rInt))))))) part8, .imm (rOb (cLst rInt)) barred15, .imm rInt j21.1, .imm (rOpt rInt) free_here19, .imm (rIns a.C_Region [("low" : Str), ("high" : Str), ("without" : Str), ("size" : Str), ("value" : Str), ("_gaps" : Str)] (wC (rOpt rInt) (wC (rOpt rInt) (wC (rOb (cTpl rInt)) (wC (rOpt rInt) (wC (rOpt rInt) (w1 (rOb (cDic kyInt rBool))))))))) region26, .no, .no, .no, .no]
      obtain ⟨handed27, hhanded27, h⟩ := letO_some h
      refine (sq_asg (ev_to (ev_new (ec_listL (ev_var rfl))) hhanded27.symm) ?_)
      show Nx _ _ [.imm (rScr K) script0, .cel a_state2 (cHls (wC (rOb (cLst rInt)) (wC rInt (wC rInt (w1 rInt))))) j21.2, .imm rInt kind4, .imm rInt base_here6, .imm (rOb (cHls (wC (rOpt rInt) (wC (rOpt rInt) (w1 (rOb (cLst rInt))))))) part8, .imm (rOb (cLst rInt)) barred15, .imm rInt j21.1, .imm (rOpt rInt) free_here19, .imm (rIns a.C_Region [("low" : Str), ("high" : Str), ("without" : Str), ("size" : Str), ("value" : Str), ("_gaps" : Str)] (wC (rOpt rInt) (wC (rOpt rInt) (wC (rOb (cTpl rInt)) (wC (rOpt rInt) (wC (rOpt rInt) (w1 (rOb (cDic kyInt rBool))))))))) region26, .imm (rOb (cLst rInt)) handed27, .no, .no, .no]
      obtain ⟨p28, hp28, h⟩ := bindO_some h
      obtain ⟨c29, hc29, h⟩ := letO_some h
      refine (sq_if (et_to (et_T (ev_eqS scInt (ev_callS (ew_1 ev_int) rfl rfl hp28) ev_int rfl)) hc29.symm) (fun hc => ?_) (fun hc => ?_))
      · have h := iteO_t hc h
        obtain ⟨answer30, hanswer30, h⟩ := bindO_some h
        refine (sq_asgM (us := []) (ea_I (ev_var rfl) (ea_I (ev_var rfl) (ea_I (ev_var rfl) ea_0))) (co_I (co_I (co_I co_0))) (bo_I (bo_I (bo_I bo_0))) hanswer30 (fun a_answer30 => ?_))
        show Nx _ _ [.imm (rScr K) script0, .cel a_state2 (cHls (wC (rOb (cLst rInt)) (wC rInt (wC rInt (w1 rInt))))) p28.2, .imm rInt kind4, .imm rInt base_here6, .imm (rOb (cHls (wC (rOpt rInt) (wC (rOpt rInt) (w1 (rOb (cLst rInt))))))) part8, .imm (rOb (cLst rInt)) barred15, .imm rInt j21.1, .imm (rOpt rInt) free_here19, .imm (rIns a.C_Region [("low" : Str), ("high" : Str), ("without" : Str), ("size" : Str), ("value" : Str), ("_gaps" : Str)] (wC (rOpt rInt) (wC (rOpt rInt) (wC (rOb (cTpl rInt)) (wC (rOpt rInt) (wC (rOpt rInt) (w1 (rOb (cDic kyInt rBool))))))))) region26, .imm (rOb (cLst rInt)) handed27, .tre a_answer30 (tA (rOb (cTup (wC rStr (wC rInt (wC rBool (w1 rBool)))))) (tP rInt)) answer30.1, .no, .no]
        refine nx_next ?_
        try dsimp only
        obtain ⟨q31, hq31, h⟩ := bindO_some h
        obtain ⟨c32, hc32, h⟩ := letO_some h
        refine (sq_if (et_to (et_T (ev_neD (da_lst da_int) (da_lst da_int) (ev_var rfl) (ev_var rfl) hq31)) hc32.symm) (fun hc => ?_) (fun hc => ?_))
        · have h := iteO_t hc h
          exact (sq_ret ev_bl h kr)
        · have h := iteO_f hc h
          refine nx_next ?_
          try dsimp only
          obtain ⟨c35, hc35, h⟩ := letO_some h
          obtain ⟨b34, hb34, h⟩ := bindO_some h
          obtain ⟨c36, hc36, h⟩ := letO_some h
          refine (sq_if (et_to (et_and (et_to (et_B (ev_notN (ev_var rfl))) hc35.symm) (fun hc => by have hx := iteO_t hc hb34; obtain ⟨g33, hg33, hx⟩ := bindO_some hx; exact et_to (et_T (ev_lt (ev_get (ev_var rfl) hg33) (ev_var rfl))) (Option.some.inj hx)) (fun hc => ⟨(Option.some.inj (iteO_f hc hb34)).symm, rfl⟩)) hc36.symm) (fun hc => ?_) (fun hc => ?_))
          · have h := iteO_t hc h
            obtain ⟨a37, ha37, h⟩ := bindO_some h
            obtain ⟨q38, hq38, h⟩ := bindO_some h
            obtain ⟨c41, hc41, h⟩ := letO_some h
            obtain ⟨b40, hb40, h⟩ := bindO_some h
            obtain ⟨c42, hc42, h⟩ := letO_some h
            refine (sq_if (et_to (et_or (et_to (et_T (ev_neD (da_tup (daw_C da_str (daw_C da_int (daw_C da_bool (daw_1 da_bool))))) (da_tup (daw_C da_str (daw_C da_int (daw_C da_bool (daw_1 da_bool))))) (ev_taL rfl ha37) (ev_new (ec_tup (ew_C ev_str (ew_C (ev_var rfl) (ew_C ev_bl (ew_1 ev_bl)))))) hq38)) hc41.symm) (fun hc => by have hx := iteO_f hc hb40; obtain ⟨v39, hv39, hx⟩ := bindO_some hx; exact et_to (et_not (et_B (ev_call (ew_C (ev_var rfl) (ew_C (ev_var rfl) (ew_1 (ev_var rfl)))) hv39))) (Option.some.inj hx)) (fun hc => ⟨(Option.some.inj (iteO_t hc hb40)).symm, rfl⟩)) hc42.symm) (fun hc => ?_) (fun hc => ?_))
            · have h := iteO_t hc h
              exact (sq_ret ev_bl h kr)
            · have h := iteO_f hc h
              refine nx_next ?_
              try dsimp only
              obtain ⟨g43, hg43, h⟩ := bindO_some h
              obtain ⟨r44, hr44, h⟩ := bindO_some h
              obtain ⟨l45, hl45, h⟩ := bindO_some h
              obtain ⟨again46, hagain46, h⟩ := letO_some h
              refine (sq_asg (ev_to (ev_new (ec_ok (er_methK1 (n := 1) (f := fun b y => (b, y)) (ev_var rfl) (ew_1 (ev_get (ev_var rfl) hg43)) (ew_1 (ev_var rfl)) (fun B v vs u h1 h2 h3 => by obtain ⟨x, rfl, h2⟩ := h2; exact ⟨v, _, rfl, h1, x, _, rfl, h2, u, rfl, h3⟩) hr44 (by decide +kernel)) (okR_eq hl45) _)) hagain46.symm) ?_)
              show Nx _ _ [.imm (rScr K) script0, .cel a_state2 (cHls (wC (rOb (cLst rInt)) (wC rInt (wC rInt (w1 rInt))))) p28.2, .imm rInt kind4, .imm rInt base_here6, .imm (rOb (cHls (wC (rOpt rInt) (wC (rOpt rInt) (w1 (rOb (cLst rInt))))))) part8, .imm (rOb (cLst rInt)) barred15, .imm rInt j21.1, .imm (rOpt rInt) free_here19, .imm (rIns a.C_Region [("low" : Str), ("high" : Str), ("without" : Str), ("size" : Str), ("value" : Str), ("_gaps" : Str)] (wC (rOpt rInt) (wC (rOpt rInt) (wC (rOb (cTpl rInt)) (wC (rOpt rInt) (wC (rOpt rInt) (w1 (rOb (cDic kyInt rBool))))))))) region26, .imm (rOb (cLst rInt)) handed27, .tre a_answer30 (tA (rOb (cTup (wC rStr (wC rInt (wC rBool (w1 rBool)))))) (tP rInt)) answer30.1, .imm (rOb (cLst rInt)) again46, .no]
              obtain ⟨g47, hg47, h⟩ := bindO_some h
              obtain ⟨v48, hv48, h⟩ := bindO_some h
              exact (sq_ret (ev_call (ew_C (ev_var rfl) (ew_C (ev_var rfl) (ew_C (ev_get (ev_var rfl) hg47) (ew_1 (ev_var rfl))))) hv48) h kr)
          · have h := iteO_f hc h
            refine nx_next ?_
            try dsimp only
            obtain ⟨c52, hc52, h⟩ := letO_some h
            obtain ⟨b51, hb51, h⟩ := bindO_some h
            obtain ⟨c53, hc53, h⟩ := letO_some h
            refine (sq_if (et_to (et_or (et_to (et_T (ev_neS scStr (ev_ta0 rfl (acc0)) ev_str rfl)) hc52.symm) (fun hc => by have hx := iteO_f hc hb51; obtain ⟨y49, hy49, hx⟩ := bindO_some hx; obtain ⟨v50, hv50, hx⟩ := bindO_some hx; exact et_to (et_not (et_B (ev_frzA (i := 10) rfl hy49 (ev_call (ew_C (ev_ixU (k := 1) (ev_var rfl) (accS (acc1))) (ew_C (ev_var rfl) (ew_C (ev_var rfl) (ew_1 (ev_var rfl))))) hv50)))) (Option.some.inj hx)) (fun hc => ⟨(Option.some.inj (iteO_t hc hb51)).symm, rfl⟩)) hc53.symm) (fun hc => ?_) (fun hc => ?_))
            · have h := iteO_t hc h
              exact (sq_ret ev_bl h kr)
            · have h := iteO_f hc h
              refine nx_next ?_
              try dsimp only
              obtain ⟨y54, hy54, h⟩ := bindO_some h
              obtain ⟨l55, hl55, h⟩ := bindO_some h
              refine (sq_appA (i := 10) rfl hy54 (ek_var rfl) hl55 ?_)
              show Nx _ _ [.imm (rScr K) script0, .cel a_state2 (cHls (wC (rOb (cLst rInt)) (wC rInt (wC rInt (w1 rInt))))) p28.2, .imm rInt kind4, .imm rInt base_here6, .imm (rOb (cHls (wC (rOpt rInt) (wC (rOpt rInt) (w1 (rOb (cLst rInt))))))) part8, .imm (rOb (cLst rInt)) barred15, .imm rInt j21.1, .imm (rOpt rInt) free_here19, .imm (rIns a.C_Region [("low" : Str), ("high" : Str), ("without" : Str), ("size" : Str), ("value" : Str), ("_gaps" : Str)] (wC (rOpt rInt) (wC (rOpt rInt) (wC (rOb (cTpl rInt)) (wC (rOpt rInt) (wC (rOpt rInt) (w1 (rOb (cDic kyInt rBool))))))))) region26, .imm (rOb (cLst rInt)) handed27, .tre a_answer30 (tA (rOb (cTup (wC rStr (wC rInt (wC rBool (w1 rBool)))))) (tP rInt)) (.inr (y54.1, l55) : ((Str × Int × Bool × Bool) ⊕ (Str × List Int))), .no, .no]
              obtain ⟨r56, hr56, h⟩ := bindO_some h
              obtain ⟨l57, hl57, h⟩ := bindO_some h
              obtain ⟨q58, hq58, h⟩ := bindO_some h
              obtain ⟨c63, hc63, h⟩ := letO_some h
              obtain ⟨b62, hb62, h⟩ := bindO_some h
              obtain ⟨c64, hc64, h⟩ := letO_some h
              refine (sq_if (et_to (et_or (et_to (et_T (ev_neD (da_lst da_int) (da_hls daw_0) (ev_new (ec_ok (er_methD (f := fun b => (b, ([] : (List Int)))) (ev_var rfl) (ew_1 ev_int) (fun B v vs h1 h2 => by obtain ⟨x, rfl, h2⟩ := h2; exact ⟨v, _, rfl, h1, x, _, rfl, h2, tkE T.t_Region_members_0 B⟩) hr56 (by decide +kernel)) (okR_eq hl57) _)) (ev_new (ec_hls ew_0)) hq58)) hc63.symm) (fun hc => by have hx := iteO_f hc hb62; obtain ⟨r59, hr59, hx⟩ := bindO_some hx; obtain ⟨l60, hl60, hx⟩ := bindO_some hx; obtain ⟨v61, hv61, hx⟩ := bindO_some hx; exact et_to (et_not (et_B (ev_call (ew_C (ev_new (ec_ok (er_methK1 (n := 1) (f := fun b y => (b, y)) (ev_var rfl) (ew_1 (ev_var rfl)) (ew_1 (ev_var rfl)) (fun B v vs u h1 h2 h3 => by obtain ⟨x, rfl, h2⟩ := h2; exact ⟨v, _, rfl, h1, x, _, rfl, h2, u, rfl, h3⟩) hr59 (by decide +kernel)) (okR_eq hl60) _)) (ew_C (ev_var rfl) (ew_C (ev_var rfl) (ew_1 (ev_var rfl))))) hv61))) (Option.some.inj hx)) (fun hc => ⟨(Option.some.inj (iteO_t hc hb62)).symm, rfl⟩)) hc64.symm) (fun hc => ?_) (fun hc => ?_))
              · have h := iteO_t hc h
                exact (sq_ret ev_bl h kr)
              · have h := iteO_f hc h
                refine nx_next ?_
                try dsimp only
                obtain ⟨c65, hc65, h⟩ := letO_some h
                refine (sq_if (et_to (et_B (ev_notN (ev_var rfl))) hc65.symm) (fun hc => ?_) (fun hc => ?_))
                · have h := iteO_t hc h
                  exact (sq_ret ev_bl h kr)
                · have h := iteO_f hc h
                  refine nx_next ?_
                  try dsimp only
                  obtain ⟨r66, hr66, h⟩ := bindO_some h
                  obtain ⟨l67, hl67, h⟩ := bindO_some h
                  obtain ⟨v68, hv68, h⟩ := bindO_some h
                  exact (sq_ret (ev_call (ew_C (ev_new (ec_ok (er_methD (f := fun b => (b, ([] : (List Int)))) (ev_var rfl) (ew_1 (ev_var rfl)) (fun B v vs h1 h2 => by obtain ⟨x, rfl, h2⟩ := h2; exact ⟨v, _, rfl, h1, x, _, rfl, h2, tkE T.t_Region_members_0 B⟩) hr66 (by decide +kernel)) (okR_eq hl67) _)) (ew_C (ev_var rfl) (ew_C (ev_var rfl) (ew_1 (ev_new (ec_lst eh_0 (Nat.le_of_ble_eq_true rfl))))))) hv68) h kr)
      · have h := iteO_f hc h
        obtain ⟨answer69, hanswer69, h⟩ := bindO_some h
        refine (sq_asgM (us := []) (ea_I (ev_var rfl) (ea_I (ev_var rfl) (ea_I (ev_tk (ev_new (ec_tupL (ev_var rfl)))) ea_0))) (co_I (co_I (co_I co_0))) (bo_I (bo_I (bo_I bo_0))) hanswer69 (fun a_answer69 => ?_))
        show Nx _ _ [.imm (rScr K) script0, .cel a_state2 (cHls (wC (rOb (cLst rInt)) (wC rInt (wC rInt (w1 rInt))))) p28.2, .imm rInt kind4, .imm rInt base_here6, .imm (rOb (cHls (wC (rOpt rInt) (wC (rOpt rInt) (w1 (rOb (cLst rInt))))))) part8, .imm (rOb (cLst rInt)) barred15, .imm rInt j21.1, .imm (rOpt rInt) free_here19, .imm (rIns a.C_Region [("low" : Str), ("high" : Str), ("without" : Str), ("size" : Str), ("value" : Str), ("_gaps" : Str)] (wC (rOpt rInt) (wC (rOpt rInt) (wC (rOb (cTpl rInt)) (wC (rOpt rInt) (wC (rOpt rInt) (w1 (rOb (cDic kyInt rBool))))))))) region26, .imm (rOb (cLst rInt)) handed27, .tre a_answer69 (tA (rOb (cTup (wC rStr (wC rInt (wC rBool (w1 rBool)))))) (tP rInt)) answer69.1, .no, .no]
        refine nx_next ?_
        try dsimp only
        obtain ⟨q70, hq70, h⟩ := bindO_some h
        obtain ⟨c71, hc71, h⟩ := letO_some h
        refine (sq_if (et_to (et_T (ev_neD (da_lst da_int) (da_lst da_int) (ev_var rfl) (ev_var rfl) hq70)) hc71.symm) (fun hc => ?_) (fun hc => ?_))
        · have h := iteO_t hc h
          exact (sq_ret ev_bl h kr)
        · have h := iteO_f hc h
          refine nx_next ?_
          try dsimp only
          obtain ⟨c74, hc74, h⟩ := letO_some h
          obtain ⟨b73, hb73, h⟩ := bindO_some h
          obtain ⟨c75, hc75, h⟩ := letO_some h
          refine (sq_if (et_to (et_and (et_to (et_B (ev_notN (ev_var rfl))) hc74.symm) (fun hc => by have hx := iteO_t hc hb73; obtain ⟨g72, hg72, hx⟩ := bindO_some hx; exact et_to (et_T (ev_lt (ev_get (ev_var rfl) hg72) (ev_var rfl))) (Option.some.inj hx)) (fun hc => ⟨(Option.some.inj (iteO_f hc hb73)).symm, rfl⟩)) hc75.symm) (fun hc => ?_) (fun hc => ?_))
          · have h := iteO_t hc h
            obtain ⟨a76, ha76, h⟩ := bindO_some h
            obtain ⟨q77, hq77, h⟩ := bindO_some h
            obtain ⟨c80, hc80, h⟩ := letO_some h
            obtain ⟨b79, hb79, h⟩ := bindO_some h
            obtain ⟨c81, hc81, h⟩ := letO_some h
            refine (sq_if (et_to (et_or (et_to (et_T (ev_neD (da_tup (daw_C da_str (daw_C da_int (daw_C da_bool (daw_1 da_bool))))) (da_tup (daw_C da_str (daw_C da_int (daw_C da_bool (daw_1 da_bool))))) (ev_taL rfl ha76) (ev_new (ec_tup (ew_C ev_str (ew_C (ev_var rfl) (ew_C ev_bl (ew_1 ev_bl)))))) hq77)) hc80.symm) (fun hc => by have hx := iteO_f hc hb79; obtain ⟨v78, hv78, hx⟩ := bindO_some hx; exact et_to (et_not (et_B (ev_call (ew_C (ev_var rfl) (ew_C (ev_var rfl) (ew_1 (ev_var rfl)))) hv78))) (Option.some.inj hx)) (fun hc => ⟨(Option.some.inj (iteO_t hc hb79)).symm, rfl⟩)) hc81.symm) (fun hc => ?_) (fun hc => ?_))
            · have h := iteO_t hc h
              exact (sq_ret ev_bl h kr)
            · have h := iteO_f hc h
              refine nx_next ?_
              try dsimp only
              obtain ⟨g82, hg82, h⟩ := bindO_some h
              obtain ⟨r83, hr83, h⟩ := bindO_some h
              obtain ⟨l84, hl84, h⟩ := bindO_some h
              obtain ⟨again85, hagain85, h⟩ := letO_some h
              refine (sq_asg (ev_to (ev_new (ec_ok (er_methK1 (n := 1) (f := fun b y => (b, y)) (ev_var rfl) (ew_1 (ev_get (ev_var rfl) hg82)) (ew_1 (ev_var rfl)) (fun B v vs u h1 h2 h3 => by obtain ⟨x, rfl, h2⟩ := h2; exact ⟨v, _, rfl, h1, x, _, rfl, h2, u, rfl, h3⟩) hr83 (by decide +kernel)) (okR_eq hl84) _)) hagain85.symm) ?_)
              show Nx _ _ [.imm (rScr K) script0, .cel a_state2 (cHls (wC (rOb (cLst rInt)) (wC rInt (wC rInt (w1 rInt))))) p28.2, .imm rInt kind4, .imm rInt base_here6, .imm (rOb (cHls (wC (rOpt rInt) (wC (rOpt rInt) (w1 (rOb (cLst rInt))))))) part8, .imm (rOb (cLst rInt)) barred15, .imm rInt j21.1, .imm (rOpt rInt) free_here19, .imm (rIns a.C_Region [("low" : Str), ("high" : Str), ("without" : Str), ("size" : Str), ("value" : Str), ("_gaps" : Str)] (wC (rOpt rInt) (wC (rOpt rInt) (wC (rOb (cTpl rInt)) (wC (rOpt rInt) (wC (rOpt rInt) (w1 (rOb (cDic kyInt rBool))))))))) region26, .imm (rOb (cLst rInt)) handed27, .tre a_answer69 (tA (rOb (cTup (wC rStr (wC rInt (wC rBool (w1 rBool)))))) (tP rInt)) answer69.1, .imm (rOb (cLst rInt)) again85, .no]
              obtain ⟨g86, hg86, h⟩ := bindO_some h
              obtain ⟨v87, hv87, h⟩ := bindO_some h
              exact (sq_ret (ev_call (ew_C (ev_var rfl) (ew_C (ev_var rfl) (ew_C (ev_get (ev_var rfl) hg86) (ew_1 (ev_var rfl))))) hv87) h kr)
          · have h := iteO_f hc h
            refine nx_next ?_
            try dsimp only
            obtain ⟨c91, hc91, h⟩ := letO_some h
            obtain ⟨b90, hb90, h⟩ := bindO_some h
            obtain ⟨c92, hc92, h⟩ := letO_some h
            refine (sq_if (et_to (et_or (et_to (et_T (ev_neS scStr (ev_ta0 rfl (acc0)) ev_str rfl)) hc91.symm) (fun hc => by have hx := iteO_f hc hb90; obtain ⟨y88, hy88, hx⟩ := bindO_some hx; obtain ⟨v89, hv89, hx⟩ := bindO_some hx; exact et_to (et_not (et_B (ev_frzA (i := 10) rfl hy88 (ev_call (ew_C (ev_ixU (k := 1) (ev_var rfl) (accS (acc1))) (ew_C (ev_var rfl) (ew_C (ev_var rfl) (ew_1 (ev_var rfl))))) hv89)))) (Option.some.inj hx)) (fun hc => ⟨(Option.some.inj (iteO_t hc hb90)).symm, rfl⟩)) hc92.symm) (fun hc => ?_) (fun hc => ?_))
            · have h := iteO_t hc h
              exact (sq_ret ev_bl h kr)
            · have h := iteO_f hc h
              refine nx_next ?_
              try dsimp only
              obtain ⟨y93, hy93, h⟩ := bindO_some h
              obtain ⟨l94, hl94, h⟩ := bindO_some h
              refine (sq_appA (i := 10) rfl hy93 (ek_var rfl) hl94 ?_)
              show Nx _ _ [.imm (rScr K) script0, .cel a_state2 (cHls (wC (rOb (cLst rInt)) (wC rInt (wC rInt (w1 rInt))))) p28.2, .imm rInt kind4, .imm rInt base_here6, .imm (rOb (cHls (wC (rOpt rInt) (wC (rOpt rInt) (w1 (rOb (cLst rInt))))))) part8, .imm (rOb (cLst rInt)) barred15, .imm rInt j21.1, .imm (rOpt rInt) free_here19, .imm (rIns a.C_Region [("low" : Str), ("high" : Str), ("without" : Str), ("size" : Str), ("value" : Str), ("_gaps" : Str)] (wC (rOpt rInt) (wC (rOpt rInt) (wC (rOb (cTpl rInt)) (wC (rOpt rInt) (wC (rOpt rInt) (w1 (rOb (cDic kyInt rBool))))))))) region26, .imm (rOb (cLst rInt)) handed27, .tre a_answer69 (tA (rOb (cTup (wC rStr (wC rInt (wC rBool (w1 rBool)))))) (tP rInt)) (.inr (y93.1, l94) : ((Str × Int × Bool × Bool) ⊕ (Str × List Int))), .no, .no]
              obtain ⟨r95, hr95, h⟩ := bindO_some h
              obtain ⟨l96, hl96, h⟩ := bindO_some h
              obtain ⟨q97, hq97, h⟩ := bindO_some h
              obtain ⟨c102, hc102, h⟩ := letO_some h
              obtain ⟨b101, hb101, h⟩ := bindO_some h
              obtain ⟨c103, hc103, h⟩ := letO_some h
              refine (sq_if (et_to (et_or (et_to (et_T (ev_neD (da_lst da_int) (da_hls daw_0) (ev_new (ec_ok (er_methD (f := fun b => (b, ([] : (List Int)))) (ev_var rfl) (ew_1 ev_int) (fun B v vs h1 h2 => by obtain ⟨x, rfl, h2⟩ := h2; exact ⟨v, _, rfl, h1, x, _, rfl, h2, tkE T.t_Region_members_0 B⟩) hr95 (by decide +kernel)) (okR_eq hl96) _)) (ev_new (ec_hls ew_0)) hq97)) hc102.symm) (fun hc => by have hx := iteO_f hc hb101; obtain ⟨r98, hr98, hx⟩ := bindO_some hx; obtain ⟨l99, hl99, hx⟩ := bindO_some hx; obtain ⟨v100, hv100, hx⟩ := bindO_some hx; exact et_to (et_not (et_B (ev_call (ew_C (ev_new (ec_ok (er_methK1 (n := 1) (f := fun b y => (b, y)) (ev_var rfl) (ew_1 (ev_var rfl)) (ew_1 (ev_var rfl)) (fun B v vs u h1 h2 h3 => by obtain ⟨x, rfl, h2⟩ := h2; exact ⟨v, _, rfl, h1, x, _, rfl, h2, u, rfl, h3⟩) hr98 (by decide +kernel)) (okR_eq hl99) _)) (ew_C (ev_var rfl) (ew_C (ev_var rfl) (ew_1 (ev_var rfl))))) hv100))) (Option.some.inj hx)) (fun hc => ⟨(Option.some.inj (iteO_t hc hb101)).symm, rfl⟩)) hc103.symm) (fun hc => ?_) (fun hc => ?_))
              · have h := iteO_t hc h
                exact (sq_ret ev_bl h kr)
              · have h := iteO_f hc h
                refine nx_next ?_
                try dsimp only
                obtain ⟨c104, hc104, h⟩ := letO_some h
                refine (sq_if (et_to (et_B (ev_notN (ev_var rfl))) hc104.symm) (fun hc => ?_) (fun hc => ?_))
                · have h := iteO_t hc h
                  exact (sq_ret ev_bl h kr)
                · have h := iteO_f hc h
                  refine nx_next ?_
                  try dsimp only
                  obtain ⟨r105, hr105, h⟩ := bindO_some h
                  obtain ⟨l106, hl106, h⟩ := bindO_some h
                  obtain ⟨v107, hv107, h⟩ := bindO_some h
                  exact (sq_ret (ev_call (ew_C (ev_new (ec_ok (er_methD (f := fun b => (b, ([] : (List Int)))) (ev_var rfl) (ew_1 (ev_var rfl)) (fun B v vs h1 h2 => by obtain ⟨x, rfl, h2⟩ := h2; exact ⟨v, _, rfl, h1, x, _, rfl, h2, tkE T.t_Region_members_0 B⟩) hr105 (by decide +kernel)) (okR_eq hl106) _)) (ew_C (ev_var rfl) (ew_C (ev_var rfl) (ew_1 (ev_new (ec_lst eh_0 (Nat.le_of_ble_eq_true rfl))))))) hv107) h kr)
end
end Law

set_option maxHeartbeats 4000000
namespace Law
open PySem PySem.Spec PyProof.Rows L2 G
theorem all_mk [TabL] {P : Program} {w : World} {K : PySem.W.Frag} {h : Heap} {mg : Str → Option Value} {fa : Addr} (X : K.In h) (G : h.Ns mainGlobals mg) (hfa : mg "law" = some (.ref fa))
    {C_Region : Addr} {C_TooFew : Addr} {C_BadSign : Addr} {C_ShownError : Addr} {oc_between : Value} {kV_between : Value}
    {dc_between : Value} {pm_between : Value} {cd_between : Value} {ct_between : Value} {od_between an_between : Option Addr} {sl_between : Array (Option Value)} {f_between : Addr} {oc_one_form : Value}
    {kV_one_form : Value} {dc_one_form : Value} {pm_one_form : Value} {cd_one_form : Value} {ct_one_form : Value} {od_one_form an_one_form : Option Addr} {sl_one_form : Array (Option Value)} {f_one_form : Addr}
    {oc_size_of : Value} {kV_size_of : Value} {dc_size_of : Value} {pm_size_of : Value} {cd_size_of : Value} {ct_size_of : Value}
    {od_size_of an_size_of : Option Addr} {sl_size_of : Array (Option Value)} {f_size_of : Addr} {oc_Region___init : Value} {kV_Region___init : Value} {dc_Region___init : Value} {pm_Region___init : Value} {cd_Region___init : Value}
    {ct_Region___init : Value} {tc_Region___init : Value} {od_Region___init an_Region___init td_Region___init : Option Addr} {sl_Region___init ts_Region___init : Array (Option Value)} {f_Region___init T_Region___init : Addr} {tn_Region___init : Nat} {e_Region___init_2 : Addr} {ed_Region___init_2 : Option Addr} {en_Region___init_2 : Nat} {es_Region___init_2 : Array (Option Value)} {oc_Region___contains : Value} {kV_Region___contains : Value}
    {dc_Region___contains : Value} {pm_Region___contains : Value} {cd_Region___contains : Value} {ct_Region___contains : Value} {od_Region___contains an_Region___contains : Option Addr} {sl_Region___contains : Array (Option Value)} {f_Region___contains : Addr} {oc_Region__start : Value}
    {kV_Region__start : Value} {dc_Region__start : Value} {pm_Region__start : Value} {cd_Region__start : Value} {ct_Region__start : Value} {od_Region__start an_Region__start : Option Addr} {sl_Region__start : Array (Option Value)} {f_Region__start : Addr}
    {oc_Region_members : Value} {dc_Region_members : Value} {pm_Region_members : Value} {cd_Region_members : Value} {ct_Region_members : Value} {od_Region_members an_Region_members : Option Addr} {sl_Region_members : Array (Option Value)} {f_Region_members D_Region_members e_Region_members_0 : Addr} {ed_Region_members : Option Addr} {en_Region_members : Nat} {es_Region_members : Array (Option Value)}
    {oc_l_start : Value} {kV_l_start : Value} {dc_l_start : Value} {pm_l_start : Value} {cd_l_start : Value} {ct_l_start : Value}
    {od_l_start an_l_start : Option Addr} {sl_l_start : Array (Option Value)} {f_l_start : Addr} {oc_l_draw : Value} {kV_l_draw : Value} {dc_l_draw : Value} {pm_l_draw : Value} {cd_l_draw : Value}
    {ct_l_draw : Value} {od_l_draw an_l_draw : Option Addr} {sl_l_draw : Array (Option Value)} {f_l_draw : Addr} {oc_l_end : Value} {kV_l_end : Value} {dc_l_end : Value} {pm_l_end : Value}
    {cd_l_end : Value} {ct_l_end : Value} {od_l_end an_l_end : Option Addr} {sl_l_end : Array (Option Value)} {f_l_end : Addr} {oc_l_base : Value} {kV_l_base : Value} {dc_l_base : Value}
    {pm_l_base : Value} {cd_l_base : Value} {ct_l_base : Value} {od_l_base an_l_base : Option Addr} {sl_l_base : Array (Option Value)} {f_l_base : Addr} {oc_l_parts : Value} {kV_l_parts : Value}
    {dc_l_parts : Value} {pm_l_parts : Value} {cd_l_parts : Value} {ct_l_parts : Value} {od_l_parts an_l_parts : Option Addr} {sl_l_parts : Array (Option Value)} {f_l_parts : Addr} {oc_l_is_integer : Value}
    {kV_l_is_integer : Value} {dc_l_is_integer : Value} {pm_l_is_integer : Value} {cd_l_is_integer : Value} {ct_l_is_integer : Value} {od_l_is_integer an_l_is_integer : Option Addr} {sl_l_is_integer : Array (Option Value)} {f_l_is_integer : Addr}
    {oc_l_in_part : Value} {kV_l_in_part : Value} {dc_l_in_part : Value} {pm_l_in_part : Value} {cd_l_in_part : Value} {ct_l_in_part : Value}
    {od_l_in_part an_l_in_part : Option Addr} {sl_l_in_part : Array (Option Value)} {f_l_in_part : Addr} {oc_l_window : Value} {kV_l_window : Value} {dc_l_window : Value} {pm_l_window : Value} {cd_l_window : Value}
    {ct_l_window : Value} {od_l_window an_l_window : Option Addr} {sl_l_window : Array (Option Value)} {f_l_window : Addr} {oc_l_free : Value} {kV_l_free : Value} {dc_l_free : Value} {pm_l_free : Value}
    {cd_l_free : Value} {ct_l_free : Value} {od_l_free an_l_free : Option Addr} {sl_l_free : Array (Option Value)} {f_l_free : Addr} {oc_l_asked : Value} {kV_l_asked : Value} {dc_l_asked : Value}
    {pm_l_asked : Value} {cd_l_asked : Value} {ct_l_asked : Value} {od_l_asked an_l_asked : Option Addr} {sl_l_asked : Array (Option Value)} {f_l_asked : Addr} {oc_l_base_caught : Value} {kV_l_base_caught : Value}
    {dc_l_base_caught : Value} {pm_l_base_caught : Value} {cd_l_base_caught : Value} {ct_l_base_caught : Value} {od_l_base_caught an_l_base_caught : Option Addr} {sl_l_base_caught : Array (Option Value)} {f_l_base_caught : Addr} {oc_l_good : Value}
    {kV_l_good : Value} {dc_l_good : Value} {pm_l_good : Value} {cd_l_good : Value} {ct_l_good : Value} {od_l_good an_l_good : Option Addr} {sl_l_good : Array (Option Value)} {f_l_good : Addr}
    {oc_law : Value} {kV_law : Value} {dc_law : Value} {pm_law : Value} {cd_law : Value} {ct_law : Value}
    {od_law an_law : Option Addr} {sl_law : Array (Option Value)} {f_law : Addr} {nm_TooFew q_TooFew : Str} {N_TooFew : Addr} {bs_TooFew bm_TooFew sub_TooFew : List Value} {sn_TooFew : List Str} {ab_TooFew : Bool} {col_TooFew : Option Bool} {dd_TooFew : Option Addr} {m0_TooFew m1_TooFew m2_TooFew m3_TooFew m5_TooFew : Option Value} {oc_e_TooFew : Value} {kV_e_TooFew : Value} {dc_e_TooFew : Value} {pm_e_TooFew : Value}
    {cd_e_TooFew : Value} {ct_e_TooFew : Value} {od_e_TooFew an_e_TooFew : Option Addr} {sl_e_TooFew : Array (Option Value)} {f_e_TooFew : Addr}
    (aC_Region : PySem.W.nsIn K mainGlobals "Region" = some (some (.ref C_Region)))
    (aC_TooFew : PySem.W.nsIn K mainGlobals "TooFew" = some (some (.ref C_TooFew)))
    (aC_BadSign : PySem.W.nsIn K mainGlobals "BadSign" = some (some (.ref C_BadSign)))
    (aC_ShownError : PySem.W.nsIn K mainGlobals "ShownError" = some (some (.ref C_ShownError)))
    (a_between : PySem.W.nsIn K mainGlobals "between" = some (some (.ref f_between)))
    (l_between : K.lookup f_between = some ⟨oc_between, od_between, .func (PySem.W.fnOf "between" "between" (defArgs s_between) (defBody s_between) (defScope s_between) .none kV_between dc_between pm_between an_between cd_between ct_between), sl_between⟩)
    (c_between : PySem.W.codeIn K cd_between "between" = true)
    (k_between : PySem.W.keepIn K (.ref f_between) = true)
    (a_one_form : PySem.W.nsIn K mainGlobals "one_form" = some (some (.ref f_one_form)))
    (l_one_form : K.lookup f_one_form = some ⟨oc_one_form, od_one_form, .func (PySem.W.fnOf "one_form" "one_form" (defArgs s_one_form) (defBody s_one_form) (defScope s_one_form) .none kV_one_form dc_one_form pm_one_form an_one_form cd_one_form ct_one_form), sl_one_form⟩)
    (c_one_form : PySem.W.codeIn K cd_one_form "one_form" = true)
    (k_one_form : PySem.W.keepIn K (.ref f_one_form) = true)
    (a_size_of : PySem.W.nsIn K mainGlobals "size_of" = some (some (.ref f_size_of)))
    (l_size_of : K.lookup f_size_of = some ⟨oc_size_of, od_size_of, .func (PySem.W.fnOf "size_of" "size_of" (defArgs s_size_of) (defBody s_size_of) (defScope s_size_of) .none kV_size_of dc_size_of pm_size_of an_size_of cd_size_of ct_size_of), sl_size_of⟩)
    (c_size_of : PySem.W.codeIn K cd_size_of "size_of" = true)
    (k_size_of : PySem.W.keepIn K (.ref f_size_of) = true)
    (a_Region___init : PySem.W.findIn K (.ref C_Region) "__init__" = some (some (.ref f_Region___init)))
    (l_Region___init : K.lookup f_Region___init = some ⟨oc_Region___init, od_Region___init, .func (PySem.W.fnOf "__init__" "Region.__init__" (defArgs s_Region___init) (defBody s_Region___init) (defScope s_Region___init) (.ref T_Region___init) kV_Region___init dc_Region___init pm_Region___init an_Region___init cd_Region___init ct_Region___init), sl_Region___init⟩)
    (c_Region___init : PySem.W.codeIn K cd_Region___init "Region.__init__" = true)
    (k_Region___init : PySem.W.keepIn K (.ref f_Region___init) = true)
    (lT_Region___init : K.lookup T_Region___init = some ⟨tc_Region___init, td_Region___init, .seq #[Value.none, Value.none, Value.ref e_Region___init_2] tn_Region___init, ts_Region___init⟩)
    (le_Region___init_2 : K.lookup e_Region___init_2 = some ⟨.type "tuple", ed_Region___init_2, .seq #[] en_Region___init_2, es_Region___init_2⟩)
    (i_Region___init : PySem.W.isFn K (.ref f_Region___init) = true)
    (a_Region___contains : PySem.W.findIn K (.ref C_Region) "__contains__" = some (some (.ref f_Region___contains)))
    (l_Region___contains : K.lookup f_Region___contains = some ⟨oc_Region___contains, od_Region___contains, .func (PySem.W.fnOf "__contains__" "Region.__contains__" (defArgs s_Region___contains) (defBody s_Region___contains) (defScope s_Region___contains) .none kV_Region___contains dc_Region___contains pm_Region___contains an_Region___contains cd_Region___contains ct_Region___contains), sl_Region___contains⟩)
    (c_Region___contains : PySem.W.codeIn K cd_Region___contains "Region.__contains__" = true)
    (k_Region___contains : PySem.W.keepIn K (.ref f_Region___contains) = true)
    (i_Region___contains : PySem.W.isFn K (.ref f_Region___contains) = true)
    (a_Region__start : PySem.W.findIn K (.ref C_Region) "_start" = some (some (.ref f_Region__start)))
    (l_Region__start : K.lookup f_Region__start = some ⟨oc_Region__start, od_Region__start, .func (PySem.W.fnOf "_start" "Region._start" (defArgs s_Region__start) (defBody s_Region__start) (defScope s_Region__start) .none kV_Region__start dc_Region__start pm_Region__start an_Region__start cd_Region__start ct_Region__start), sl_Region__start⟩)
    (c_Region__start : PySem.W.codeIn K cd_Region__start "Region._start" = true)
    (k_Region__start : PySem.W.keepIn K (.ref f_Region__start) = true)
    (i_Region__start : PySem.W.isFn K (.ref f_Region__start) = true)
    (a_Region_members : PySem.W.findIn K (.ref C_Region) "members" = some (some (.ref f_Region_members)))
    (l_Region_members : K.lookup f_Region_members = some ⟨oc_Region_members, od_Region_members, .func (PySem.W.fnOf "members" "Region.members" (defArgs s_Region_members) (defBody s_Region_members) (defScope s_Region_members) .none (.ref D_Region_members) dc_Region_members pm_Region_members an_Region_members cd_Region_members ct_Region_members), sl_Region_members⟩)
    (c_Region_members : PySem.W.codeIn K cd_Region_members "Region.members" = true)
    (k_Region_members : PySem.W.keepIn K (.ref f_Region_members) = true)
    (kw_Region_members : PySem.W.nsIn K D_Region_members "apart" = some (some (.ref e_Region_members_0)))
    (le_Region_members_0 : K.lookup e_Region_members_0 = some ⟨.type "tuple", ed_Region_members, .seq #[] en_Region_members, es_Region_members⟩)
    (i_Region_members : PySem.W.isFn K (.ref f_Region_members) = true)
    (a_l_start : PySem.W.nsIn K mainGlobals "_law_start" = some (some (.ref f_l_start)))
    (l_l_start : K.lookup f_l_start = some ⟨oc_l_start, od_l_start, .func (PySem.W.fnOf "_law_start" "_law_start" (defArgs s_l_start) (defBody s_l_start) (defScope s_l_start) .none kV_l_start dc_l_start pm_l_start an_l_start cd_l_start ct_l_start), sl_l_start⟩)
    (c_l_start : PySem.W.codeIn K cd_l_start "_law_start" = true)
    (k_l_start : PySem.W.keepIn K (.ref f_l_start) = true)
    (a_l_draw : PySem.W.nsIn K mainGlobals "_law_draw" = some (some (.ref f_l_draw)))
    (l_l_draw : K.lookup f_l_draw = some ⟨oc_l_draw, od_l_draw, .func (PySem.W.fnOf "_law_draw" "_law_draw" (defArgs s_l_draw) (defBody s_l_draw) (defScope s_l_draw) .none kV_l_draw dc_l_draw pm_l_draw an_l_draw cd_l_draw ct_l_draw), sl_l_draw⟩)
    (c_l_draw : PySem.W.codeIn K cd_l_draw "_law_draw" = true)
    (k_l_draw : PySem.W.keepIn K (.ref f_l_draw) = true)
    (a_l_end : PySem.W.nsIn K mainGlobals "_law_end" = some (some (.ref f_l_end)))
    (l_l_end : K.lookup f_l_end = some ⟨oc_l_end, od_l_end, .func (PySem.W.fnOf "_law_end" "_law_end" (defArgs s_l_end) (defBody s_l_end) (defScope s_l_end) .none kV_l_end dc_l_end pm_l_end an_l_end cd_l_end ct_l_end), sl_l_end⟩)
    (c_l_end : PySem.W.codeIn K cd_l_end "_law_end" = true)
    (k_l_end : PySem.W.keepIn K (.ref f_l_end) = true)
    (a_l_base : PySem.W.nsIn K mainGlobals "_law_base" = some (some (.ref f_l_base)))
    (l_l_base : K.lookup f_l_base = some ⟨oc_l_base, od_l_base, .func (PySem.W.fnOf "_law_base" "_law_base" (defArgs s_l_base) (defBody s_l_base) (defScope s_l_base) .none kV_l_base dc_l_base pm_l_base an_l_base cd_l_base ct_l_base), sl_l_base⟩)
    (c_l_base : PySem.W.codeIn K cd_l_base "_law_base" = true)
    (k_l_base : PySem.W.keepIn K (.ref f_l_base) = true)
    (a_l_parts : PySem.W.nsIn K mainGlobals "_law_parts" = some (some (.ref f_l_parts)))
    (l_l_parts : K.lookup f_l_parts = some ⟨oc_l_parts, od_l_parts, .func (PySem.W.fnOf "_law_parts" "_law_parts" (defArgs s_l_parts) (defBody s_l_parts) (defScope s_l_parts) .none kV_l_parts dc_l_parts pm_l_parts an_l_parts cd_l_parts ct_l_parts), sl_l_parts⟩)
    (c_l_parts : PySem.W.codeIn K cd_l_parts "_law_parts" = true)
    (k_l_parts : PySem.W.keepIn K (.ref f_l_parts) = true)
    (a_l_is_integer : PySem.W.nsIn K mainGlobals "_law_is_integer" = some (some (.ref f_l_is_integer)))
    (l_l_is_integer : K.lookup f_l_is_integer = some ⟨oc_l_is_integer, od_l_is_integer, .func (PySem.W.fnOf "_law_is_integer" "_law_is_integer" (defArgs s_l_is_integer) (defBody s_l_is_integer) (defScope s_l_is_integer) .none kV_l_is_integer dc_l_is_integer pm_l_is_integer an_l_is_integer cd_l_is_integer ct_l_is_integer), sl_l_is_integer⟩)
    (c_l_is_integer : PySem.W.codeIn K cd_l_is_integer "_law_is_integer" = true)
    (k_l_is_integer : PySem.W.keepIn K (.ref f_l_is_integer) = true)
    (a_l_in_part : PySem.W.nsIn K mainGlobals "_law_in_part" = some (some (.ref f_l_in_part)))
    (l_l_in_part : K.lookup f_l_in_part = some ⟨oc_l_in_part, od_l_in_part, .func (PySem.W.fnOf "_law_in_part" "_law_in_part" (defArgs s_l_in_part) (defBody s_l_in_part) (defScope s_l_in_part) .none kV_l_in_part dc_l_in_part pm_l_in_part an_l_in_part cd_l_in_part ct_l_in_part), sl_l_in_part⟩)
    (c_l_in_part : PySem.W.codeIn K cd_l_in_part "_law_in_part" = true)
    (k_l_in_part : PySem.W.keepIn K (.ref f_l_in_part) = true)
    (a_l_window : PySem.W.nsIn K mainGlobals "_law_window" = some (some (.ref f_l_window)))
    (l_l_window : K.lookup f_l_window = some ⟨oc_l_window, od_l_window, .func (PySem.W.fnOf "_law_window" "_law_window" (defArgs s_l_window) (defBody s_l_window) (defScope s_l_window) .none kV_l_window dc_l_window pm_l_window an_l_window cd_l_window ct_l_window), sl_l_window⟩)
    (c_l_window : PySem.W.codeIn K cd_l_window "_law_window" = true)
    (k_l_window : PySem.W.keepIn K (.ref f_l_window) = true)
    (a_l_free : PySem.W.nsIn K mainGlobals "_law_free" = some (some (.ref f_l_free)))
    (l_l_free : K.lookup f_l_free = some ⟨oc_l_free, od_l_free, .func (PySem.W.fnOf "_law_free" "_law_free" (defArgs s_l_free) (defBody s_l_free) (defScope s_l_free) .none kV_l_free dc_l_free pm_l_free an_l_free cd_l_free ct_l_free), sl_l_free⟩)
    (c_l_free : PySem.W.codeIn K cd_l_free "_law_free" = true)
    (k_l_free : PySem.W.keepIn K (.ref f_l_free) = true)
    (a_l_asked : PySem.W.nsIn K mainGlobals "_law_asked" = some (some (.ref f_l_asked)))
    (l_l_asked : K.lookup f_l_asked = some ⟨oc_l_asked, od_l_asked, .func (PySem.W.fnOf "_law_asked" "_law_asked" (defArgs s_l_asked) (defBody s_l_asked) (defScope s_l_asked) .none kV_l_asked dc_l_asked pm_l_asked an_l_asked cd_l_asked ct_l_asked), sl_l_asked⟩)
    (c_l_asked : PySem.W.codeIn K cd_l_asked "_law_asked" = true)
    (k_l_asked : PySem.W.keepIn K (.ref f_l_asked) = true)
    (a_l_base_caught : PySem.W.nsIn K mainGlobals "_law_base_caught" = some (some (.ref f_l_base_caught)))
    (l_l_base_caught : K.lookup f_l_base_caught = some ⟨oc_l_base_caught, od_l_base_caught, .func (PySem.W.fnOf "_law_base_caught" "_law_base_caught" (defArgs s_l_base_caught) (defBody s_l_base_caught) (defScope s_l_base_caught) .none kV_l_base_caught dc_l_base_caught pm_l_base_caught an_l_base_caught cd_l_base_caught ct_l_base_caught), sl_l_base_caught⟩)
    (c_l_base_caught : PySem.W.codeIn K cd_l_base_caught "_law_base_caught" = true)
    (k_l_base_caught : PySem.W.keepIn K (.ref f_l_base_caught) = true)
    (a_l_good : PySem.W.nsIn K mainGlobals "_law_good" = some (some (.ref f_l_good)))
    (l_l_good : K.lookup f_l_good = some ⟨oc_l_good, od_l_good, .func (PySem.W.fnOf "_law_good" "_law_good" (defArgs s_l_good) (defBody s_l_good) (defScope s_l_good) .none kV_l_good dc_l_good pm_l_good an_l_good cd_l_good ct_l_good), sl_l_good⟩)
    (c_l_good : PySem.W.codeIn K cd_l_good "_law_good" = true)
    (k_l_good : PySem.W.keepIn K (.ref f_l_good) = true)
    (a_law : PySem.W.nsIn K mainGlobals "law" = some (some (.ref f_law)))
    (l_law : K.lookup f_law = some ⟨oc_law, od_law, .func (PySem.W.fnOf "law" "law" (defArgs s_law) (defBody s_law) (defScope s_law) .none kV_law dc_law pm_law an_law cd_law ct_law), sl_law⟩)
    (c_law : PySem.W.codeIn K cd_law "law" = true)
    (k_law : PySem.W.keepIn K (.ref f_law) = true)
    (z_ValueError : PySem.W.nsIn K mainGlobals "ValueError" = some none)
    (z_bool : PySem.W.nsIn K mainGlobals "bool" = some none)
    (z_int : PySem.W.nsIn K mainGlobals "int" = some none)
    (z_isinstance : PySem.W.nsIn K mainGlobals "isinstance" = some none)
    (z_len : PySem.W.nsIn K mainGlobals "len" = some none)
    (z_list : PySem.W.nsIn K mainGlobals "list" = some none)
    (z_range : PySem.W.nsIn K mainGlobals "range" = some none)
    (z_set : PySem.W.nsIn K mainGlobals "set" = some none)
    (z_sorted : PySem.W.nsIn K mainGlobals "sorted" = some none)
    (z_tuple : PySem.W.nsIn K mainGlobals "tuple" = some none)
    (pg_Region : PySem.W.plainGet K C_Region Str.empty = true)
    (hd_Region : PySem.W.hasDictIn K C_Region = true)
    (po_Region : PySem.W.plainOver K C_Region = true)
    (sa_Region : PySem.W.findIn K (.ref C_Region) "__setattr__" = some (some (.builtin "object.__setattr__")))
    (na_Region_low : PySem.W.findIn K (.ref C_Region) "low" = some none)
    (na_Region_high : PySem.W.findIn K (.ref C_Region) "high" = some none)
    (na_Region_without : PySem.W.findIn K (.ref C_Region) "without" = some none)
    (na_Region_size : PySem.W.findIn K (.ref C_Region) "size" = some none)
    (na_Region_value : PySem.W.findIn K (.ref C_Region) "value" = some none)
    (na_Region__gaps : PySem.W.findIn K (.ref C_Region) "_gaps" = some none)
    (ex_TooFew : PySem.W.subIn K (.ref C_TooFew) (.type "BaseException") = some true)
    (ic_TooFew : PySem.W.isClsIn K C_TooFew = true)
    (ty_TooFew : PySem.W.typeIn K (.ref C_TooFew) = some (.type "type"))
    (su_TooFew_TooFew : PySem.W.subIn K (.ref C_TooFew) (.ref C_TooFew) = some true)
    (ga_TooFew : PySem.W.findIn K (.ref C_TooFew) "__getattribute__" = some (some (.builtin "BaseException.__getattribute__")))
    (gg_TooFew : PySem.W.findIn K (.ref C_TooFew) "__getattr__" = some none)
    (hd_TooFew : PySem.W.hasDictIn K C_TooFew = true)
    (na_TooFew_count : PySem.W.findIn K (.ref C_TooFew) "count" = some none)
    (ca_TooFew : PySem.W.findIn K (.ref C_TooFew) "__class__" = some (some (.builtin "object.__class__")))
    (cn_ : PySem.W.specialIn K (.builtin "object.__class__") "__get__" = some (some (.builtin "getset_descriptor.__get__")))
    (ct_ : PySem.W.takesIn K (.builtin "object.__class__") = some true)
    (cm_TooFew : PySem.W.mroIn K C_TooFew (.type "object") = some true)
    (qq_TooFew_ValueError : PySem.W.kitOne K (.ref C_TooFew) (.type "ValueError") = some true)
    (qq_TooFew_BadSign : PySem.W.kitOne K (.ref C_TooFew) (.ref C_BadSign) = some false)
    (ex_ShownError : PySem.W.subIn K (.ref C_ShownError) (.type "BaseException") = some true)
    (ic_ShownError : PySem.W.isClsIn K C_ShownError = true)
    (ty_ShownError : PySem.W.typeIn K (.ref C_ShownError) = some (.type "type"))
    (su_TooFew_ShownError : PySem.W.subIn K (.ref C_TooFew) (.ref C_ShownError) = some true)
    (qq_TooFew_TooFew : PySem.W.kitOne K (.ref C_TooFew) (.ref C_TooFew) = some true)
    (mk_Region : PySem.W.makesIn K C_Region = true)
    (kc_Region : PySem.W.keepIn K (.ref C_Region) = true)
    (xl_TooFew : K.lookup C_TooFew = some (excClassObj nm_TooFew q_TooFew C_TooFew N_TooFew bs_TooFew bm_TooFew true sn_TooFew sub_TooFew ab_TooFew col_TooFew dd_TooFew m0_TooFew m1_TooFew m2_TooFew m3_TooFew m5_TooFew "ValueError.__new__"))
    (rv_TooFew : PySem.HandSPX.refsVE bm_TooFew = true)
    (sa_TooFew : PySem.W.findIn K (.ref C_TooFew) "__setattr__" = some (some (.builtin "object.__setattr__")))
    (kc_TooFew : PySem.W.keepIn K (.ref C_TooFew) = true)
    (a_e_TooFew : PySem.W.findIn K (.ref C_TooFew) "__init__" = some (some (.ref f_e_TooFew)))
    (l_e_TooFew : K.lookup f_e_TooFew = some ⟨oc_e_TooFew, od_e_TooFew, .func (PySem.W.fnOf "__init__" "TooFew.__init__" (defArgs s_e_TooFew) (defBody s_e_TooFew) (defScope s_e_TooFew) .none kV_e_TooFew dc_e_TooFew pm_e_TooFew an_e_TooFew cd_e_TooFew ct_e_TooFew), sl_e_TooFew⟩)
    (c_e_TooFew : PySem.W.codeIn K cd_e_TooFew "TooFew.__init__" = true)
    (k_e_TooFew : PySem.W.keepIn K (.ref f_e_TooFew) = true)
    (tI_TooFew : PySem.W.typeIn K (.ref f_e_TooFew) = some (.type "function"))
    : ∃ fd : FuncData, (∀ (s : Shared) (v : Value), BindsTo s fd ⟨[v], []⟩ [("_law_script", v)]) ∧ ∀ base : Heap, K.In base → base.Ns mainGlobals mg → FnOk P w K mg base CX0 5 fa fd ["_law_script"] (SpL (w1 (rScr K)) rBool (fun x => m_law x)) := by
  have e := hfa.symm.trans (PySem.W.mg_of X G a_law)
  cases e
  have FD_Region___init : FunD K "__init__" "Region.__init__" (defArgs s_Region___init) (defBody s_Region___init) (defScope s_Region___init) [V.non, V.non, V.ref e_Region___init_2] [] f_Region___init (PySem.W.fnOf "__init__" "Region.__init__" (defArgs s_Region___init) (defBody s_Region___init) (defScope s_Region___init) (.ref T_Region___init) kV_Region___init dc_Region___init pm_Region___init an_Region___init cd_Region___init ct_Region___init) := ⟨⟨_, _, _, _, _, _, _, _, _, _, rfl, l_Region___init, c_Region___init, .inr ⟨List.cons_ne_nil _ _, T_Region___init, _, [Value.none, Value.none, Value.ref e_Region___init_2], _, rfl, lT_Region___init, rfl, (.cons rfl (.cons rfl (.cons rfl .nil)))⟩, .inl rfl⟩, k_Region___init⟩
  obtain ⟨z_Region___init_3, v_Region___init_3, n_Region___init_3⟩ := FD_Region___init.binds1 (ps := ["self", "low", "high", "without"]) 4 3 (List.cons_ne_nil _ _) rfl (fun T kV doc pm an cdv ct us its l1 l2 => match us, its, l1, l2 with | [_, _, _, _], [_, _, _], _, _ => ⟨_, rfl, rfl⟩)
  have FD_Region_members : FunD K "members" "Region.members" (defArgs s_Region_members) (defBody s_Region_members) (defScope s_Region_members) [] [("apart", V.ref e_Region_members_0)] f_Region_members (PySem.W.fnOf "members" "Region.members" (defArgs s_Region_members) (defBody s_Region_members) (defScope s_Region_members) .none (.ref D_Region_members) dc_Region_members pm_Region_members an_Region_members cd_Region_members ct_Region_members) := ⟨⟨_, _, _, _, _, _, _, _, _, _, rfl, l_Region_members, c_Region_members, .inl ⟨rfl, rfl⟩, .inr ⟨D_Region_members, rfl, fun q hq => by obtain rfl := List.mem_singleton.mp hq; exact ⟨_, kw_Region_members, rfl⟩⟩⟩, k_Region_members⟩
  obtain ⟨mv_Region_members, kb_Region_members⟩ := FD_Region_members.kbinds0 (ps := ["self", "count", "apart"]) 2 ["apart"] [] (fun {α} us _ ws => us ++ ws) (List.cons_ne_nil _ _) (fun q hq => nomatch hq) (fun h1 _ h3 => h1.append h3) (fun D doc pm an cdv ct us mv ws l1 l2 l3 => match us, mv, ws, l1, l2, l3 with | [_, _], [], [_], _, _, _ => by with_unfolding_all rfl)
  obtain ⟨z_Region_members_k, v_Region_members_k, n_Region_members_k⟩ := FD_Region_members.binds0 (ps := ["self", "count", "apart"]) 2 (List.cons_ne_nil _ _) rfl (fun D doc pm an cdv ct us ks l1 l2 => match us, ks, l1, l2 with | [_, _], [_], _, _ => ⟨_, _, _, _, _, _, rfl, rfl, rfl⟩)
  have T : Txt K mg { f_between := f_between, d_between := PySem.W.fnOf "between" "between" (defArgs s_between) (defBody s_between) (defScope s_between) .none kV_between dc_between pm_between an_between cd_between ct_between, f_one_form := f_one_form, d_one_form := PySem.W.fnOf "one_form" "one_form" (defArgs s_one_form) (defBody s_one_form) (defScope s_one_form) .none kV_one_form dc_one_form pm_one_form an_one_form cd_one_form ct_one_form, f_size_of := f_size_of, d_size_of := PySem.W.fnOf "size_of" "size_of" (defArgs s_size_of) (defBody s_size_of) (defScope s_size_of) .none kV_size_of dc_size_of pm_size_of an_size_of cd_size_of ct_size_of, f_Region___init := f_Region___init, d_Region___init := PySem.W.fnOf "__init__" "Region.__init__" (defArgs s_Region___init) (defBody s_Region___init) (defScope s_Region___init) (.ref T_Region___init) kV_Region___init dc_Region___init pm_Region___init an_Region___init cd_Region___init ct_Region___init, e_Region___init_2 := e_Region___init_2, z_Region___init_3 := z_Region___init_3, f_Region___contains := f_Region___contains, d_Region___contains := PySem.W.fnOf "__contains__" "Region.__contains__" (defArgs s_Region___contains) (defBody s_Region___contains) (defScope s_Region___contains) .none kV_Region___contains dc_Region___contains pm_Region___contains an_Region___contains cd_Region___contains ct_Region___contains, f_Region__start := f_Region__start, d_Region__start := PySem.W.fnOf "_start" "Region._start" (defArgs s_Region__start) (defBody s_Region__start) (defScope s_Region__start) .none kV_Region__start dc_Region__start pm_Region__start an_Region__start cd_Region__start ct_Region__start, f_Region_members := f_Region_members, d_Region_members := PySem.W.fnOf "members" "Region.members" (defArgs s_Region_members) (defBody s_Region_members) (defScope s_Region_members) .none (.ref D_Region_members) dc_Region_members pm_Region_members an_Region_members cd_Region_members ct_Region_members, e_Region_members_0 := e_Region_members_0, z_Region_members_k := z_Region_members_k, f_l_start := f_l_start, d_l_start := PySem.W.fnOf "_law_start" "_law_start" (defArgs s_l_start) (defBody s_l_start) (defScope s_l_start) .none kV_l_start dc_l_start pm_l_start an_l_start cd_l_start ct_l_start, f_l_draw := f_l_draw, d_l_draw := PySem.W.fnOf "_law_draw" "_law_draw" (defArgs s_l_draw) (defBody s_l_draw) (defScope s_l_draw) .none kV_l_draw dc_l_draw pm_l_draw an_l_draw cd_l_draw ct_l_draw, f_l_end := f_l_end, d_l_end := PySem.W.fnOf "_law_end" "_law_end" (defArgs s_l_end) (defBody s_l_end) (defScope s_l_end) .none kV_l_end dc_l_end pm_l_end an_l_end cd_l_end ct_l_end, f_l_base := f_l_base, d_l_base := PySem.W.fnOf "_law_base" "_law_base" (defArgs s_l_base) (defBody s_l_base) (defScope s_l_base) .none kV_l_base dc_l_base pm_l_base an_l_base cd_l_base ct_l_base, f_l_parts := f_l_parts, d_l_parts := PySem.W.fnOf "_law_parts" "_law_parts" (defArgs s_l_parts) (defBody s_l_parts) (defScope s_l_parts) .none kV_l_parts dc_l_parts pm_l_parts an_l_parts cd_l_parts ct_l_parts, f_l_is_integer := f_l_is_integer, d_l_is_integer := PySem.W.fnOf "_law_is_integer" "_law_is_integer" (defArgs s_l_is_integer) (defBody s_l_is_integer) (defScope s_l_is_integer) .none kV_l_is_integer dc_l_is_integer pm_l_is_integer an_l_is_integer cd_l_is_integer ct_l_is_integer, f_l_in_part := f_l_in_part, d_l_in_part := PySem.W.fnOf "_law_in_part" "_law_in_part" (defArgs s_l_in_part) (defBody s_l_in_part) (defScope s_l_in_part) .none kV_l_in_part dc_l_in_part pm_l_in_part an_l_in_part cd_l_in_part ct_l_in_part, f_l_window := f_l_window, d_l_window := PySem.W.fnOf "_law_window" "_law_window" (defArgs s_l_window) (defBody s_l_window) (defScope s_l_window) .none kV_l_window dc_l_window pm_l_window an_l_window cd_l_window ct_l_window, f_l_free := f_l_free, d_l_free := PySem.W.fnOf "_law_free" "_law_free" (defArgs s_l_free) (defBody s_l_free) (defScope s_l_free) .none kV_l_free dc_l_free pm_l_free an_l_free cd_l_free ct_l_free, f_l_asked := f_l_asked, d_l_asked := PySem.W.fnOf "_law_asked" "_law_asked" (defArgs s_l_asked) (defBody s_l_asked) (defScope s_l_asked) .none kV_l_asked dc_l_asked pm_l_asked an_l_asked cd_l_asked ct_l_asked, f_l_base_caught := f_l_base_caught, d_l_base_caught := PySem.W.fnOf "_law_base_caught" "_law_base_caught" (defArgs s_l_base_caught) (defBody s_l_base_caught) (defScope s_l_base_caught) .none kV_l_base_caught dc_l_base_caught pm_l_base_caught an_l_base_caught cd_l_base_caught ct_l_base_caught, f_l_good := f_l_good, d_l_good := PySem.W.fnOf "_law_good" "_law_good" (defArgs s_l_good) (defBody s_l_good) (defScope s_l_good) .none kV_l_good dc_l_good pm_l_good an_l_good cd_l_good ct_l_good, f_law := fa, d_law := PySem.W.fnOf "law" "law" (defArgs s_law) (defBody s_law) (defScope s_law) .none kV_law dc_law pm_law an_law cd_law ct_law, C_Region := C_Region, C_TooFew := C_TooFew, C_BadSign := C_BadSign, C_ShownError := C_ShownError, f_e_TooFew := f_e_TooFew, d_e_TooFew := PySem.W.fnOf "__init__" "TooFew.__init__" (defArgs s_e_TooFew) (defBody s_e_TooFew) (defScope s_e_TooFew) .none kV_e_TooFew dc_e_TooFew pm_e_TooFew an_e_TooFew cd_e_TooFew ct_e_TooFew } := { F_between := fun_mk (st := s_between) l_between c_between k_between, g_between := PySem.W.mg_of X G a_between, n_between := (fun_mk (st := s_between) l_between c_between k_between).binds (ps := ["low", "high", "number"]) fun _ _ _ _ _ _ us hl => match us, hl with | [_, _, _], _ => rfl, F_one_form := fun_mk (st := s_one_form) l_one_form c_one_form k_one_form, g_one_form := PySem.W.mg_of X G a_one_form, n_one_form := (fun_mk (st := s_one_form) l_one_form c_one_form k_one_form).binds (ps := ["low", "high", "without"]) fun _ _ _ _ _ _ us hl => match us, hl with | [_, _, _], _ => rfl, F_size_of := fun_mk (st := s_size_of) l_size_of c_size_of k_size_of, g_size_of := PySem.W.mg_of X G a_size_of, n_size_of := (fun_mk (st := s_size_of) l_size_of c_size_of k_size_of).binds (ps := ["low", "high", "without"]) fun _ _ _ _ _ _ us hl => match us, hl with | [_, _, _], _ => rfl, F_Region___init := FD_Region___init, t_Region___init_2 := ⟨_, _, le_Region___init_2, rfl, rfl⟩, n_Region___init_3 := n_Region___init_3, v_Region___init_3 := v_Region___init_3, F_Region___contains := fun_mk (st := s_Region___contains) l_Region___contains c_Region___contains k_Region___contains, n_Region___contains := (fun_mk (st := s_Region___contains) l_Region___contains c_Region___contains k_Region___contains).binds (ps := ["self", "x"]) fun _ _ _ _ _ _ us hl => match us, hl with | [_, _], _ => rfl, F_Region__start := fun_mk (st := s_Region__start) l_Region__start c_Region__start k_Region__start, n_Region__start := (fun_mk (st := s_Region__start) l_Region__start c_Region__start k_Region__start).binds (ps := ["self"]) fun _ _ _ _ _ _ us hl => match us, hl with | [_], _ => rfl, F_Region_members := FD_Region_members, t_Region_members_0 := ⟨_, _, le_Region_members_0, rfl, rfl⟩, kb_Region_members := kb_Region_members, n_Region_members_k := n_Region_members_k, v_Region_members_k := v_Region_members_k, F_l_start := fun_mk (st := s_l_start) l_l_start c_l_start k_l_start, g_l_start := PySem.W.mg_of X G a_l_start, n_l_start := (fun_mk (st := s_l_start) l_l_start c_l_start k_l_start).binds (ps := ["_law_script"]) fun _ _ _ _ _ _ us hl => match us, hl with | [_], _ => rfl, F_l_draw := fun_mk (st := s_l_draw) l_l_draw c_l_draw k_l_draw, g_l_draw := PySem.W.mg_of X G a_l_draw, n_l_draw := (fun_mk (st := s_l_draw) l_l_draw c_l_draw k_l_draw).binds (ps := ["_law_state", "_law_many"]) fun _ _ _ _ _ _ us hl => match us, hl with | [_, _], _ => rfl, F_l_end := fun_mk (st := s_l_end) l_l_end c_l_end k_l_end, g_l_end := PySem.W.mg_of X G a_l_end, n_l_end := (fun_mk (st := s_l_end) l_l_end c_l_end k_l_end).binds (ps := ["_law_state", "_law_base_here"]) fun _ _ _ _ _ _ us hl => match us, hl with | [_, _], _ => rfl, F_l_base := fun_mk (st := s_l_base) l_l_base c_l_base k_l_base, g_l_base := PySem.W.mg_of X G a_l_base, n_l_base := (fun_mk (st := s_l_base) l_l_base c_l_base k_l_base).binds (ps := ["_law_state"]) fun _ _ _ _ _ _ us hl => match us, hl with | [_], _ => rfl, F_l_parts := fun_mk (st := s_l_parts) l_l_parts c_l_parts k_l_parts, g_l_parts := PySem.W.mg_of X G a_l_parts, n_l_parts := (fun_mk (st := s_l_parts) l_l_parts c_l_parts k_l_parts).binds (ps := ["_law_state", "_law_base_here"]) fun _ _ _ _ _ _ us hl => match us, hl with | [_, _], _ => rfl, F_l_is_integer := fun_mk (st := s_l_is_integer) l_l_is_integer c_l_is_integer k_l_is_integer, g_l_is_integer := PySem.W.mg_of X G a_l_is_integer, n_l_is_integer := (fun_mk (st := s_l_is_integer) l_l_is_integer c_l_is_integer k_l_is_integer).binds (ps := ["_law_actual"]) fun _ _ _ _ _ _ us hl => match us, hl with | [_], _ => rfl, F_l_in_part := fun_mk (st := s_l_in_part) l_l_in_part c_l_in_part k_l_in_part, g_l_in_part := PySem.W.mg_of X G a_l_in_part, n_l_in_part := (fun_mk (st := s_l_in_part) l_l_in_part c_l_in_part k_l_in_part).binds (ps := ["_law_part", "_law_number"]) fun _ _ _ _ _ _ us hl => match us, hl with | [_, _], _ => rfl, F_l_window := fun_mk (st := s_l_window) l_l_window c_l_window k_l_window, g_l_window := PySem.W.mg_of X G a_l_window, n_l_window := (fun_mk (st := s_l_window) l_l_window c_l_window k_l_window).binds (ps := ["_law_base_here"]) fun _ _ _ _ _ _ us hl => match us, hl with | [_], _ => rfl, F_l_free := fun_mk (st := s_l_free) l_l_free c_l_free k_l_free, g_l_free := PySem.W.mg_of X G a_l_free, n_l_free := (fun_mk (st := s_l_free) l_l_free c_l_free k_l_free).binds (ps := ["_law_part", "_law_base_here", "_law_barred"]) fun _ _ _ _ _ _ us hl => match us, hl with | [_, _, _], _ => rfl, F_l_asked := fun_mk (st := s_l_asked) l_l_asked c_l_asked k_l_asked, g_l_asked := PySem.W.mg_of X G a_l_asked, n_l_asked := (fun_mk (st := s_l_asked) l_l_asked c_l_asked k_l_asked).binds (ps := ["_law_region", "_law_count", "_law_barred"]) fun _ _ _ _ _ _ us hl => match us, hl with | [_, _, _], _ => rfl, F_l_base_caught := fun_mk (st := s_l_base_caught) l_l_base_caught c_l_base_caught k_l_base_caught, g_l_base_caught := PySem.W.mg_of X G a_l_base_caught, n_l_base_caught := (fun_mk (st := s_l_base_caught) l_l_base_caught c_l_base_caught k_l_base_caught).binds (ps := ["_law_region", "_law_count", "_law_barred"]) fun _ _ _ _ _ _ us hl => match us, hl with | [_, _, _], _ => rfl, F_l_good := fun_mk (st := s_l_good) l_l_good c_l_good k_l_good, g_l_good := PySem.W.mg_of X G a_l_good, n_l_good := (fun_mk (st := s_l_good) l_l_good c_l_good k_l_good).binds (ps := ["_law_found", "_law_part", "_law_count", "_law_barred"]) fun _ _ _ _ _ _ us hl => match us, hl with | [_, _, _, _], _ => rfl, F_law := fun_mk (st := s_law) l_law c_law k_law, g_law := PySem.W.mg_of X G a_law, n_law := (fun_mk (st := s_law) l_law c_law k_law).binds (ps := ["_law_script"]) fun _ _ _ _ _ _ us hl => match us, hl with | [_], _ => rfl, b_ValueError := PySem.W.mg_none_of X G z_ValueError, b_bool := PySem.W.mg_none_of X G z_bool, b_int := PySem.W.mg_none_of X G z_int, b_isinstance := PySem.W.mg_none_of X G z_isinstance, b_len := PySem.W.mg_none_of X G z_len, b_list := PySem.W.mg_none_of X G z_list, b_range := PySem.W.mg_none_of X G z_range, b_set := PySem.W.mg_none_of X G z_set, b_sorted := PySem.W.mg_none_of X G z_sorted, b_tuple := PySem.W.mg_none_of X G z_tuple, g_Region := PySem.W.mg_of X G aC_Region, cl_Region := ⟨pg_Region, hd_Region, po_Region, sa_Region⟩, na_Region_low := na_Region_low, na_Region_high := na_Region_high, na_Region_without := na_Region_without, na_Region_size := na_Region_size, na_Region_value := na_Region_value, na_Region__gaps := na_Region__gaps, me_Region___contains := ⟨a_Region___contains, i_Region___contains, k_Region___contains⟩, g_TooFew := PySem.W.mg_of X G aC_TooFew, me_Region__start := ⟨a_Region__start, i_Region__start, k_Region__start⟩, me_Region_members := ⟨a_Region_members, i_Region_members, k_Region_members⟩, e_TooFew_TooFew := exm_of ex_TooFew ic_TooFew ty_TooFew su_TooFew_TooFew, xf_TooFew := ⟨ga_TooFew, gg_TooFew, ex_TooFew, hd_TooFew⟩, na_TooFew_count := na_TooFew_count, xc_TooFew := ⟨ga_TooFew, gg_TooFew, ex_TooFew, hd_TooFew, ca_TooFew, cn_, ct_, cm_TooFew⟩, q_TooFew_ValueError := qq_TooFew_ValueError, g_BadSign := PySem.W.mg_of X G aC_BadSign, q_TooFew_BadSign := qq_TooFew_BadSign, g_ShownError := PySem.W.mg_of X G aC_ShownError, e_TooFew_ShownError := exm_of ex_ShownError ic_ShownError ty_ShownError su_TooFew_ShownError, q_TooFew_TooFew := qq_TooFew_TooFew, M_Region := ⟨mk_Region, a_Region___init, i_Region___init, kc_Region⟩, x_TooFew := ⟨⟨_, _, _, _, _, _, _, _, _, _, _, _, _, _, _, xl_TooFew, rv_TooFew⟩, sa_TooFew, ex_TooFew, ty_TooFew, kc_TooFew⟩, F_e_TooFew := fun_mk (st := s_e_TooFew) l_e_TooFew c_e_TooFew k_e_TooFew, i_TooFew := a_e_TooFew, t_TooFew := tI_TooFew, n_e_TooFew := (fun_mk (st := s_e_TooFew) l_e_TooFew c_e_TooFew k_e_TooFew).binds (ps := ["self", "count"]) fun _ _ _ _ _ _ us hl => match us, hl with | [_, _], _ => rfl }
  exact ⟨_, fun s v => .of_eq rfl, fun base _ _ => ok_law T⟩
end Law
open PySem PySem.W PyProof.Rows
local instance : G.TabL := ⟨[]⟩
set_option maxRecDepth 100000 in
set_option maxHeartbeats 0 in
theorem PySem.Challenge.cw_shownwrites_k06_region_members_holds : PySem.Challenge.rw_shownwrites_k06_region_members.Holds := by
  w_on; o_law; k_head; (case hw => w_witness2)
  k_fill
  refine L2.walk_of (n := 63) (k := 5) (x := "_law_script") (CX := fun _ => L2.CX0) (sp := fun w => G.SpL (G.w1 (G.rScr _)) G.rBool (fun x => Law.m_law x)) rfl (by decide) rfl ⟨rfl, by decide, by decide⟩ (fun w h Y => PySem.W.kIn_of Y) ?F (fun w H a ns hl _ hS => ⟨H, ns, true, ⟨L2.Same.refl _, fun _ _ m => (nomatch m), fun _ ⟨_, m⟩ => nomatch m⟩, ⟨_, rfl, a, rfl, hS⟩, Law.law_true ns hl, fun H2 B2 v P k => k⟩) fun _ _ _ _ _ z => z
  case F =>
    intro w mg fa h KX G hmg
    refine' Law.all_mk KX G hmg ?aC_Region ?aC_TooFew ?aC_BadSign ?aC_ShownError ?a_between ?l_between ?c_between ?k_between ?a_one_form ?l_one_form ?c_one_form ?k_one_form ?a_size_of ?l_size_of ?c_size_of ?k_size_of ?a_Region___init ?l_Region___init ?c_Region___init ?k_Region___init ?lT_Region___init ?le_Region___init_2 ?i_Region___init ?a_Region___contains ?l_Region___contains ?c_Region___contains ?k_Region___contains ?i_Region___contains ?a_Region__start ?l_Region__start ?c_Region__start ?k_Region__start ?i_Region__start ?a_Region_members ?l_Region_members ?c_Region_members ?k_Region_members ?kw_Region_members ?le_Region_members_0 ?i_Region_members ?a_l_start ?l_l_start ?c_l_start ?k_l_start ?a_l_draw ?l_l_draw ?c_l_draw ?k_l_draw ?a_l_end ?l_l_end ?c_l_end ?k_l_end ?a_l_base ?l_l_base ?c_l_base ?k_l_base ?a_l_parts ?l_l_parts ?c_l_parts ?k_l_parts ?a_l_is_integer ?l_l_is_integer ?c_l_is_integer ?k_l_is_integer ?a_l_in_part ?l_l_in_part ?c_l_in_part ?k_l_in_part ?a_l_window ?l_l_window ?c_l_window ?k_l_window ?a_l_free ?l_l_free ?c_l_free ?k_l_free ?a_l_asked ?l_l_asked ?c_l_asked ?k_l_asked ?a_l_base_caught ?l_l_base_caught ?c_l_base_caught ?k_l_base_caught ?a_l_good ?l_l_good ?c_l_good ?k_l_good ?a_law ?l_law ?c_law ?k_law ?z_ValueError ?z_bool ?z_int ?z_isinstance ?z_len ?z_list ?z_range ?z_set ?z_sorted ?z_tuple ?pg_Region ?hd_Region ?po_Region ?sa_Region ?na_Region_low ?na_Region_high ?na_Region_without ?na_Region_size ?na_Region_value ?na_Region__gaps ?ex_TooFew ?ic_TooFew ?ty_TooFew ?su_TooFew_TooFew ?ga_TooFew ?gg_TooFew ?hd_TooFew ?na_TooFew_count ?ca_TooFew ?cn_ ?ct_ ?cm_TooFew ?qq_TooFew_ValueError ?qq_TooFew_BadSign ?ex_ShownError ?ic_ShownError ?ty_ShownError ?su_TooFew_ShownError ?qq_TooFew_TooFew ?mk_Region ?kc_Region ?xl_TooFew ?rv_TooFew ?sa_TooFew ?kc_TooFew ?a_e_TooFew ?l_e_TooFew ?c_e_TooFew ?k_e_TooFew ?tI_TooFew
    (case aC_Region => first | k_is | rfl)
    (case aC_TooFew => first | k_is | rfl)
    (case aC_BadSign => first | k_is | rfl)
    (case aC_ShownError => first | k_is | rfl)
    (case a_between => first | k_is | rfl)
    (case l_between => first | k_is | rfl)
    (case c_between => first | k_is | rfl)
    (case k_between => first | k_is | rfl)
    (case a_one_form => first | k_is | rfl)
    (case l_one_form => first | k_is | rfl)
    (case c_one_form => first | k_is | rfl)
    (case k_one_form => first | k_is | rfl)
    (case a_size_of => first | k_is | rfl)
    (case l_size_of => first | k_is | rfl)
    (case c_size_of => first | k_is | rfl)
    (case k_size_of => first | k_is | rfl)
    (case a_Region___init => first | k_is | rfl)
    (case l_Region___init => first | k_is | rfl)
    (case c_Region___init => first | k_is | rfl)
    (case k_Region___init => first | k_is | rfl)
    (case lT_Region___init => first | k_is | rfl)
    (case le_Region___init_2 => first | k_is | rfl)
    (case i_Region___init => first | k_is | rfl)
    (case a_Region___contains => first | k_is | rfl)
    (case l_Region___contains => first | k_is | rfl)
    (case c_Region___contains => first | k_is | rfl)
    (case k_Region___contains => first | k_is | rfl)
    (case i_Region___contains => first | k_is | rfl)
    (case a_Region__start => first | k_is | rfl)
    (case l_Region__start => first | k_is | rfl)
    (case c_Region__start => first | k_is | rfl)
    (case k_Region__start => first | k_is | rfl)
    (case i_Region__start => first | k_is | rfl)
    (case a_Region_members => first | k_is | rfl)
    (case l_Region_members => first | k_is | rfl)
    (case c_Region_members => first | k_is | rfl)
    (case k_Region_members => first | k_is | rfl)
    (case kw_Region_members => first | k_is | rfl)
    (case le_Region_members_0 => first | k_is | rfl)
    (case i_Region_members => first | k_is | rfl)
    (case a_l_start => first | k_is | rfl)
    (case l_l_start => first | k_is | rfl)
    (case c_l_start => first | k_is | rfl)
    (case k_l_start => first | k_is | rfl)
    (case a_l_draw => first | k_is | rfl)
    (case l_l_draw => first | k_is | rfl)
    (case c_l_draw => first | k_is | rfl)
    (case k_l_draw => first | k_is | rfl)
    (case a_l_end => first | k_is | rfl)
    (case l_l_end => first | k_is | rfl)
    (case c_l_end => first | k_is | rfl)
    (case k_l_end => first | k_is | rfl)
    (case a_l_base => first | k_is | rfl)
    (case l_l_base => first | k_is | rfl)
    (case c_l_base => first | k_is | rfl)
    (case k_l_base => first | k_is | rfl)
    (case a_l_parts => first | k_is | rfl)
    (case l_l_parts => first | k_is | rfl)
    (case c_l_parts => first | k_is | rfl)
    (case k_l_parts => first | k_is | rfl)
    (case a_l_is_integer => first | k_is | rfl)
    (case l_l_is_integer => first | k_is | rfl)
    (case c_l_is_integer => first | k_is | rfl)
    (case k_l_is_integer => first | k_is | rfl)
    (case a_l_in_part => first | k_is | rfl)
    (case l_l_in_part => first | k_is | rfl)
    (case c_l_in_part => first | k_is | rfl)
    (case k_l_in_part => first | k_is | rfl)
    (case a_l_window => first | k_is | rfl)
    (case l_l_window => first | k_is | rfl)
    (case c_l_window => first | k_is | rfl)
    (case k_l_window => first | k_is | rfl)
    (case a_l_free => first | k_is | rfl)
    (case l_l_free => first | k_is | rfl)
    (case c_l_free => first | k_is | rfl)
    (case k_l_free => first | k_is | rfl)
    (case a_l_asked => first | k_is | rfl)
    (case l_l_asked => first | k_is | rfl)
    (case c_l_asked => first | k_is | rfl)
    (case k_l_asked => first | k_is | rfl)
    (case a_l_base_caught => first | k_is | rfl)
    (case l_l_base_caught => first | k_is | rfl)
    (case c_l_base_caught => first | k_is | rfl)
    (case k_l_base_caught => first | k_is | rfl)
    (case a_l_good => first | k_is | rfl)
    (case l_l_good => first | k_is | rfl)
    (case c_l_good => first | k_is | rfl)
    (case k_l_good => first | k_is | rfl)
    (case a_law => first | k_is | rfl)
    (case l_law => first | k_is | rfl)
    (case c_law => first | k_is | rfl)
    (case k_law => first | k_is | rfl)
    (case z_ValueError => first | k_is | rfl)
    (case z_bool => first | k_is | rfl)
    (case z_int => first | k_is | rfl)
    (case z_isinstance => first | k_is | rfl)
    (case z_len => first | k_is | rfl)
    (case z_list => first | k_is | rfl)
    (case z_range => first | k_is | rfl)
    (case z_set => first | k_is | rfl)
    (case z_sorted => first | k_is | rfl)
    (case z_tuple => first | k_is | rfl)
    (case pg_Region => first | k_is | rfl)
    (case hd_Region => first | k_is | rfl)
    (case po_Region => first | k_is | rfl)
    (case sa_Region => first | k_is | rfl)
    (case na_Region_low => first | k_is | rfl)
    (case na_Region_high => first | k_is | rfl)
    (case na_Region_without => first | k_is | rfl)
    (case na_Region_size => first | k_is | rfl)
    (case na_Region_value => first | k_is | rfl)
    (case na_Region__gaps => first | k_is | rfl)
    (case ex_TooFew => first | k_is | rfl)
    (case ic_TooFew => first | k_is | rfl)
    (case ty_TooFew => first | k_is | rfl)
    (case su_TooFew_TooFew => first | k_is | rfl)
    (case ga_TooFew => first | k_is | rfl)
    (case gg_TooFew => first | k_is | rfl)
    (case hd_TooFew => first | k_is | rfl)
    (case na_TooFew_count => first | k_is | rfl)
    (case ca_TooFew => first | k_is | rfl)
    (case cn_ => first | k_is | rfl)
    (case ct_ => first | k_is | rfl)
    (case cm_TooFew => first | k_is | rfl)
    (case qq_TooFew_ValueError => first | k_is | rfl)
    (case qq_TooFew_BadSign => first | k_is | rfl)
    (case ex_ShownError => first | k_is | rfl)
    (case ic_ShownError => first | k_is | rfl)
    (case ty_ShownError => first | k_is | rfl)
    (case su_TooFew_ShownError => first | k_is | rfl)
    (case qq_TooFew_TooFew => first | k_is | rfl)
    (case mk_Region => first | k_is | rfl)
    (case kc_Region => first | k_is | rfl)
    (case xl_TooFew => first | k_is | rfl)
    (case rv_TooFew => first | k_is | rfl)
    (case sa_TooFew => first | k_is | rfl)
    (case kc_TooFew => first | k_is | rfl)
    (case a_e_TooFew => first | k_is | rfl)
    (case l_e_TooFew => first | k_is | rfl)
    (case c_e_TooFew => first | k_is | rfl)
    (case k_e_TooFew => first | k_is | rfl)
    (case tI_TooFew => first | k_is | rfl)

