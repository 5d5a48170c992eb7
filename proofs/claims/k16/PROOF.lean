import PyProof.Rows.All
import Wide.All
import OpenK.AllK
import Wide.FinOn
import HandS.ForMost
import HandS.ForExc
import HandS.Lambda
import HandS.Wide
import HandS.Codes
import HandS.Conv
import HandS.Steps
import HandS.Evl
import HandS.ExcInit
import HandS.ExcField
import HandS.TryOnly
import HandS.Strs
import HandS.ExcOwn
import HandS.WordsExc
import HandS.IsInst
import HandS.Zip
import HandS.SlotsOwn
import HandS.SetFor
import HandS.ClsMeth
import HandS.DictComp
import HandS.Defaults
import HandS.ExcIs
import KE.KExcIs
import HandS.Text
import PyProof.LongRange
import HandS.SortKw
import KE.DatumOrd
import HandS.MakeKwOnly
import HandS.MakeKw
import PyProof.Conv_bool
import HandS.Star
import HandS.FStr
import KE.KCallOwn
import HandS.Style
import HandS.SortInts
import PyProof.InstNe
import HandS.More
import KE.GoesMore
import KE.KeyNested
import KE.KDictKeyed
import HandS.Iter
import HandS.TupSets
import KE.LtSeq
import HandS.Deep
import HandS.TupAny
import KE.KOpsOwn
import HandS.Property
import KE.SortKeyHeap
import HandS.EndTab
import KE.KNestM
import HandS.TryMany
import HandS.Records
import HandS.Flow
import HandS.CallSlots
import KE.KDictSum
import HandS.DictSubView
import HandS.OwnEq
import HandS.DictEq
import PyProof.P3Eq
import PyProof.Rows.SortShellAny
import PyProof.EqAt
import PyProof.NeKinds
import KE.Datum
import KE.GoesZip
import KE.GoesRaise
import KE.GoesEnumKw
import HandS.TupLen
import KE.GoesEnum
import PyProof.ListNew
import HandS.SortOrd
import HandS.Small
import PyProof.ExcBaseAll.ValueError
import HandS.ExcCtx
import HandS.HotCalls
import HandS.Hot
import HandS.Comp
import PySem.Challenge.RW_shownwrites_k16_store_refusals
set_option Elab.async false
set_option autoImplicit false
set_option linter.all false
set_option maxRecDepth 100000
set_option maxHeartbeats 4000000
namespace G
open PySem PySem.Spec PyProof.Rows L2
structure Rp (α : Type) where
  rel : Hp → V → α → Prop
  mono : ∀ {H H' : Hp} {v : V} {a : α}, Same H H' → rel H v a → rel H' v a
structure Cl (α : Type) where
  ok : Hp → HO → α → Prop
  mono : ∀ {H H' : Hp} {o : HO} {a : α}, Same H H' → ok H o a → ok H' o a
structure Rw (α : Type) where
  rel : Hp → List V → α → Prop
  mono : ∀ {H H' : Hp} {vs : List V} {a : α}, Same H H' → rel H vs a → rel H' vs a
def rInt : Rp Int := ⟨fun _ v i => v = .int i, fun _ h => h⟩
def rBool : Rp Bool := ⟨fun _ v b => v = .bl b, fun _ h => h⟩
def rStr : Rp Str := ⟨fun _ v z => v = .str z, fun _ h => h⟩
def rNon : Rp Unit := ⟨fun _ v _ => v = .non, fun _ h => h⟩
def rOpt {α : Type} (r : Rp α) : Rp (Option α) := ⟨fun H v o => match o with
  | none => v = .non
  | some a => r.rel H v a ∧ v ≠ .non, fun {H H' v o} s h => by
    cases o with
    | none => exact h
    | some a => exact ⟨r.mono s h.1, h.2⟩⟩
def rOb {α : Type} (c : Cl α) : Rp α := ⟨fun H v a => ∃ p o, v = .ref p ∧ H p = some o ∧ c.ok H o a, fun s ⟨p, o, e, h, k⟩ => ⟨p, o, e, s p o h, c.mono s k⟩⟩
theorem Paired.monoR {α : Type} {r : Rp α} {H H' : Hp} (s : Same H H') : ∀ {vs : List V} {xs : List α}, Paired (r.rel H) vs xs → Paired (r.rel H') vs xs
  | _, _, .nil => .nil
  | _, _, .cons h t => .cons (r.mono s h) (Paired.monoR s t)
def cLst {α : Type} (r : Rp α) : Cl (List α) := ⟨fun H o xs => ∃ vs, o = .lst vs ∧ Paired (r.rel H) vs xs, fun s ⟨vs, e, h⟩ => ⟨vs, e, Paired.monoR s h⟩⟩
def cTpl {α : Type} (r : Rp α) : Cl (List α) := ⟨fun H o xs => ∃ vs, o = .tup vs ∧ Paired (r.rel H) vs xs, fun s ⟨vs, e, h⟩ => ⟨vs, e, Paired.monoR s h⟩⟩
def cTup {α : Type} (w : Rw α) : Cl α := ⟨fun H o a => ∃ vs, o = .tup vs ∧ w.rel H vs a, fun s ⟨vs, e, h⟩ => ⟨vs, e, w.mono s h⟩⟩
def cHls {α : Type} (w : Rw α) : Cl α := ⟨fun H o a => ∃ vs, o = .lst vs ∧ w.rel H vs a, fun s ⟨vs, e, h⟩ => ⟨vs, e, w.mono s h⟩⟩
def rLst {α : Type} (r : Rp α) : Rp (List α) := rOb (cLst r)
def rTpl {α : Type} (r : Rp α) : Rp (List α) := rOb (cTpl r)
def rTup {α : Type} (w : Rw α) : Rp α := rOb (cTup w)
def rHls {α : Type} (w : Rw α) : Rp α := rOb (cHls w)
def w0 : Rw Unit := ⟨fun _ vs _ => vs = [], fun _ h => h⟩
def w1 {α : Type} (r : Rp α) : Rw α := ⟨fun H vs a => ∃ v, vs = [v] ∧ r.rel H v a, fun s ⟨v, e, h⟩ => ⟨v, e, r.mono s h⟩⟩
def wC {α β : Type} (r : Rp α) (w : Rw β) : Rw (α × β) := ⟨fun H vs a => ∃ v t, vs = v :: t ∧ r.rel H v a.1 ∧ w.rel H t a.2, fun s ⟨v, t, e, h, k⟩ => ⟨v, t, e, r.mono s h, w.mono s k⟩⟩
structure Tr (α : Type) where
  ok : Hp → Hp → (Addr → Prop) → V → α → Prop
  mono : ∀ {B B' H H' : Hp} {o o' : Addr → Prop} {v : V} {a : α}, Same B B' → (∀ p u, o p → H p = some u → H' p = some u) → (∀ p, o p → o' p) → ok B H o v a → ok B' H' o' v a
inductive Sl : Type 1 where
  | no
  | imm {α : Type} (r : Rp α) (a : α)
  | cel {α : Type} (p : Addr) (c : Cl α) (a : α)
  | tre {α : Type} (v : V) (c : Tr α) (a : α)
structure Amb where
  B0 : Hp
  H0 : Hp
  m : Addr → Prop
  φ : Hp → Prop
  up : ∀ B B', Same B B' → φ B → φ B'
def Amb.add (A : Amb) (p : Addr) (o : HO) : Amb := ⟨A.B0, upd A.H0 p o, A.m, A.φ, A.up⟩
class TabL where
  T : List (Addr × Str)
section
variable [TabL]
def isTab (p : Addr) : Prop := ∃ q, (p, q) ∈ TabL.T
structure TabOk (H B : Hp) : Prop where
  at_ : ∀ p q, (p, q) ∈ TabL.T → ∃ ps : Array Value, H p = some (.tbl ps) ∧ TriplesOk ps.toList ∧ ∀ (pos : Pos) (cv : Value), codeAmong pos ps.toList = some cv → ∃ c, cv = .ref c ∧ B c = some (LamX.CodeO c q)
  no : ∀ p, isTab p → B p = none
theorem TabOk.ne {H B : Hp} {p : Addr} (t : TabOk H B) (h : H p = none) : ¬ isTab p := fun ⟨q, m⟩ => by
  obtain ⟨ps, e, _⟩ := t.at_ p q m
  rw [h] at e; cases e
theorem TabOk.nt {H B : Hp} {p : Addr} {o : HO} (t : TabOk H B) (h : H p = some o) (ho : ∀ ps, o ≠ .tbl ps) : ¬ isTab p := fun ⟨q, m⟩ => by
  obtain ⟨ps, e, _⟩ := t.at_ p q m
  rw [h] at e; exact ho _ (Option.some.inj e)
theorem TabOk.nb {H B : Hp} {p : Addr} {o : HO} (t : TabOk H B) (h : B p = some o) : ¬ isTab p := fun m => by
  rw [t.no p m] at h; cases h
theorem TabOk.to {H H' B B' : Hp} (t : TabOk H B) (h : ∀ p, isTab p → H' p = H p) (b : Same B B') (n : ∀ p, isTab p → B' p = none) : TabOk H' B' := ⟨fun p q m => by
  obtain ⟨ps, e, k, z⟩ := t.at_ p q m
  exact ⟨ps, by rw [h p ⟨q, m⟩]; exact e, k, fun pos cv hc => by
    obtain ⟨c, e1, e2⟩ := z pos cv hc
    exact ⟨c, e1, b c _ e2⟩⟩, n⟩
theorem TabOk.fix {H B : Hp} {p : Addr} {o : HO} (t : TabOk H B) (bb : Same B (L2.upd B p o)) (h : ¬ isTab p) : TabOk H (L2.upd B p o) := t.to (fun _ _ => rfl) bb fun q m => by rw [upd_ne (show q ≠ p from fun z => h (by rw [← z]; exact m))]; exact t.no q m
theorem TabOk.upd {H B : Hp} {p : Addr} {o : HO} (t : TabOk H B) (h : ¬ isTab p) : TabOk (upd H p o) B := t.to (fun q m => by rw [upd_ne (show q ≠ p from fun z => h (by rw [← z]; exact m))]) (fun _ _ e => e) t.no
end
def szO : HO → Prop
  | .lst xs => xs.length ≤ sizeLine
  | .tup xs => xs.length ≤ sizeLine
  | .dK kvs => kvs.length ≤ sizeLine
  | .dT kvs => kvs.length ≤ sizeLine
  | _ => True
def Sz (H : Hp) : Prop := ∀ p o, H p = some o → szO o
theorem Sz.upd {H : Hp} {p : Addr} {o : HO} (h : Sz H) (ho : szO o) : Sz (upd H p o) := fun q u e => by
  by_cases hq : q = p
  · subst hq; rw [upd_same] at e; cases e; exact ho
  · rw [upd_ne hq] at e; exact h q u e
def SlO (σ : L2.St) (H B : Hp) (o : Addr → Prop) (i : Nat) : Sl → Prop
  | .no => True
  | .imm r a => ∃ v, σ[i]? = some (some v) ∧ r.rel B v a
  | .cel p c a => σ[i]? = some (some (V.ref p)) ∧ o p ∧ ∃ u, H p = some u ∧ c.ok B u a
  | .tre v c a => σ[i]? = some (some v) ∧ c.ok B H o v a
def Hot (A : Amb) (H B : Hp) (p : Addr) : Prop := B p = none ∧ H p ≠ none ∧ (A.H0 p = none ∨ A.m p)
def SlOk (A : Amb) (σ : L2.St) (H B : Hp) (i : Nat) : Sl → Prop
  | .no => True
  | .imm r a => ∃ v, σ[i]? = some (some v) ∧ r.rel B v a
  | .cel p c a => σ[i]? = some (some (V.ref p)) ∧ B p = none ∧ (A.H0 p = none ∨ A.m p) ∧ ∃ o, H p = some o ∧ c.ok B o a
  | .tre v c a => σ[i]? = some (some v) ∧ ∃ o : Addr → Prop, (∀ p, o p → Hot A H B p) ∧ c.ok B H o v a
def celAt : Sl → Option Addr
  | .cel p _ _ => some p
  | _ => none
def plain : Sl → Prop
  | .no => True
  | .imm _ _ => True
  | _ => False
structure MH [TabL] (A : Amb) : Prop where
  al : ∀ p, A.m p → A.H0 p ≠ none
  nt : ∀ p, A.m p → ¬ isTab p
  tb : ∀ p, isTab p → A.H0 p ≠ none
structure Post [TabL] (A : Amb) (H B : Hp) : Prop where
  bh : Same B H
  b0 : Same A.B0 B
  keep : ∀ p o, ¬ A.m p → ¬ isTab p → A.H0 p = some o → H p = some o
  out : ∀ p, A.H0 p ≠ none → A.B0 p = none → B p = none
  alive : ∀ p, A.H0 p ≠ none → H p ≠ none
  sub : Same A.B0 A.H0
  mh : MH A
  ph : A.φ B
  sz : Sz H
  tb : TabOk H B
structure Own (A : Amb) (σ : L2.St) (H B : Hp) (Γ : List Sl) (ow : Nat → Addr → Prop) : Prop where
  so : ∀ (i : Nat) (s : Sl), Γ[i]? = some s → SlO σ H B (ow i) i s
  dj : ∀ (i j : Nat) (p : Addr), ow i p → ow j p → i = j
  ht : ∀ (i : Nat) (p : Addr), ow i p → Hot A H B p
structure Frm [TabL] (A : Amb) (σ : L2.St) (H B : Hp) (Γ : List Sl) : Prop extends Post A H B where
  len : σ.length = Γ.length
  own : ∃ ow, Own A σ H B Γ ow
theorem slo_mono {σ σ' : L2.St} {H H' B B' : Hp} {o o' : Addr → Prop} {i : Nat} {s : Sl} (h : SlO σ H B o i s) (e : σ[i]? = σ'[i]?) (b : Same B B') (k : ∀ p u, o p → H p = some u → H' p = some u) (n : ∀ p, o p → o' p) : SlO σ' H' B' o' i s := by
  cases s with
  | no => trivial
  | imm r a => obtain ⟨v, e1, q⟩ := h; exact ⟨v, by rw [← e]; exact e1, r.mono b q⟩
  | cel p c a => obtain ⟨e1, op, u, hu, q⟩ := h; exact ⟨by rw [← e]; exact e1, n p op, u, k p u op hu, c.mono b q⟩
  | tre v c a => obtain ⟨e1, q⟩ := h; exact ⟨by rw [← e]; exact e1, c.mono b k n q⟩
theorem getset {α : Type _} {l : List α} {i j : Nat} {x y : α} (h : (l.set i x)[j]? = some y) : (i = j ∧ y = x ∧ j < l.length) ∨ (i ≠ j ∧ l[j]? = some y) := by
  by_cases e : i = j
  · subst e
    rw [List.getElem?_set] at h
    simp only [if_true] at h
    split at h
    · rename_i hl; cases h; exact .inl ⟨rfl, rfl, hl⟩
    · cases h
  · rw [List.getElem?_set_ne e] at h; exact .inr ⟨e, h⟩
section
variable [TabL]
variable {A A' : Amb} {σ σ' : L2.St} {H H' B B' : Hp} {Γ : List Sl} {p : Addr} {o : HO}
theorem Hot.nt {H B : Hp} (h : Hot A H B p) (m : MH A) : ¬ isTab p := fun z => by
  rcases h.2.2 with q | q
  · exact m.tb p z q
  · exact m.nt p q z
theorem Frm.post (F : Frm A σ H B Γ) : Post A H B := F.toPost
theorem Frm.sl (F : Frm A σ H B Γ) (i : Nat) (s : Sl) (e : Γ[i]? = some s) : SlOk A σ H B i s := by
  obtain ⟨ow, W⟩ := F.own
  have h := W.so i s e
  cases s with
  | no => trivial
  | imm r a => exact h
  | cel p c a => obtain ⟨e1, op, k⟩ := h; exact ⟨e1, (W.ht i p op).1, (W.ht i p op).2.2, k⟩
  | tre v c a => exact ⟨h.1, ow i, fun p q => W.ht i p q, h.2⟩
theorem Frm.hot (F : Frm A σ H B Γ) {i : Nat} {s : Sl} (e : Γ[i]? = some s) {p : Addr} (hp : celAt s = some p) : B p = none ∧ H p ≠ none ∧ (A.H0 p = none ∨ A.m p) := by
  have h := F.sl i s e
  cases s with
  | no => cases hp
  | imm r a => cases hp
  | tre v c a => cases hp
  | cel q c a =>
    cases hp
    obtain ⟨_, n, m, o, ho, _⟩ := h
    exact ⟨n, by rw [ho]; simp, m⟩
theorem Own.cel {ow : Nat → Addr → Prop} (W : Own A σ H B Γ ow) {i : Nat} (e : (Γ[i]?.bind celAt) = some p) : ow i p := by
  cases q : Γ[i]? with
  | none => rw [q] at e; cases e
  | some s =>
    rw [q] at e
    have h := W.so i s q
    cases s with
    | no => cases e
    | imm r a => cases e
    | tre v c a => cases e
    | cel q c a => cases e; exact h.2.1
theorem Frm.ds (F : Frm A σ H B Γ) (i j : Nat) (p : Addr) (ei : (Γ[i]?.bind celAt) = some p) (ej : (Γ[j]?.bind celAt) = some p) : i = j := by
  obtain ⟨ow, W⟩ := F.own
  exact W.dj i j p (W.cel ei) (W.cel ej)
theorem Frm.move (F : Frm A σ H B Γ) (P : Post A' H' B') (bb : Same B B') (k : ∀ p, Hot A H B p → B' p = none ∧ (A'.H0 p = none ∨ A'.m p) ∧ ∀ u, H p = some u → H' p = some u) : Frm A' σ H' B' Γ := by
  obtain ⟨ow, W⟩ := F.own
  refine ⟨P, F.len, ow, fun i s e => slo_mono (W.so i s e) rfl bb (fun q u oq => (k q (W.ht i q oq)).2.2 u) fun _ z => z, W.dj, fun i q oq => ?_⟩
  have h := W.ht i q oq
  have g := k q h
  refine ⟨g.1, fun z => ?_, g.2.1⟩
  cases e : H q with
  | none => exact h.2.1 e
  | some u => rw [g.2.2 u e] at z; cases z
theorem Frm.put {i : Nat} {s' : Sl} (F : Frm A σ H B Γ) (hl : σ'.length = σ.length) (e : ∀ j, i ≠ j → σ[j]? = σ'[j]?) (h : ∀ o, i < Γ.length → (∀ s, Γ[i]? = some s → SlO σ H B o i s) → SlO σ' H B o i s') : Frm A σ' H B (Γ.set i s') := by
  obtain ⟨ow, W⟩ := F.own
  refine ⟨F.post, by rw [List.length_set, hl]; exact F.len, ow, fun j s ej => ?_, W.dj, W.ht⟩
  rcases getset ej with ⟨rfl, rfl, hl⟩ | ⟨ne, ej⟩
  · exact h (ow i) hl fun s es => W.so i s es
  · exact slo_mono (W.so j s ej) (e j ne) (Same.refl _) (fun _ _ _ z => z) fun _ z => z
theorem Frm.chg {i : Nat} {s s' : Sl} (F : Frm A σ H B Γ) (e : Γ[i]? = some s) (P : Post A H' B') (bb : Same B B')
    (k : ∀ o : Addr → Prop, (∀ p, o p → Hot A H B p) → SlO σ H B o i s → ∃ o' : Addr → Prop, (∀ q, o' q → o q ∨ ¬ Hot A H B q) ∧ (∀ q, o' q → Hot A H' B' q) ∧ (∀ q, Hot A H B q → ¬ o q → B' q = none ∧ ∀ u, H q = some u → H' q = some u) ∧ SlO σ H' B' o' i s') : Frm A σ H' B' (Γ.set i s') := by
  obtain ⟨ow, W⟩ := F.own
  obtain ⟨o', k1, k2, k3, k4⟩ := k (ow i) (fun q => W.ht i q) (W.so i s e)
  have nq : ∀ j q, i ≠ j → ow j q → ¬ ow i q := fun j q ne h z => ne (W.dj i j q z h)
  refine ⟨P, by rw [List.length_set]; exact F.len, fun j => if j = i then o' else ow j, fun j s ej => ?_, fun j l q hj hl => ?_, fun j q hj => ?_⟩
  · rcases getset ej with ⟨rfl, rfl, _⟩ | ⟨ne, ej⟩
    · rw [if_pos rfl]; exact k4
    · rw [if_neg (Ne.symm ne)]
      exact slo_mono (W.so j s ej) rfl bb (fun q u oq => (k3 q (W.ht j q oq) (nq j q ne oq)).2 u) fun _ z => z
  · by_cases h1 : j = i
    · by_cases h2 : l = i
      · rw [h1, h2]
      · rw [if_pos h1] at hj; rw [if_neg h2] at hl
        rcases k1 q hj with h | h
        · exact absurd h (nq l q (Ne.symm h2) hl)
        · exact absurd (W.ht l q hl) h
    · by_cases h2 : l = i
      · rw [if_neg h1] at hj; rw [if_pos h2] at hl
        rcases k1 q hl with h | h
        · exact absurd h (nq j q (Ne.symm h1) hj)
        · exact absurd (W.ht j q hj) h
      · rw [if_neg h1] at hj; rw [if_neg h2] at hl; exact W.dj j l q hj hl
  · by_cases h1 : j = i
    · rw [if_pos h1] at hj; exact k2 q hj
    · rw [if_neg h1] at hj
      have h := W.ht j q hj
      have g := k3 q h (nq j q (Ne.symm h1) hj)
      refine ⟨g.1, fun z => ?_, h.2.2⟩
      cases e : H q with
      | none => exact h.2.1 e
      | some u => rw [g.2 u e] at z; cases z
theorem Frm.fresh (F : Frm A σ H B Γ) (hp : H p = none) (ho : szO o) : Frm (A.add p o) σ (upd H p o) B Γ := by
  refine F.move ?_ (Same.refl _) fun q h => ?_
  · refine ⟨fun b u e => ?_, F.b0, fun b u m nt e => ?_, fun b n z => ?_, fun b n => ?_, fun b u e => ?_, ⟨fun b m => ?_, F.mh.nt, fun b m => ?_⟩, F.ph, F.sz.upd ho, F.tb.upd (F.tb.ne hp)⟩
    · rw [upd_ne (ne_of_none (F.bh b u e) hp)]; exact F.bh b u e
    · by_cases hb : b = p
      · subst hb
        have e' : upd A.H0 b o b = some u := e
        rw [upd_same] at e'; rw [upd_same]; exact e'
      · have e' : upd A.H0 p o b = some u := e
        rw [upd_ne hb] at e'; rw [upd_ne hb]; exact F.keep b u m nt e'
    · by_cases hb : b = p
      · subst hb
        cases q : B b with
        | none => rfl
        | some u => have := F.bh b u q; rw [hp] at this; cases this
      · have n' : upd A.H0 p o b ≠ none := n
        rw [upd_ne hb] at n'
        exact F.out b n' z
    · by_cases hb : b = p
      · subst hb; rw [upd_same]; simp
      · have n' : upd A.H0 p o b ≠ none := n
        rw [upd_ne hb] at n'; rw [upd_ne hb]; exact F.alive b n'
    · have z := F.sub b u e
      have hb : b ≠ p := fun q => by
        subst q
        exact F.alive b (by rw [z]; simp) hp
      show upd A.H0 p o b = some u
      rw [upd_ne hb]; exact z
    · by_cases hb : b = p
      · subst hb; show upd A.H0 b o b ≠ none; rw [upd_same]; simp
      · show upd A.H0 p o b ≠ none; rw [upd_ne hb]; exact F.mh.al b m
    · by_cases hb : b = p
      · subst hb; show upd A.H0 b o b ≠ none; rw [upd_same]; simp
      · show upd A.H0 p o b ≠ none; rw [upd_ne hb]; exact F.mh.tb b m
  · have hq : q ≠ p := fun z => h.2.1 (by rw [z]; exact hp)
    refine ⟨h.1, ?_, fun u e => by rw [upd_ne hq]; exact e⟩
    rcases h.2.2 with m | m
    · exact .inl (by show upd A.H0 p o q = none; rw [upd_ne hq]; exact m)
    · exact .inr m
theorem Frm.H0none (F : Frm A σ H B Γ) (hp : H p = none) : A.H0 p = none := by
  cases q : A.H0 p with
  | none => rfl
  | some u => exact absurd hp (F.alive p (by rw [q]; simp))
theorem Frm.hid (F : Frm (A.add p o) σ H B Γ) (h0 : A.H0 p = none) (mh : MH A) : H p = some o := F.keep p o (fun m => mh.al p m h0) (fun m => mh.tb p m h0) upd_same
theorem Hot.ne {q : Addr} (h : Hot (A.add p o) H B q) (hm : ¬ A.m p) : q ≠ p := fun z => by
  rcases h.2.2 with m | m
  · have m' : upd A.H0 p o q = none := m
    rw [z, upd_same] at m'; cases m'
  · rw [z] at m; exact hm m
theorem Hot.base {q : Addr} (h : Hot (A.add p o) H B q) (h0 : A.H0 p = none) : A.H0 q = none ∨ A.m q := by
  rcases h.2.2 with m | m
  · by_cases hq : q = p
    · exact .inl (by rw [hq]; exact h0)
    · have m' : upd A.H0 p o q = none := m
      rw [upd_ne hq] at m'
      exact .inl m'
  · exact .inr m
theorem Frm.drop (F : Frm (A.add p o) σ H B Γ) (h0 : A.H0 p = none) (sub : Same A.B0 A.H0) (mh : MH A) : Frm A σ H B Γ := by
  refine F.move ?_ (Same.refl _) fun q h => ⟨h.1, h.base h0, fun _ e => e⟩
  exact ⟨F.bh, F.b0, fun b u m nt e => F.keep b u m nt (by show upd A.H0 p o b = some u; rw [upd_ne (ne_of_none e h0)]; exact e), fun b n z => F.out b (by
    have hb : b ≠ p := fun q => n (by rw [q]; exact h0)
    show upd A.H0 p o b ≠ none; rw [upd_ne hb]; exact n) z, fun b n => F.alive b (by
    have hb : b ≠ p := fun q => n (by rw [q]; exact h0)
    show upd A.H0 p o b ≠ none; rw [upd_ne hb]; exact n), sub, mh, F.ph, F.sz, F.tb⟩
theorem Frm.hidB (F : Frm (A.add p o) σ H B Γ) (h0 : A.H0 p = none) (sub : Same A.B0 A.H0) : B p = none := F.out p (by show upd A.H0 p o p ≠ none; rw [upd_same]; simp) (by
    cases q : A.B0 p with
    | none => exact q
    | some u => exact (absurd (sub p u q) (by rw [h0]; simp)))
theorem Frm.adopt (F : Frm (A.add p o) σ H B Γ) (h0 : A.H0 p = none) (sub : Same A.B0 A.H0) (mh : MH A) : Frm A σ H (upd B p o) Γ := by
  have hm : ¬ A.m p := fun m => mh.al p m h0
  have hHp := F.hid h0 mh
  have hBp : B p = none := F.hidB h0 sub
  have D := (F.drop h0 sub mh).post
  have bb : Same B (upd B p o) := fun b u e => by rw [upd_ne (ne_of_none e hBp)]; exact e
  refine F.move ?_ bb fun q h => ⟨by rw [upd_ne (h.ne hm)]; exact h.1, h.base h0, fun _ e => e⟩
  refine ⟨fun b u e => ?_, fun b u e => bb b u (D.b0 b u e), D.keep, fun b n z => ?_, D.alive, sub, mh, A.up _ _ bb D.ph, D.sz, D.tb.to (fun _ _ => rfl) bb fun q m => by rw [upd_ne (show q ≠ p from fun z => mh.tb q m (by rw [z]; exact h0))]; exact D.tb.no q m⟩
  · by_cases hb : b = p
    · subst hb; rw [upd_same] at e; cases e; exact hHp
    · rw [upd_ne hb] at e; exact D.bh b u e
  · have hb : b ≠ p := fun q => n (by rw [q]; exact h0)
    rw [upd_ne hb]; exact D.out b n z
theorem Frm.set {α : Type} {r : Rp α} {a : α} {v : V} {i : Nat} (F : Frm A σ H B Γ) (h : r.rel B v a) : Frm A (σ.set i (some v)) H B (Γ.set i (.imm r a)) :=
  F.put (List.length_set) (fun j ne => by rw [List.getElem?_set_ne ne]) fun o hl _ => ⟨v, by rw [List.getElem?_set_self (by rw [F.len]; exact hl)], h⟩
theorem Frm.owns {i : Nat} {s : Sl} {v : V} (F : Frm A σ H B Γ) (n : Addr → Prop) (P : Post A' H B) (hn : ∀ q, n q → Hot A' H B q ∧ ¬ Hot A H B q) (hh : ∀ q, Hot A H B q → A'.H0 q = none ∨ A'.m q) (k : i < Γ.length → SlO (σ.set i (some v)) H B n i s) : Frm A' (σ.set i (some v)) H B (Γ.set i s) := by
  obtain ⟨ow, W⟩ := F.own
  refine ⟨P, by rw [List.length_set, List.length_set]; exact F.len, fun j => if j = i then n else ow j, fun j s ej => ?_, fun j l q hj hl => ?_, fun j q hj => ?_⟩
  · rcases getset ej with ⟨rfl, rfl, hl⟩ | ⟨ne, ej⟩
    · rw [if_pos rfl]; exact k hl
    · rw [if_neg (Ne.symm ne)]
      exact slo_mono (W.so j s ej) (by rw [List.getElem?_set_ne ne]) (Same.refl _) (fun _ _ _ z => z) fun _ z => z
  · by_cases h1 : j = i
    · by_cases h2 : l = i
      · rw [h1, h2]
      · rw [if_pos h1] at hj; rw [if_neg h2] at hl
        exact absurd (W.ht l q hl) (hn q hj).2
    · by_cases h2 : l = i
      · rw [if_neg h1] at hj; rw [if_pos h2] at hl
        exact absurd (W.ht j q hj) (hn q hl).2
      · rw [if_neg h1] at hj; rw [if_neg h2] at hl; exact W.dj j l q hj hl
  · by_cases h1 : j = i
    · rw [if_pos h1] at hj; exact (hn q hj).1
    · rw [if_neg h1] at hj
      have h := W.ht j q hj
      exact ⟨h.1, h.2.1, hh q h⟩
theorem Frm.own1 {α : Type} {c : Cl α} {a : α} {i : Nat} (F : Frm (A.add p o) σ H B Γ) (h0 : A.H0 p = none) (sub : Same A.B0 A.H0) (mh : MH A) (k : c.ok B o a) : Frm A (σ.set i (some (.ref p))) H B (Γ.set i (.cel p c a)) := by
  have hm : ¬ A.m p := fun m => mh.al p m h0
  have hHp := F.hid h0 mh
  have hBp : B p = none := F.hidB h0 sub
  refine F.owns (fun q => q = p) (F.drop h0 sub mh).post (fun q e => ?_) (fun q h => h.base h0) fun hl => ⟨by rw [List.getElem?_set_self (by rw [F.len]; exact hl)], rfl, o, hHp, k⟩
  subst e
  exact ⟨⟨hBp, by rw [hHp]; simp, .inl h0⟩, fun h => h.ne hm rfl⟩
theorem Frm.forget (F : Frm A σ H B Γ) (i : Nat) : Frm A σ H B (Γ.set i .no) := F.put rfl (fun _ _ => rfl) fun _ _ _ => trivial
theorem Frm.write {α β : Type} {c : Cl α} {c' : Cl β} {a : α} {a' : β} {i : Nat} {o' : HO} (F : Frm A σ H B Γ) (e : Γ[i]? = some (.cel p c a)) (k : c'.ok B o' a') (ho : szO o') : Frm A σ (upd H p o') B (Γ.set i (.cel p c' a')) := by
  obtain ⟨e1, n, m, _⟩ := F.sl i _ e
  refine F.chg e ⟨fun b u q => ?_, F.b0, fun b u nm nt q => ?_, F.out, fun b n => ?_, F.sub, F.mh, F.ph, F.sz.upd ho, F.tb.upd (Hot.nt (F.hot e rfl) F.mh)⟩ (Same.refl _) fun ow hh so => ⟨ow, fun q z => .inl z, fun q z => ?_, fun q h nq => ⟨h.1, fun u hu => ?_⟩, e1, so.2.1, o', upd_same, k⟩
  · have hb : b ≠ p := fun z => by rw [z, n] at q; cases q
    rw [upd_ne hb]; exact F.bh b u q
  · have hb : b ≠ p := fun z => by
      rcases m with m | m
      · rw [z, m] at q; cases q
      · rw [z] at nm; exact nm m
    rw [upd_ne hb]; exact F.keep b u nm nt q
  · by_cases hb : b = p
    · rw [hb, upd_same]; simp
    · rw [upd_ne hb]; exact F.alive b n
  · have h := hh q z
    refine ⟨h.1, ?_, h.2.2⟩
    by_cases hb : q = p
    · rw [hb, upd_same]; simp
    · rw [upd_ne hb]; exact h.2.1
  · have hq : q ≠ p := fun z => nq (by rw [z]; exact so.2.1)
    rw [upd_ne hq]; exact hu
end
structure SzT [TabL] (H B : Hp) : Prop where
  sz : Sz H
  tb : TabOk H B
theorem Post.szt [TabL] {A : Amb} {H B : Hp} (F : Post A H B) : SzT H B := ⟨F.sz, F.tb⟩
theorem Frm.szt [TabL] {A : Amb} {σ : L2.St} {H B : Hp} {Γ : List Sl} (F : Frm A σ H B Γ) : SzT H B := ⟨F.sz, F.tb⟩
end G
set_option maxHeartbeats 4000000
namespace G
variable [TabL]
open PySem PySem.Spec PyProof.Rows L2
def EvX {α : Type} (r : Rp α) (t : TE) (Γ Γ' : List Sl) (a : α) : Prop := ∀ (A : Amb) (σ : L2.St) (H B : Hp), Frm A σ H B Γ → ∀ Q : VK, (∀ v H' B', Frm A σ H' B' Γ' → Same B B' → r.rel B' v a → Q v H') → t σ H Q
def EvT (t : TT) (Γ Γ' : List Sl) (b : Bool) : Prop := ∀ (A : Amb) (σ : L2.St) (H B : Hp), Frm A σ H B Γ → ∀ Q : Bool → Hp → Prop, (∀ H' B', Frm A σ H' B' Γ' → Same B B' → Q b H') → t σ H Q
def EvW {α : Type} (w : Rw α) (t : TA) (Γ Γ' : List Sl) (a : α) : Prop := ∀ (A : Amb) (σ : L2.St) (H B : Hp), Frm A σ H B Γ → ∀ Q : List V → Hp → Prop, (∀ vs H' B', Frm A σ H' B' Γ' → Same B B' → w.rel B' vs a → Q vs H') → t σ H Q
def EvH {α : Type} (r : Rp α) (t : TA) (Γ Γ' : List Sl) (xs : List α) : Prop := ∀ (A : Amb) (σ : L2.St) (H B : Hp), Frm A σ H B Γ → ∀ Q : List V → Hp → Prop, (∀ vs H' B', Frm A σ H' B' Γ' → Same B B' → Paired (r.rel B') vs xs → Q vs H') → t σ H Q
def EvC {α : Type} (c : Cl α) (t : TE) (Γ Γ' : List Sl) (a : α) : Prop := ∀ (A : Amb) (σ : L2.St) (H B : Hp), Frm A σ H B Γ → ∀ Q : VK, (∀ p o H' B', Frm (A.add p o) σ H' B' Γ' → A.H0 p = none → Same B B' → c.ok B' o a → Q (.ref p) H') → t σ H Q
section
variable {α β γ : Type} {r ra : Rp α} {rb : Rp β} {rc : Rp γ} {c : Cl α} {w : Rw α} {ta tb te : TE} {tt tu : TT} {Γ Γ1 Γ2 Γ3 : List Sl} {x a : α} {y b : β} {z : γ} {K : PySem.W.Frag}
theorem Paired.imp2 {α β : Type} {F G : α → β → Prop} (h : ∀ a b, F a b → G a b) : ∀ {l₁ : List α} {l₂ : List β}, Paired F l₁ l₂ → Paired G l₁ l₂
  | _, _, .nil => .nil
  | _, _, .cons q t => .cons (h _ _ q) (Paired.imp2 h t)
theorem Paired.len {α β : Type} {F : α → β → Prop} : ∀ {l₁ : List α} {l₂ : List β}, Paired F l₁ l₂ → l₁.length = l₂.length
  | _, _, .nil => rfl
  | _, _, .cons _ t => by rw [List.length_cons, List.length_cons, Paired.len t]
theorem Paired.getR {α β : Type} {F : α → β → Prop} : ∀ {l₁ : List α} {l₂ : List β} {i : Nat} {y : β}, Paired F l₁ l₂ → l₂[i]? = some y → ∃ x, l₁[i]? = some x ∧ F x y
  | _, _, _, _, .nil, e => by simp at e
  | _, _, 0, _, .cons q _, e => by simp at e; subst e; exact ⟨_, rfl, q⟩
  | _, _, i + 1, _, .cons _ t, e => by simpa using Paired.getR (i := i) t (by simpa using e)
theorem Paired.getL {α β : Type} {F : α → β → Prop} : ∀ {l₁ : List α} {l₂ : List β} {i : Nat} {x : α}, Paired F l₁ l₂ → l₁[i]? = some x → ∃ y, l₂[i]? = some y ∧ F x y
  | _, _, _, _, .nil, e => by simp at e
  | _, _, 0, _, .cons q _, e => by simp at e; subst e; exact ⟨_, rfl, q⟩
  | _, _, i + 1, _, .cons _ t, e => by simpa using Paired.getL (i := i) t (by simpa using e)
theorem Paired.app {α β : Type} {F : α → β → Prop} : ∀ {l₁ k₁ : List α} {l₂ k₂ : List β}, Paired F l₁ l₂ → Paired F k₁ k₂ → Paired F (l₁ ++ k₁) (l₂ ++ k₂)
  | _, _, _, _, .nil, h => h
  | _, _, _, _, .cons q t, h => .cons q (Paired.app t h)
theorem Paired.dropN {α β : Type} {F : α → β → Prop} : ∀ {l₁ : List α} {l₂ : List β} (n : Nat), Paired F l₁ l₂ → Paired F (l₁.drop n) (l₂.drop n)
  | _, _, 0, h => h
  | _, _, _ + 1, .nil => .nil
  | _, _, n + 1, .cons _ t => Paired.dropN n t
theorem Paired.takeN {α β : Type} {F : α → β → Prop} : ∀ {l₁ : List α} {l₂ : List β} (n : Nat), Paired F l₁ l₂ → Paired F (l₁.take n) (l₂.take n)
  | _, _, 0, _ => .nil
  | _, _, _ + 1, .nil => .nil
  | _, _, n + 1, .cons q t => .cons q (Paired.takeN n t)
theorem Paired.revR {α β : Type} {F : α → β → Prop} : ∀ {l₁ : List α} {l₂ : List β}, Paired F l₁ l₂ → Paired F l₁.reverse l₂.reverse
  | _, _, .nil => .nil
  | _, _, .cons q t => by rw [List.reverse_cons, List.reverse_cons]; exact Paired.app (Paired.revR t) (.cons q .nil)
theorem Paired.mapEq {α β : Type} {F : α → β → Prop} {f : β → α} (h : ∀ a b, F a b → a = f b) : ∀ {l₁ : List α} {l₂ : List β}, Paired F l₁ l₂ → l₁ = l₂.map f
  | _, _, .nil => rfl
  | _, _, .cons q t => by rw [List.map_cons, h _ _ q, Paired.mapEq h t]
theorem Paired.ofMap {α β : Type} {F : α → β → Prop} {f : β → α} (h : ∀ b, F (f b) b) : ∀ (l : List β), Paired F (l.map f) l
  | [] => .nil
  | b :: l => .cons (h b) (Paired.ofMap h l)
theorem ev_var {i : Nat} (h : Γ[i]? = some (.imm r a)) : EvX r (tVar i) Γ Γ a := fun A σ H B F Q q => by
  obtain ⟨v, e, k⟩ := F.sl i _ h
  exact ⟨v, e, q v H B F (Same.refl _) k⟩
theorem ev_int {i : Int} : EvX rInt (tC (.int i)) Γ Γ i := fun A σ H B F Q q => q _ H B F (Same.refl _) rfl
theorem ev_bl {b : Bool} : EvX rBool (tC (.bl b)) Γ Γ b := fun A σ H B F Q q => q _ H B F (Same.refl _) rfl
theorem ev_str {s : Str} : EvX rStr (tC (.str s)) Γ Γ s := fun A σ H B F Q q => q _ H B F (Same.refl _) rfl
theorem ev_none : EvX (rOpt r) (tC .non) Γ Γ none := fun A σ H B F Q q => q _ H B F (Same.refl _) rfl
def NN {α : Type} (r : Rp α) : Prop := ∀ H v a, r.rel H v a → v ≠ .non
theorem nn_bool : NN rBool := fun _ _ _ h e => by rw [e] at h; cases h
theorem nn_ob : NN (rOb c) := fun _ _ _ ⟨p, o, e, _⟩ e' => by rw [e'] at e; cases e
theorem ev_some (n : NN r) (h : EvX r te Γ Γ1 a) : EvX (rOpt r) te Γ Γ1 (some a) := fun A σ H B F Q q => h A σ H B F Q fun v H' B' F' s k => q v H' B' F' s ⟨k, n _ _ _ k⟩
theorem ev_get {o : Option α} (h : EvX (rOpt r) te Γ Γ1 o) (e : o = some a) : EvX r te Γ Γ1 a := fun A σ H B F Q q => h A σ H B F Q fun v H' B' F' s k => q v H' B' F' s (by rw [e] at k; exact k.1)
theorem ev_to {a' : α} (h : EvX r te Γ Γ1 a) (e : a = a') : EvX r te Γ Γ1 a' := e ▸ h
theorem ev_isN {o : Option α} (h : EvX (rOpt r) te Γ Γ1 o) : EvX rBool (tIsN te) Γ Γ1 o.isNone := fun A σ H B F Q q => h A σ H B F _ fun v H' B' F' s k => q _ H' B' F' s (by
  cases o with
  | none => rw [show v = V.non from k]; rfl
  | some a => show V.bl (decide (v = V.non)) = V.bl false; rw [decide_eq_false k.2])
theorem ev_notN {o : Option α} (h : EvX (rOpt r) te Γ Γ1 o) : EvX rBool (tNotN te) Γ Γ1 o.isSome := fun A σ H B F Q q => h A σ H B F _ fun v H' B' F' s k => q _ H' B' F' s (by
  cases o with
  | none => rw [show v = V.non from k]; rfl
  | some a => show V.bl (!decide (v = V.non)) = V.bl true; rw [decide_eq_false k.2]; rfl)
theorem ev_op {R : R2} (ha : EvX ra ta Γ Γ1 x) (hb : EvX rb tb Γ1 Γ2 y) (h : ∀ (H B : Hp) (u v : V), Same B H → ra.rel B u x → rb.rel B v y → ∀ Q : VK, (∀ o, rc.rel B o z → Q o H) → R u v H Q) : EvX rc (tOp R ta tb) Γ Γ2 z :=
  fun A σ H B F Q q => ha A σ H B F _ fun u H1 B1 F1 s1 k1 => hb A σ H1 B1 F1 _ fun v H2 B2 F2 s2 k2 => h H2 B2 u v F2.bh (ra.mono s2 k1) k2 Q fun o ko => q o H2 B2 F2 (s1.trans s2) ko
theorem ev_opC {R : R2} {cc : Cl γ} (ha : EvX ra ta Γ Γ1 x) (hb : EvX rb tb Γ1 Γ2 y) (h : ∀ (H B : Hp) (u v : V), Sz H → Same B H → ra.rel B u x → rb.rel B v y → ∀ Q : VK, (∀ p o, H p = none → szO o → cc.ok B o z → Q (.ref p) (upd H p o)) → R u v H Q) : EvC cc (tOp R ta tb) Γ Γ2 z :=
  fun A σ H B F Q q => ha A σ H B F _ fun u H1 B1 F1 s1 k1 => hb A σ H1 B1 F1 _ fun v H2 B2 F2 s2 k2 => h H2 B2 u v F2.sz F2.bh (ra.mono s2 k1) k2 Q fun p o hp ho ko => q p o _ B2 (F2.fresh hp ho) (F2.H0none hp) (s1.trans s2) ko
theorem ev_un {R : V → Hp → VK → Prop} (ha : EvX ra ta Γ Γ1 x) (h : ∀ (H B : Hp) (u : V), Same B H → ra.rel B u x → ∀ Q : VK, (∀ o, rc.rel B o z → Q o H) → R u H Q) : EvX rc (tUn R ta) Γ Γ1 z :=
  fun A σ H B F Q q => ha A σ H B F _ fun u H1 B1 F1 s1 k1 => h H1 B1 u F1.bh k1 Q fun o ko => q o H1 B1 F1 s1 ko
theorem ev_I0 {g : Int → Int → V} {i j : Int} (ha : EvX rInt ta Γ Γ1 i) (hb : EvX rInt tb Γ1 Γ2 j) (h : ∀ B, rc.rel B (g i j) z) : EvX rc (tOp (rI0 g) ta tb) Γ Γ2 z :=
  ev_op ha hb fun H B u v _ ku kv Q q => ⟨i, j, ku, kv, q _ (h B)⟩
theorem ev_I {C : Int → Int → Prop} {g : Int → Int → V} {i j : Int} (ha : EvX rInt ta Γ Γ1 i) (hb : EvX rInt tb Γ1 Γ2 j) (hc : C i j) (h : ∀ B, rc.rel B (g i j) z) : EvX rc (tOp (rI C g) ta tb) Γ Γ2 z :=
  ev_op ha hb fun H B u v _ ku kv Q q => ⟨i, j, ku, kv, hc, q _ (h B)⟩
section
variable {i j : Int}
theorem ev_add (ha : EvX rInt ta Γ Γ1 i) (hb : EvX rInt tb Γ1 Γ2 j) : EvX rInt (tOp (rI0 fun i j => .int (i + j)) ta tb) Γ Γ2 (i + j) := ev_I0 ha hb fun _ => rfl
theorem ev_mul (ha : EvX rInt ta Γ Γ1 i) (hb : EvX rInt tb Γ1 Γ2 j) (h : CMul i j) : EvX rInt (tOp (rI CMul fun i j => .int (i * j)) ta tb) Γ Γ2 (i * j) := ev_I ha hb h fun _ => rfl
theorem ev_mod (ha : EvX rInt ta Γ Γ1 i) (hb : EvX rInt tb Γ1 Γ2 j) (h : 0 < j) : EvX rInt (tOp (rI (fun _ j => 0 < j) fun i j => .int (i % j)) ta tb) Γ Γ2 (i % j) := ev_I ha hb h fun _ => rfl
theorem ev_divW (ha : EvX rInt ta Γ Γ1 i) (hb : EvX rInt tb Γ1 Γ2 j) (h : CDivW i j) : EvX rInt (tOp (rI CDivW fun i j => .int (i / j)) ta tb) Γ Γ2 (i / j) := ev_I ha hb h fun _ => rfl
theorem ev_pow (ha : EvX rInt ta Γ Γ1 i) (hb : EvX rInt tb Γ1 Γ2 j) (h : CPow i j) : EvX rInt (tOp (rI CPow fun i j => .int (i ^ j.toNat)) ta tb) Γ Γ2 (i ^ j.toNat) := ev_I ha hb h fun _ => rfl
theorem ev_neg (ha : EvX rInt ta Γ Γ1 i) : EvX rInt (tUn (rU fun i => .int (-i)) ta) Γ Γ1 (-i) := ev_un ha fun H B u _ k Q q => ⟨i, k, q _ rfl⟩
theorem ev_lt (ha : EvX rInt ta Γ Γ1 i) (hb : EvX rInt tb Γ1 Γ2 j) : EvX rBool (tOp (rI0 fun i j => .bl (decide (i < j))) ta tb) Γ Γ2 (decide (i < j)) := ev_I0 ha hb fun _ => rfl
theorem ev_gt (ha : EvX rInt ta Γ Γ1 i) (hb : EvX rInt tb Γ1 Γ2 j) : EvX rBool (tOp (rI0 fun i j => .bl (decide (j < i))) ta tb) Γ Γ2 (decide (j < i)) := ev_I0 ha hb fun _ => rfl
theorem ev_ge (ha : EvX rInt ta Γ Γ1 i) (hb : EvX rInt tb Γ1 Γ2 j) : EvX rBool (tOp (rI0 fun i j => .bl (decide (j ≤ i))) ta tb) Γ Γ2 (decide (j ≤ i)) := ev_I0 ha hb fun _ => rfl
end
structure Sc {α : Type} (r : Rp α) where
  val : α → V
  ok : ∀ {H v a}, r.rel H v a → v = val a
  inj : ∀ {a b}, val a = val b → a = b
def scInt : Sc rInt := ⟨.int, fun h => h, fun h => V.int.inj h⟩
def scStr : Sc rStr := ⟨.str, fun h => h, fun h => V.str.inj h⟩
theorem sc_dec {r : Rp α} [DecidableEq α] (s : Sc r) (a b : α) : decide (s.val a = s.val b) = decide (a = b) := by
  by_cases e : a = b
  · rw [e]; simp
  · rw [decide_eq_false e, decide_eq_false fun h => e (s.inj h)]
theorem ev_eqS [DecidableEq α] (s : Sc r) (ha : EvX r ta Γ Γ1 x) (hb : EvX r tb Γ1 Γ2 a) (h : scal (s.val x) (s.val a) = true) : EvX rBool (tOp rEq ta tb) Γ Γ2 (decide (x = a)) :=
  ev_op ha hb fun H B u v _ ku kv Q q => by
    rw [s.ok ku, s.ok kv]
    exact ⟨h, q _ (by rw [sc_dec s]; rfl)⟩
theorem ev_neS [DecidableEq α] (s : Sc r) (ha : EvX r ta Γ Γ1 x) (hb : EvX r tb Γ1 Γ2 a) (h : scal (s.val x) (s.val a) = true) : EvX rBool (tOp rNe ta tb) Γ Γ2 (!decide (x = a)) :=
  ev_op ha hb fun H B u v _ ku kv Q q => by
    rw [s.ok ku, s.ok kv]
    exact ⟨h, q _ (by rw [sc_dec s]; rfl)⟩
theorem et_B {b : Bool} (h : EvX rBool te Γ Γ1 b) : EvT (tB te) Γ Γ1 b := fun A σ H B F Q q => h A σ H B F _ fun v H' B' F' s k => ⟨b, k, q H' B' F' s⟩
theorem et_T {b : Bool} (h : EvX rBool te Γ Γ1 b) : EvT (tTest te) Γ Γ1 b := fun A σ H B F Q q => h A σ H B F _ fun v H' B' F' s k => ⟨b, k, q H' B' F' s⟩
theorem et_and {a b : Bool} (h1 : EvT tt Γ Γ1 a) (h2 : a = true → EvT tu Γ1 Γ2 b) (h3 : a = false → b = false ∧ Γ1 = Γ2) : EvT (tAnd tt tu) Γ Γ2 b := fun A σ H B F Q q => h1 A σ H B F _ fun H' B' F' s => by
  cases a with
  | true => exact h2 rfl A σ H' B' F' Q fun H2 B2 F2 s2 => q H2 B2 F2 (s.trans s2)
  | false => obtain ⟨rfl, rfl⟩ := h3 rfl; exact q H' B' F' s
theorem et_or {a b : Bool} (h1 : EvT tt Γ Γ1 a) (h2 : a = false → EvT tu Γ1 Γ2 b) (h3 : a = true → b = true ∧ Γ1 = Γ2) : EvT (tOr tt tu) Γ Γ2 b := fun A σ H B F Q q => h1 A σ H B F _ fun H' B' F' s => by
  cases a with
  | false => exact h2 rfl A σ H' B' F' Q fun H2 B2 F2 s2 => q H2 B2 F2 (s.trans s2)
  | true => obtain ⟨rfl, rfl⟩ := h3 rfl; exact q H' B' F' s
theorem et_not {a : Bool} (h : EvT tt Γ Γ1 a) : EvT (tNot tt) Γ Γ1 (!a) := fun A σ H B F Q q => h A σ H B F _ fun H' B' F' s => q H' B' F' s
theorem ev_and {a b : Bool} (h1 : EvX rBool ta Γ Γ1 a) (h2 : a = true → EvX rBool tb Γ1 Γ2 b) (h3 : a = false → b = false ∧ Γ1 = Γ2) : EvX rBool (tAndV ta tb) Γ Γ2 b := fun A σ H B F Q q => h1 A σ H B F _ fun v H' B' F' s k => ⟨a, k, by
  cases a with
  | true => exact h2 rfl A σ H' B' F' Q fun v2 H2 B2 F2 s2 k2 => q v2 H2 B2 F2 (s.trans s2) k2
  | false => obtain ⟨rfl, rfl⟩ := h3 rfl; exact q _ H' B' F' s rfl⟩
theorem ev_if {b : Bool} (h : EvT tt Γ Γ1 b) (h1 : b = true → EvX r ta Γ1 Γ2 a) (h2 : b = false → EvX r tb Γ1 Γ2 a) : EvX r (tIf tt ta tb) Γ Γ2 a := fun A σ H B F Q q => h A σ H B F _ fun H' B' F' s => by
  cases b with
  | true => exact h1 rfl A σ H' B' F' Q fun v H2 B2 F2 s2 k => q v H2 B2 F2 (s.trans s2) k
  | false => exact h2 rfl A σ H' B' F' Q fun v H2 B2 F2 s2 k => q v H2 B2 F2 (s.trans s2) k
theorem ew_0 : EvW w0 tNil Γ Γ () := fun A σ H B F Q q => q _ H B F (Same.refl _) rfl
theorem ew_1 (h : EvX r ta Γ Γ1 a) : EvW (w1 r) (tCons ta tNil) Γ Γ1 a := fun A σ H B F Q q => h A σ H B F _ fun v H' B' F' s k => q _ H' B' F' s ⟨v, rfl, k⟩
theorem ew_C {w : Rw β} {tr : TA} (h : EvX r ta Γ Γ1 a) (hr : EvW w tr Γ1 Γ2 y) : EvW (wC r w) (tCons ta tr) Γ Γ2 (a, y) := fun A σ H B F Q q =>
  h A σ H B F _ fun v H' B' F' s k => hr A σ H' B' F' _ fun vs H2 B2 F2 s2 k2 => q _ H2 B2 F2 (s.trans s2) ⟨v, vs, rfl, r.mono s2 k, k2⟩
theorem eh_0 : EvH r tNil Γ Γ [] := fun A σ H B F Q q => q _ H B F (Same.refl _) .nil
theorem eh_C {tr : TA} {xs : List α} (h : EvX r ta Γ Γ1 a) (hr : EvH r tr Γ1 Γ2 xs) : EvH r (tCons ta tr) Γ Γ2 (a :: xs) := fun A σ H B F Q q =>
  h A σ H B F _ fun v H' B' F' s k => hr A σ H' B' F' _ fun vs H2 B2 F2 s2 k2 => q _ H2 B2 F2 (s.trans s2) (.cons (r.mono s2 k) k2)
theorem ec_fresh {H B : Hp} {A : Amb} {σ : L2.St} {p : Addr} {o : HO} (F : Frm A σ H B Γ) (hp : H p = none) (ho : szO o) {Q : VK} (q : ∀ p o H' B', Frm (A.add p o) σ H' B' Γ → A.H0 p = none → Same B B' → c.ok B' o a → Q (.ref p) H') (k : c.ok B o a) : Q (.ref p) (upd H p o) :=
  q p o _ B (F.fresh hp ho) (F.H0none hp) (Same.refl _) k
class WLen {α : Type} (w : Rw α) (n : outParam Nat) : Prop where
  len : ∀ {H vs a}, w.rel H vs a → vs.length = n
instance : WLen w0 0 := ⟨fun h => by rw [show _ = ([] : List V) from h]; rfl⟩
instance {α : Type} (r : Rp α) : WLen (w1 r) 1 := ⟨fun ⟨v, e, _⟩ => by rw [e]; rfl⟩
instance {α β : Type} (r : Rp α) (w : Rw β) {n : Nat} [i : WLen w n] : WLen (wC r w) (n + 1) := ⟨fun ⟨v, t, e, _, k⟩ => by rw [e, List.length_cons, i.len k]⟩
theorem ec_tup {n : Nat} [i : WLen w n] {ta : TA} (h : EvW w ta Γ Γ1 a) (hn : n ≤ 1000 := by decide) : EvC (cTup w) (tTup ta) Γ Γ1 a := fun A σ H B F Q q => h A σ H B F _ fun vs H' B' F' s k => by
  have hl : vs.length ≤ sizeLine := by rw [i.len k]; exact Nat.le_of_lt (small1000 hn)
  exact ⟨hl, fun p hp => ec_fresh (c := cTup w) (o := .tup vs) F' hp hl (fun p o H2 B2 F2 n2 s2 k2 => q p o H2 B2 F2 n2 (s.trans s2) k2) ⟨vs, rfl, k⟩⟩
theorem ec_hls {n : Nat} [i : WLen w n] {ta : TA} (h : EvW w ta Γ Γ1 a) (hn : n ≤ 1000 := by decide) : EvC (cHls w) (tLst ta) Γ Γ1 a := fun A σ H B F Q q => h A σ H B F _ fun vs H' B' F' s k => by
  have hl : vs.length ≤ sizeLine := by rw [i.len k]; exact Nat.le_of_lt (small1000 hn)
  exact ⟨hl, fun p hp => ec_fresh (c := cHls w) (o := .lst vs) F' hp hl (fun p o H2 B2 F2 n2 s2 k2 => q p o H2 B2 F2 n2 (s.trans s2) k2) ⟨vs, rfl, k⟩⟩
theorem ec_lst {ta : TA} {xs : List α} (h : EvH r ta Γ Γ1 xs) (hn : xs.length ≤ 1000 := by decide) : EvC (cLst r) (tLst ta) Γ Γ1 xs := fun A σ H B F Q q => h A σ H B F _ fun vs H' B' F' s k => by
  have hl : vs.length ≤ sizeLine := by rw [Paired.len k]; exact Nat.le_of_lt (small1000 hn)
  exact ⟨hl, fun p hp => ec_fresh (c := cLst r) (o := .lst vs) F' hp hl (fun p o H2 B2 F2 n2 s2 k2 => q p o H2 B2 F2 n2 (s.trans s2) k2) ⟨vs, rfl, k⟩⟩
theorem ec_tpl {ta : TA} {xs : List α} (h : EvH r ta Γ Γ1 xs) (hn : xs.length ≤ 1000 := by decide) : EvC (cTpl r) (tTup ta) Γ Γ1 xs := fun A σ H B F Q q => h A σ H B F _ fun vs H' B' F' s k => by
  have hl : vs.length ≤ sizeLine := by rw [Paired.len k]; exact Nat.le_of_lt (small1000 hn)
  exact ⟨hl, fun p hp => ec_fresh (c := cTpl r) (o := .tup vs) F' hp hl (fun p o H2 B2 F2 n2 s2 k2 => q p o H2 B2 F2 n2 (s.trans s2) k2) ⟨vs, rfl, k⟩⟩
theorem ev_new (h : EvC c te Γ Γ1 a) : EvX (rOb c) te Γ Γ1 a := fun A σ H B F Q q => h A σ H B F Q fun p o H' B' F' n s k => by
  have hm : ¬ A.m p := fun m => F.mh.al p m n
  have hB : B' p = none := F'.out p (by show upd A.H0 p o p ≠ none; rw [upd_same]; simp) (by
    cases e : A.B0 p with
    | none => exact e
    | some u => exact absurd (F.sub p u e) (by rw [n]; simp))
  have s' : Same B' (upd B' p o) := fun b u e => by rw [upd_ne (ne_of_none e hB)]; exact e
  exact q _ H' (upd B' p o) (F'.adopt n F.sub F.mh) (s.trans s') ⟨p, o, rfl, upd_same, c.mono s' k⟩
theorem atI_rel {B : Hp} {vs : List V} {xs : List α} {i : Int} (h : Paired (r.rel B) vs xs) (e : atI xs i = some a) : ∃ v, atI vs i = some v ∧ r.rel B v a := by
  unfold atI at e ⊢
  rw [Paired.len h]
  cases q : ixN xs.length i with
  | none => rw [q] at e; cases e
  | some j =>
    rw [q] at e
    exact Paired.getR h e
theorem ob_lst {B H : Hp} {u : V} {xs : List α} (s : Same B H) (h : (rLst r).rel B u xs) : ∃ p vs, u = .ref p ∧ H p = some (.lst vs) ∧ Paired (r.rel B) vs xs := by
  obtain ⟨p, o, e, hp, vs, rfl, k⟩ := h
  exact ⟨p, vs, e, s _ _ hp, k⟩
theorem ob_tpl {B H : Hp} {u : V} {xs : List α} (s : Same B H) (h : (rTpl r).rel B u xs) : ∃ p vs, u = .ref p ∧ H p = some (.tup vs) ∧ Paired (r.rel B) vs xs := by
  obtain ⟨p, o, e, hp, vs, rfl, k⟩ := h
  exact ⟨p, vs, e, s _ _ hp, k⟩
theorem ob_tup {B H : Hp} {u : V} (s : Same B H) (h : (rTup w).rel B u a) : ∃ p vs, u = .ref p ∧ H p = some (.tup vs) ∧ w.rel B vs a := by
  obtain ⟨p, o, e, hp, vs, rfl, k⟩ := h
  exact ⟨p, vs, e, s _ _ hp, k⟩
theorem ev_ixL {xs : List α} {i : Int} (ha : EvX (rLst r) ta Γ Γ1 xs) (hb : EvX rInt tb Γ1 Γ2 i) (e : atI xs i = some a) : EvX r (tOp (rIxL K) ta tb) Γ Γ2 a :=
  ev_op ha hb fun H B u v s ku kv Q q => by
    obtain ⟨p, vs, rfl, hp, k⟩ := ob_lst s ku
    obtain ⟨o, ho, ko⟩ := atI_rel k e
    exact ⟨p, vs, i, o, rfl, kv, SqL.of hp, ho, q o ko⟩
theorem ev_ixT {xs : List α} {i : Int} (ha : EvX (rTpl r) ta Γ Γ1 xs) (hb : EvX rInt tb Γ1 Γ2 i) (e : atI xs i = some a) : EvX r (tOp (rIxT K) ta tb) Γ Γ2 a :=
  ev_op ha hb fun H B u v s ku kv Q q => by
    obtain ⟨p, vs, rfl, hp, k⟩ := ob_tpl s ku
    obtain ⟨o, ho, ko⟩ := atI_rel k e
    exact ⟨p, vs, i, o, rfl, kv, SqT.of hp, ho, q o ko⟩
def Acc {α β : Type} (w : Rw α) (k : Nat) (r : Rp β) (f : α → β) : Prop := ∀ H vs a, w.rel H vs a → ∃ v, vs[k]? = some v ∧ r.rel H v (f a)
theorem acc1 : Acc (w1 r) 0 r (fun a => a) := fun H vs a ⟨v, e, k⟩ => ⟨v, by rw [e]; rfl, k⟩
theorem acc0 {w : Rw β} : Acc (wC r w) 0 r (·.1) := fun H vs a ⟨v, t, e, k, _⟩ => ⟨v, by rw [e]; rfl, k⟩
theorem accS {w : Rw β} {k : Nat} {f : β → γ} (h : Acc w k rc f) : Acc (wC r w) (k + 1) rc (fun a => f a.2) := fun H vs a ⟨v, t, e, _, q⟩ => by
  obtain ⟨u, h1, h2⟩ := h H t a.2 q
  exact ⟨u, by rw [e]; simpa using h1, h2⟩
theorem ev_ixU {k : Nat} {f : α → β} (ha : EvX (rTup w) ta Γ Γ1 a) (h : Acc w k rb f) : EvX rb (tOp (rIxT K) ta (tC (.int (k : Int)))) Γ Γ1 (f a) :=
  ev_op ha (ev_int (Γ := Γ1)) fun H B u v s ku kv Q q => by
    obtain ⟨p, vs, rfl, hp, g⟩ := ob_tup s ku
    obtain ⟨o, ho, ko⟩ := h B vs a g
    exact ⟨p, vs, (k : Int), o, rfl, kv, SqT.of hp, atI_nat ho, q o ko⟩
end
end G
set_option maxHeartbeats 4000000
namespace G
variable [TabL]
open PySem PySem.Spec PyProof.Rows L2
def Nx (A : Amb) (P : L2.St → Hp → Prop) (Γ : List Sl) : Prop := ∀ σ H B, Frm A σ H B Γ → P σ H
def Rt {ρ : Type} (A : Amb) (ψ : ρ → Hp → Hp → V → Prop) (b : ρ) (rt : VK) : Prop := ∀ H B v, Post A H B → ψ b H B v → rt v H
def psi {β : Type} (r : Rp β) (b : β) (_ B : Hp) (v : V) : Prop := r.rel B v b
def psiS {β γ : Type} (p : Addr) (c : Cl γ) (r : Rp β) (b : β × γ) (H B : Hp) (v : V) : Prop := r.rel B v b.1 ∧ ∃ o, H p = some o ∧ c.ok B o b.2
def Fin (A : Amb) (M : List Sl) : L2.St → Hp → Prop := fun σ H => ∃ B, Frm A σ H B M
section
variable {α β γ ρ ς : Type} {r ra : Rp α} {rb : Rp β} {c : Cl α} {cc : Cl γ} {w : Rw α} {te : TE} {tt : TT} {t u : TS} {D : Ends} {A : Amb} {Γ Γ1 Γ2 M : List Sl} {a : α} {b : β} {i : Nat} {K : PySem.W.Frag} {P : L2.St → Hp → Prop} {ψ : ρ → Hp → Hp → V → Prop}
theorem nx_next (h : Nx A D.nx Γ) : Nx A (tNext D) Γ := h
theorem nx_asg (h : EvX r te Γ Γ1 a) (k : Nx A D.nx (Γ1.set i (.imm r a))) : Nx A (tAsg te (gName i) D) Γ := fun σ H B F => h A σ H B F _ fun v H' B' F' _ q => k _ _ _ (F'.set q)
theorem nx_asgC (h : EvC c te Γ Γ1 a) (k : ∀ p, ¬ A.m p → Nx A D.nx (Γ1.set i (.cel p c a))) : Nx A (tAsg te (gName i) D) Γ := fun σ H B F => h A σ H B F _ fun p o H' B' F' n _ q =>
  k p (fun m => F.mh.al p m n) _ _ _ (F'.own1 n F.sub F.mh q)
theorem nx_if {b : Bool} (h : EvT tt Γ Γ1 b) (h1 : b = true → Nx A (t D) Γ1) (h2 : b = false → Nx A (u D) Γ1) : Nx A (tIfS tt t u D) Γ := fun σ H B F => h A σ H B F _ fun H' B' F' _ => by
  cases b with
  | true => exact h1 rfl σ H' B' F'
  | false => exact h2 rfl σ H' B' F'
theorem nx_drop (h : EvX r te Γ Γ1 a) (k : Nx A D.nx Γ1) : Nx A (tDrop te D) Γ := fun σ H B F => h A σ H B F _ fun v H' B' F' _ _ => k _ _ _ F'
theorem nx_ret {b : α} (h : EvX r te Γ Γ1 a) (e : some a = some b) (k : Rt A (psi r) b D.rt) : Nx A (tRet te D) Γ := fun σ H B F => h A σ H B F _ fun v H' B' F' _ q => k H' B' v F'.post (by cases e; exact q)
theorem nx_retS {p : Addr} {st : γ} {b : α × γ} (h : EvX r te Γ Γ1 a) (hi : Γ1[i]? = some (.cel p cc st)) (e : some (a, st) = some b) (k : Rt A (psiS p cc r) b D.rt) : Nx A (tRet te D) Γ := fun σ H B F => h A σ H B F _ fun v H' B' F' _ q => by
  obtain ⟨_, _, _, o, ho, ko⟩ := F'.sl i _ hi
  exact k H' B' v F'.post (by cases e; exact ⟨q, o, ho, ko⟩)
theorem nx_cut (M : List Sl) (h : Nx A (t { D with nx := Fin A M }) Γ) (k : Nx A (u D) M) : Nx A (Evl.tCut t u D) Γ := fun σ H B F => ⟨Fin A M, h σ H B F, fun σ' H' ⟨B', F'⟩ => k σ' H' B' F'⟩
theorem nx_fin : Nx A (Fin A M) M := fun σ H B F => ⟨B, F⟩
theorem nx_forget (i : Nat) (h : Nx A P (Γ.set i .no)) : Nx A P Γ := fun σ H B F => h σ H B (F.forget i)
theorem Frm.freeze {σ : L2.St} {H B : Hp} {p : Addr} (F : Frm A σ H B Γ) (hp : ¬ A.m p) (e : Γ[i]? = some (.cel p c a)) : ∃ B', Same B B' ∧ Frm A σ H B' (Γ.set i (.imm (rOb c) a)) := by
  obtain ⟨e1, n, m, o, ho, k⟩ := F.sl i _ e
  have m0 : A.H0 p = none := m.resolve_right hp
  have bb : Same B (upd B p o) := fun b u q => by rw [upd_ne (ne_of_none q n)]; exact q
  refine ⟨upd B p o, bb, F.chg e ⟨fun b u q => ?_, fun b u q => bb b u (F.b0 b u q), F.keep, fun b nb z => ?_, F.alive, F.sub, F.mh, A.up _ _ bb F.ph, F.sz, F.tb.fix bb (Hot.nt (F.hot e rfl) F.mh)⟩ bb fun ow hh so => ⟨fun _ => False, fun q z => z.elim, fun q z => z.elim, fun q h nq => ⟨?_, fun u hu => hu⟩, .ref p, e1, p, o, rfl, upd_same, c.mono bb k⟩⟩
  · by_cases hb : b = p
    · subst hb; rw [upd_same] at q; cases q; exact ho
    · rw [upd_ne hb] at q; exact F.bh b u q
  · have hb : b ≠ p := fun q => nb (by rw [q]; exact m0)
    rw [upd_ne hb]; exact F.out b nb z
  · have hq : q ≠ p := fun z => nq (by rw [z]; exact so.2.1)
    rw [upd_ne hq]; exact h.1
theorem nx_freeze {p : Addr} (i : Nat) (hp : ¬ A.m p) (e : Γ[i]? = some (.cel p c a)) (h : Nx A P (Γ.set i (.imm (rOb c) a))) : Nx A P Γ := fun σ H B F => by
  obtain ⟨B', _, F'⟩ := F.freeze hp e
  exact h σ H B' F'
end
def HotP (B : Hp) (p : Addr) : Prop := B p = none ∧ ¬ isTab p
def amb0 (B H : Hp) : Amb := ⟨B, H, fun _ => False, fun _ => True, fun _ _ _ _ => trivial⟩
def ambS (B H : Hp) (p : Addr) : Amb := ⟨B, H, fun q => q = p, fun _ => True, fun _ _ _ _ => trivial⟩
def SpP {α β : Type} (w : Rw α) (r : Rp β) (m : α → Option β) : Sp := fun vs H Q _ => ∃ B a b, SzT H B ∧ Same B H ∧ w.rel B vs a ∧ m a = some b ∧ Rt (amb0 B H) (psi r) b Q
def SpS {α β γ : Type} (c : Cl γ) (w : Rw α) (r : Rp β) (m : γ → α → Option (β × γ)) : Sp := fun vs H Q _ => ∃ p vs' B o st a b, vs = .ref p :: vs' ∧ SzT H B ∧ Same B H ∧ HotP B p ∧ H p = some o ∧ c.ok B o st ∧ w.rel B vs' a ∧ m st a = some b ∧ Rt (ambS B H p) (psiS p c r) b Q
section
variable {α β γ : Type} {r : Rp β} {w : Rw α} {cc : Cl γ} {A : Amb} {σ : L2.St} {H H' B B' : Hp} {Γ Γ1 : List Sl} {i : Nat} {p : Addr} {st st' : γ}
theorem Post.after (F : Frm A σ H B Γ) (P : Post (amb0 B H) H' B') : Post A H' B' where
  bh := P.bh
  b0 := fun p o e => P.b0 p o (F.b0 p o e)
  keep := fun p o m nt e => P.keep p o (fun z => z) nt (F.keep p o m nt e)
  out := fun p n z => P.out p (F.alive p n) (F.out p n z)
  alive := fun p n => P.alive p (F.alive p n)
  sub := F.sub
  mh := F.mh
  ph := A.up _ _ P.b0 F.ph
  sz := P.sz
  tb := P.tb
theorem Frm.after (F : Frm A σ H B Γ) (P : Post (amb0 B H) H' B') : Frm A σ H' B' Γ :=
  F.move (Post.after F P) P.b0 fun p h => ⟨P.out p h.2.1 h.1, h.2.2, fun u e => P.keep p u (fun z => z) (h.nt F.mh) e⟩
theorem Frm.afterS (F : Frm A σ H B Γ) (hi : Γ[i]? = some (.cel p cc st)) (P : Post (ambS B H p) H' B') (k : ∃ o, H' p = some o ∧ cc.ok B' o st') : Frm A σ H' B' (Γ.set i (.cel p cc st')) := by
  obtain ⟨e1, n, m, _⟩ := F.sl i _ hi
  refine F.chg hi ⟨P.bh, fun p o e => P.b0 p o (F.b0 p o e), fun q o nm nt e => P.keep q o (fun z => ?_) nt (F.keep q o nm nt e), fun p n z => P.out p (F.alive p n) (F.out p n z), fun p n => P.alive p (F.alive p n), F.sub, F.mh, A.up _ _ P.b0 F.ph, P.sz, P.tb⟩ P.b0 fun ow hh so => ⟨ow, fun q z => .inl z, fun q z => ?_, fun q h nq => ⟨P.out q h.2.1 h.1, fun u hu => P.keep q u (fun (z : q = p) => nq (by rw [z]; exact so.2.1)) (h.nt F.mh) hu⟩, e1, so.2.1, k⟩
  · have z' : q = p := z
    subst z'
    rcases m with m | m
    · rw [m] at e; cases e
    · exact nm m
  · have h := hh q z
    exact ⟨P.out q h.2.1 h.1, P.alive q h.2.1, h.2.2⟩
theorem ev_call {m : α → Option β} {a : α} {b : β} {E : XK} {ta : TA} (h : EvW w ta Γ Γ1 a) (e : m a = some b) : EvX r (tCall (SpP w r m) [] E ta) Γ Γ1 b := fun A σ H B F Q q => h A σ H B F _ fun vs H1 B1 F1 s1 k1 => by
  rw [List.append_nil]
  exact ⟨B1, a, b, F1.szt, F1.bh, k1, e, fun H2 B2 v P k => q v H2 B2 (F1.after P) (s1.trans P.b0) k⟩
theorem ev_callS {m : γ → α → Option (β × γ)} {a : α} {b : β} {E : XK} {tr : TA} (h : EvW w tr Γ Γ1 a) (hi0 : Γ[i]?.bind celAt = some p) (hi : Γ1[i]? = some (.cel p cc st)) (e : m st a = some (b, st')) : EvX r (tCall (SpS cc w r m) [] E (tCons (tVar i) tr)) Γ (Γ1.set i (.cel p cc st')) b :=
  fun A σ H B F Q q => by
    have hv : σ[i]? = some (some (V.ref p)) := by
      cases e : Γ[i]? with
      | none => rw [e] at hi0; cases hi0
      | some s =>
        rw [e] at hi0
        have h := F.sl i s e
        cases s with
        | no => cases hi0
        | imm r a => cases hi0
        | cel q c a => cases hi0; exact h.1
        | tre v c a => cases hi0
    refine ⟨_, hv, ?_⟩
    refine h A σ H B F _ fun vs H1 B1 F1 s1 k1 => ?_
    show SpS cc w r m ((V.ref p :: vs) ++ []) H1 Q E
    rw [List.append_nil]
    obtain ⟨_, n, m, o, ho, ko⟩ := F1.sl i _ hi
    exact ⟨p, vs, B1, o, st, a, (b, st'), rfl, F1.szt, F1.bh, ⟨n, Hot.nt (F1.hot hi rfl) F1.mh⟩, ho, ko, k1, e, fun H2 B2 v P k => q v H2 B2 (F1.afterS hi P k.2) (s1.trans P.b0) k.1⟩
end
class WSl {α : Type} (w : Rw α) (f : outParam (α → List Sl)) : Prop where
  ok : ∀ {B vs a}, w.rel B vs a → (f a).length = vs.length ∧ ∀ (i : Nat) (s : Sl), (f a)[i]? = some s → plain s ∧ ∀ (σ : L2.St) (H : Hp) (o : Addr → Prop), (∀ v, vs[i]? = some v → σ[i]? = some (some v)) → SlO σ H B o i s
instance : WSl w0 (fun _ => []) := ⟨fun h => ⟨by rw [show _ = ([] : List V) from h]; rfl, fun i s e => by simp at e⟩⟩
instance {α : Type} (r : Rp α) : WSl (w1 r) (fun a => [.imm r a]) := ⟨fun {B vs a} ⟨v, e, k⟩ => ⟨by rw [e]; rfl, fun i s q => by
  cases i with
  | zero => cases q; exact ⟨trivial, fun σ H o h => ⟨v, h v (by rw [e]; rfl), k⟩⟩
  | succ i => simp at q⟩⟩
theorem slok_shift {σ σ' : L2.St} {H B : Hp} {o : Addr → Prop} {i j : Nat} {s : Sl} (h : SlO σ H B o i s) (e : σ[i]? = σ'[j]?) : SlO σ' H B o j s := by
  cases s with
  | no => trivial
  | imm r a => obtain ⟨v, q, k⟩ := h; exact ⟨v, by rw [← e]; exact q, k⟩
  | cel p c a => obtain ⟨q, k⟩ := h; exact ⟨by rw [← e]; exact q, k⟩
  | tre v c a => obtain ⟨q, k⟩ := h; exact ⟨by rw [← e]; exact q, k⟩
instance {α β : Type} (r : Rp α) (w : Rw β) {f : β → List Sl} [k : WSl w f] : WSl (wC r w) (fun a => .imm r a.1 :: f a.2) := ⟨fun {B vs a} ⟨v, t, e, k1, k2⟩ => by
  obtain ⟨hl, hs⟩ := k.ok k2
  refine ⟨by rw [e, List.length_cons, List.length_cons, hl], fun i s q => ?_⟩
  cases i with
  | zero => cases q; exact ⟨trivial, fun σ H o h => ⟨v, h v (by rw [e]; rfl), k1⟩⟩
  | succ i =>
    obtain ⟨h1, h2⟩ := hs i s (by simpa using q)
    refine ⟨h1, fun σ H o h => ?_⟩
    have g := h2 σ.tail H o (fun u hu => by
      have := h u (by rw [e]; simpa using hu)
      cases σ with
      | nil => simp at this
      | cons x y => simpa using this)
    exact slok_shift g (by cases σ <;> simp)⟩
theorem start_get {N : List Str} {vs : List V} {i : Nat} {v : V} (e : vs[i]? = some v) : (L2.start N vs)[i]? = some (some v) := by
  unfold L2.start
  have hl : i < (vs.map some).length := by rw [List.length_map]; exact (List.getElem?_eq_some_iff.mp e).1
  rw [List.getElem?_append_left hl, List.getElem?_map, e]; rfl
theorem start_len {N : List Str} {vs : List V} (h : vs.length ≤ N.length) : (L2.start N vs).length = N.length := by
  unfold L2.start
  rw [List.length_append, List.length_map, List.length_replicate]; omega
section
variable {α β γ : Type} {r : Rp β} {w : Rw α} {cc : Cl γ}
theorem rep_sp {l : List Sl} {n i : Nat} {s : Sl} (e : (l ++ List.replicate n .no)[i]? = some s) : l[i]? = some s ∨ s = .no := by
  by_cases hi : i < l.length
  · rw [List.getElem?_append_left hi] at e; exact .inl e
  · rw [List.getElem?_append_right (by omega), List.getElem?_replicate] at e
    split at e
    · cases e; exact .inr rfl
    · cases e
theorem frm_start {f : α → List Sl} [k : WSl w f] {B H : Hp} {vs : List V} {a : α} {N : List Str} {n : Nat} (z : SzT H B) (s : Same B H) (h : w.rel B vs a) (hN : N.length = vs.length + n) : Frm (amb0 B H) (L2.start N vs) H B (f a ++ List.replicate n .no) := by
  obtain ⟨hl, hs⟩ := k.ok h
  refine ⟨⟨s, Same.refl _, fun _ _ _ _ e => e, fun _ _ e => e, fun _ n => n, s, ⟨fun _ z => z.elim, fun _ z => z.elim, fun _ m n => z.tb.ne n m⟩, trivial, z.sz, z.tb⟩, ?_, fun _ _ => False, fun i s e => ?_, fun _ _ _ z => z.elim, fun _ _ z => z.elim⟩
  · rw [start_len (by omega), List.length_append, List.length_replicate, hl]; exact hN
  · rcases rep_sp e with e | rfl
    · exact (hs i s e).2 _ _ _ fun v hv => start_get hv
    · trivial
theorem start_cons {N : List Str} {vs : List V} {v : V} : ∃ N', (L2.start N (v :: vs)) = some v :: L2.start N' vs := ⟨N.drop 1, by
  unfold L2.start
  rw [List.map_cons, List.cons_append, List.length_cons, List.length_drop]
  congr 3; omega⟩
theorem frm_startS {f : α → List Sl} [k : WSl w f] {B H : Hp} {vs : List V} {a : α} {N : List Str} {n : Nat} {p : Addr} {o : HO} {st : γ} (z : SzT H B) (s : Same B H) (hB : HotP B p) (hp : H p = some o) (ko : cc.ok B o st) (h : w.rel B vs a) (hN : N.length = (vs.length + 1) + n) :
    Frm (ambS B H p) (L2.start N (.ref p :: vs)) H B (.cel p cc st :: (f a ++ List.replicate n .no)) := by
  obtain ⟨hl, hs⟩ := k.ok h
  refine ⟨⟨s, Same.refl _, fun _ _ _ _ e => e, fun _ _ e => e, fun _ n => n, s, ⟨fun q (z : q = p) => by show H q ≠ none; rw [z, hp]; simp, fun q (z : q = p) m => hB.2 (by rw [← z]; exact m), fun _ m n => z.tb.ne n m⟩, trivial, z.sz, z.tb⟩, ?_, fun i q => i = 0 ∧ q = p, fun i s e => ?_, fun i j q ei ej => by rw [ei.1, ej.1], fun i q e => ?_⟩
  · rw [start_len (by rw [List.length_cons]; omega), List.length_cons, List.length_append, List.length_replicate, hl, hN]; omega
  · cases i with
    | zero => cases e; exact ⟨start_get rfl, ⟨rfl, rfl⟩, o, hp, ko⟩
    | succ i =>
      rcases rep_sp (by simpa using e) with e | rfl
      · obtain ⟨N', e'⟩ := start_cons (N := N) (vs := vs) (v := .ref p)
        exact slok_shift ((hs i s e).2 (L2.start N' vs) H _ fun v hv => start_get hv) (by rw [e']; simp)
      · trivial
  · rw [e.2]; exact ⟨hB.1, by rw [hp]; simp, .inr rfl⟩
end
end G
set_option maxHeartbeats 4000000
namespace G
variable [TabL]
open PySem PySem.Spec PyProof.Rows L2
inductive Step (ρ ς : Type) where
  | nx (s : ς)
  | brk (s : ς)
  | ret (b : ρ)
def forL {α ρ ς : Type} (f : α → ς → Option (Step ρ ς)) : List α → ς → Option (Step ρ ς)
  | [], s => some (.nx s)
  | x :: xs, s => match f x s with
    | none => none
    | some (.nx s') => forL f xs s'
    | some (.brk s') => some (.nx s')
    | some (.ret b) => some (.ret b)
def compL {α β : Type} (f : α → Option (Option β)) : List α → Option (List β)
  | [] => some []
  | x :: xs => match f x with
    | none => none
    | some none => compL f xs
    | some (some y) => match compL f xs with
      | none => none
      | some ys => some (y :: ys)
def compS {α β ς : Type} (f : α → ς → Option (Option β × ς)) : List α → ς → Option (List β × ς)
  | [], s => some ([], s)
  | x :: xs, s => match f x s with
    | none => none
    | some (none, s') => compS f xs s'
    | some (some y, s') => match compS f xs s' with
      | none => none
      | some (ys, s'') => some (y :: ys, s'')
structure Yl {α : Type} (Bx : Hp) (J : It) (r : Rp α) (xs : List α) : Prop where
  len : xs.length ≤ sizeLine
  stop : ∀ H B, Same Bx B → Same B H → J.stop xs.length H
  go : ∀ i H B, Same Bx B → Same B H → i < xs.length → J.go i H
  yld : ∀ (i : Nat) (x : α) H B v H', Same Bx B → Same B H → xs[i]? = some x → J.yld i H v H' → ∀ (A : Amb) (σ : L2.St) (Γ : List Sl), Frm A σ H B Γ → ∃ B', Frm A σ H' B' Γ ∧ Same B B' ∧ r.rel B' v x
def ItX {α : Type} (r : Rp α) (wi : TI) (Γ Γ' : List Sl) (xs : List α) : Prop := ∀ (A : Amb) (σ : L2.St) (H B : Hp), Frm A σ H B Γ → ∀ R : It → Hp → Prop, (∀ J H' B', Frm A σ H' B' Γ' → Same B B' → Yl B' J r xs → R J H') → wi σ H R
def TgX {α : Type} (g : TG) (r : Rp α) (vs : List Nat) (Γ : List Sl) (Γf : α → List Sl) : Prop := ∀ (A : Amb) (σ : L2.St) (H B : Hp) (v : V) (x : α), Frm A σ H B Γ → r.rel B v x → ∀ Q : L2.St → Hp → Prop,
  (∀ σ', Frm A σ' H B (Γf x) → σ'.length = σ.length → (∀ k, k ∉ vs → σ'[k]? = σ[k]?) → Q σ' H) → g v σ H Q
section
variable {α β γ ρ ς : Type} {r ra : Rp α} {rb : Rp β} {te ta tb : TE} {Γ Γ1 Γ2 : List Sl} {xs : List α} {K : PySem.W.Frag}
theorem it_list (h : EvX (rLst r) te Γ Γ1 xs) : ItX r (iList K te) Γ Γ1 xs := fun A σ H B F R q => h A σ H B F _ fun v H' B' F' s k => by
  obtain ⟨p, o, rfl, hp, vs, rfl, kp⟩ := k
  refine ⟨p, rfl, ⟨vs, SqL.of (F'.bh _ _ hp)⟩, q _ H' B' F' s ⟨by rw [← Paired.len kp]; exact F'.sz _ _ (F'.bh _ _ hp), fun H2 B2 s1 s2 => ?_, fun i H2 B2 s1 s2 hi => ?_, fun i x H2 B2 v H3 s1 s2 hx hy A σ Γ F => ?_⟩⟩
  · exact ⟨vs, SqL.of (s2 _ _ (s1 _ _ hp)), by rw [Paired.len kp]; exact Nat.le_refl _⟩
  · obtain ⟨y, hy⟩ : ∃ y, vs[i]? = some y := ⟨_, List.getElem?_eq_getElem (by rw [Paired.len kp]; exact hi)⟩
    exact ⟨vs, y, SqL.of (s2 _ _ (s1 _ _ hp)), hy⟩
  · obtain ⟨rfl, hv⟩ := hy
    obtain ⟨y, hy, ky⟩ := Paired.getR kp hx
    have e := hv vs (SqL.of (s2 _ _ (s1 _ _ hp)))
    rw [hy] at e; cases e
    exact ⟨B2, F, Same.refl _, r.mono s1 ky⟩
theorem it_tpl (h : EvX (rTpl r) te Γ Γ1 xs) : ItX r (iTup K te) Γ Γ1 xs := fun A σ H B F R q => h A σ H B F _ fun v H' B' F' s k => by
  obtain ⟨p, o, rfl, hp, vs, rfl, kp⟩ := k
  refine ⟨p, rfl, ⟨vs, SqT.of (F'.bh _ _ hp)⟩, q _ H' B' F' s ⟨by rw [← Paired.len kp]; exact F'.sz _ _ (F'.bh _ _ hp), fun H2 B2 s1 s2 => ?_, fun i H2 B2 s1 s2 hi => ?_, fun i x H2 B2 v H3 s1 s2 hx hy A σ Γ F => ?_⟩⟩
  · exact ⟨vs, SqT.of (s2 _ _ (s1 _ _ hp)), by rw [Paired.len kp]; exact Nat.le_refl _⟩
  · obtain ⟨y, hy⟩ : ∃ y, vs[i]? = some y := ⟨_, List.getElem?_eq_getElem (by rw [Paired.len kp]; exact hi)⟩
    exact ⟨vs, y, SqT.of (s2 _ _ (s1 _ _ hp)), hy⟩
  · obtain ⟨rfl, hv⟩ := hy
    obtain ⟨y, hy, ky⟩ := Paired.getR kp hx
    have e := hv vs (SqT.of (s2 _ _ (s1 _ _ hp)))
    rw [hy] at e; cases e
    exact ⟨B2, F, Same.refl _, r.mono s1 ky⟩
def rng (lo : Int) (n : Nat) : List Int := (List.range n).map fun (i : Nat) => lo + (i : Int)
theorem rng_len (lo : Int) (n : Nat) : (rng lo n).length = n := by unfold rng; rw [List.length_map, List.length_range]
theorem rng_get {lo : Int} {n i : Nat} {x : Int} (h : (rng lo n)[i]? = some x) : i < n ∧ x = lo + (i : Int) := by
  unfold rng at h
  rw [List.getElem?_map] at h
  cases e : (List.range n)[i]? with
  | none => rw [e] at h; cases h
  | some j =>
    rw [e] at h
    have hl : i < n := by have := (List.getElem?_eq_some_iff.mp e).1; rwa [List.length_range] at this
    rw [List.getElem?_range hl] at e
    cases e; cases h
    exact ⟨hl, rfl⟩
theorem yl_rng {Bx : Hp} {lo : Int} {n : Nat} (hn : n ≤ 1000000) : Yl Bx (Itr lo n) rInt (rng lo n) := ⟨by rw [rng_len]; exact Nat.le_trans hn (by decide), fun H B _ _ => by rw [rng_len]; exact Nat.le_refl _, fun i H B _ _ hi => by rw [rng_len] at hi; exact hi, fun i x H B v H' _ _ hx hy A σ Γ F => by
  obtain ⟨rfl, e⟩ := hy
  exact ⟨B, F, Same.refl _, by rw [(rng_get hx).2]; exact e⟩⟩
def pyRng (j : Int) : Option (List Int) := if -(2 ^ 62) ≤ j ∧ j ≤ 1000000 then some (rng 0 j.toNat) else none
theorem it_rng1 {ta : TA} {j : Int} {l : List Int} (h : EvW (w1 rInt) ta Γ Γ1 j) (e : pyRng j = some l) : ItX rInt (iRng1 ta) Γ Γ1 l := fun A σ H B F R q => h A σ H B F _ fun vs H' B' F' s k => by
  obtain ⟨v, rfl, rfl⟩ := k
  unfold pyRng at e
  split at e
  · rename_i hj
    cases e
    exact ⟨j, rfl, hj.1, by omega, q _ H' B' F' s (yl_rng (by omega))⟩
  · cases e
def sgn (z : Str) : List Str := z.cps.toList.map fun c => (⟨#[c]⟩ : Str)
def pySgn (z : Str) : Option (List Str) := if z.length ≤ 1000000 then some (sgn z) else none
theorem it_str {z : Str} {l : List Str} (h : EvX rStr te Γ Γ1 z) (e : pySgn z = some l) : ItX rStr (iStr te) Γ Γ1 l := fun A σ H B F R q => h A σ H B F _ fun v H' B' F' s k => by
  unfold pySgn at e
  split at e <;> cases e
  rename_i hz
  refine ⟨z, k, q _ H' B' F' s ⟨by unfold sgn; rw [List.length_map, Array.length_toList]; exact Nat.le_trans hz (by decide), fun H2 B2 _ _ => ?_, fun i H2 B2 _ _ hi => ?_, fun i x H2 B2 v H3 _ _ hx hy A σ Γ F => ?_⟩⟩
  · unfold sgn; rw [List.length_map]; first | exact rfl | exact Nat.le_refl _ | (simp [Its, Str.length])
  · unfold sgn at hi; rw [List.length_map] at hi; simpa [Its, Str.length] using hi
  · unfold sgn at hx
    rw [List.getElem?_map] at hx
    obtain ⟨rfl, hv⟩ := hy
    obtain ⟨c, hc, ev⟩ := hv
    have hc' : z.cps.toList[i]? = some c := by first | exact hc | simpa using hc
    rw [hc'] at hx
    cases hx
    exact ⟨B2, F, Same.refl _, ev⟩
theorem tg_name {j : Nat} : TgX (gName j) r [j] Γ (fun x => Γ.set j (.imm r x)) := fun A σ H B v x F k Q q => q _ (F.set k) (by rw [List.length_set]) fun n hn => by
  rw [List.getElem?_set_ne (fun e => hn (by rw [e]; exact List.mem_singleton.mpr rfl))]
def TgW {α : Type} (g : TGs) (w : Rw α) (vs : List Nat) (Γ : List Sl) (Γf : α → List Sl) : Prop := ∀ (A : Amb) (σ : L2.St) (H B : Hp) (us : List V) (x : α), Frm A σ H B Γ → w.rel B us x → ∀ Q : L2.St → Hp → Prop,
  (∀ σ', Frm A σ' H B (Γf x) → σ'.length = σ.length → (∀ k, k ∉ vs → σ'[k]? = σ[k]?) → Q σ' H) → g us σ H Q
theorem tw_1 {g : TG} {vs : List Nat} {Γf : α → List Sl} (h : TgX g r vs Γ Γf) : TgW (gCons g gNil) (w1 r) vs Γ Γf := fun A σ H B us x F k Q q => by
  obtain ⟨v, rfl, k⟩ := k
  exact ⟨v, [], rfl, h A σ H B v x F k _ fun σ' F' l d => ⟨rfl, q σ' F' l d⟩⟩
theorem tw_C {g : TG} {gs : TGs} {w : Rw β} {vs ws : List Nat} {Γf : α → List Sl} {Γg : α → β → List Sl} (h : TgX g r vs Γ Γf) (hr : ∀ x, TgW gs w ws (Γf x) (Γg x)) : TgW (gCons g gs) (wC r w) (vs ++ ws) Γ (fun x => Γg x.1 x.2) := fun A σ H B us x F k Q q => by
  obtain ⟨v, t, rfl, k1, k2⟩ := k
  exact ⟨v, t, rfl, h A σ H B v x.1 F k1 _ fun σ' F' l d => hr x.1 A σ' H B t x.2 F' k2 _ fun σ2 F2 l2 d2 => q σ2 F2 (l2.trans l) fun k hk =>
    (d2 k fun z => hk (List.mem_append_right _ z)).trans (d k fun z => hk (List.mem_append_left _ z))⟩
theorem tg_tup {g : TGs} {n m : Nat} {w : Rw α} [i : WLen w m] {vs : List Nat} {Γf : α → List Sl} (h : TgW g w vs Γ Γf) (e : m = n := by rfl) : TgX (gTup K n g) (rTup w) vs Γ Γf := fun A σ H B v x F k Q q => by
  obtain ⟨p, us, rfl, hp, kw⟩ := ob_tup F.bh k
  exact ⟨p, us, rfl, SqT.of hp, (i.len kw).trans e, h A σ H B us x F kw Q q⟩
def Amb.and (A : Amb) (Bx : Hp) : Amb := ⟨A.B0, A.H0, A.m, fun B => A.φ B ∧ Same Bx B, fun B B' s h => ⟨A.up B B' s h.1, h.2.trans s⟩⟩
theorem MH.and {A : Amb} {Bx : Hp} (h : MH A) : MH (A.and Bx) := ⟨h.al, h.nt, h.tb⟩
theorem Post.and {A : Amb} {H B Bx : Hp} (P : Post A H B) (s : Same Bx B) : Post (A.and Bx) H B := ⟨P.bh, P.b0, P.keep, P.out, P.alive, P.sub, P.mh.and, ⟨P.ph, s⟩, P.sz, P.tb⟩
theorem Post.unand {A : Amb} {H B Bx : Hp} (P : Post (A.and Bx) H B) : Post A H B := ⟨P.bh, P.b0, P.keep, P.out, P.alive, P.sub, ⟨P.mh.al, P.mh.nt, P.mh.tb⟩, P.ph.1, P.sz, P.tb⟩
theorem Frm.and {A : Amb} {σ : L2.St} {H B Bx : Hp} {Γ : List Sl} (F : Frm A σ H B Γ) (s : Same Bx B) : Frm (A.and Bx) σ H B Γ := by obtain ⟨ow, W⟩ := F.own; exact ⟨F.post.and s, F.len, ow, W.so, W.dj, W.ht⟩
theorem Frm.unand {A : Amb} {σ : L2.St} {H B Bx : Hp} {Γ : List Sl} (F : Frm (A.and Bx) σ H B Γ) : Frm A σ H B Γ := by obtain ⟨ow, W⟩ := F.own; exact ⟨F.post.unand, F.len, ow, W.so, W.dj, W.ht⟩
structure Conts {ρ ς : Type} (A : Amb) (ψ : ρ → Hp → Hp → V → Prop) (D : Ends) (mk : ς → List Sl) (st : Step ρ ς) : Prop where
  nx : ∀ s, st = .nx s → Nx A D.nx (mk s)
  ct : ∀ s, st = .nx s → Nx A D.ct (mk s)
  bk : ∀ s, st = .brk s → Nx A D.bk (mk s)
  rt : ∀ b, st = .ret b → Rt A ψ b D.rt
theorem nx_for {A : Amb} {ψ : ρ → Hp → Hp → V → Prop} {wi : TI} {g : TG} {tb : TS} {D : Ends} {vs : List Nat} (f : α → ς → Option (Step ρ ς)) (mk : ς → List Sl) {Γf : α → ς → List Sl} {s0 : ς} {R0 : Step ρ ς}
    (hi : ItX r wi Γ Γ1 xs) (e : forL f xs s0 = some R0) (h0 : ∀ A' : Amb, A'.m = A.m ∧ A'.H0 = A.H0 → Nx A' (Fin A' (mk s0)) Γ1)
    (hg : ∀ s, TgX g r vs (mk s) (fun x => Γf x s))
    (hb : ∀ (A' : Amb) (D' : Ends) (x : α) (s : ς) (st : Step ρ ς), A'.m = A.m ∧ A'.H0 = A.H0 → f x s = some st → Conts A' ψ D' mk st → Nx A' (tb D') (Γf x s))
    (hr : ∀ b, R0 = .ret b → Rt A ψ b D.rt) (hd : ∀ s, R0 = .nx s → Nx A D.nx (mk s)) : Nx A (tFor wi g tb D) Γ := fun σ H B F => by
  refine hi A σ H B F _ fun J H1 B1 F1 s1 Y => ?_
  refine ⟨fun i m σ H => m = xs.length - i ∧ i ≤ xs.length ∧ ∃ B s, Frm (A.and B1) σ H B (mk s) ∧ forL f (xs.drop i) s = some R0, ?_, ?_⟩
  · obtain ⟨B2, F2⟩ := h0 (A.and B1) ⟨rfl, rfl⟩ σ H1 B1 (F1.and (Same.refl _))
    exact ⟨_, rfl, Nat.zero_le _, B2, s0, F2, by rw [List.drop_zero]; exact e⟩
  · rintro i m σ2 H2 ⟨rfl, hi, B2, s2, F2, e2⟩
    by_cases hlt : i < xs.length
    · right
      have hx : xs[i]? = some xs[i] := List.getElem?_eq_getElem hlt
      rw [List.drop_eq_getElem_cons hlt] at e2
      refine ⟨Y.go i H2 B2 F2.ph.2 F2.bh hlt, fun σ3 H3 => ∃ s3, Fin (A.and B1) (mk s3) σ3 H3 ∧ forL f (xs.drop (i + 1)) s3 = some R0, fun σ3 H3 ⟨s3, ⟨B3, F3⟩, e3⟩ => ⟨_, by omega, rfl, by omega, B3, s3, F3, e3⟩, fun v H3 hy => ?_⟩
      obtain ⟨B3, F3, s3, k3⟩ := Y.yld i _ H2 B2 v H3 F2.ph.2 F2.bh hx hy (A.and B1) σ2 (mk s2) F2
      refine hg s2 (A.and B1) σ2 H3 B3 v xs[i] F3 k3 _ fun σ4 F4 _ _ => ?_
      unfold forL at e2
      cases q : f xs[i] s2 with
      | none => rw [q] at e2; cases e2
      | some st =>
        rw [q] at e2
        refine hb (A.and B1) _ xs[i] s2 st ⟨rfl, rfl⟩ q ⟨fun s5 z => ?_, fun s5 z => ?_, fun s5 z => ?_, fun b z => ?_⟩ σ4 H3 B3 F4
        · subst z
          exact fun σ5 H5 B5 F5 => ⟨s5, ⟨B5, F5⟩, e2⟩
        · subst z
          exact fun σ5 H5 B5 F5 => ⟨s5, ⟨B5, F5⟩, e2⟩
        · subst z
          exact fun σ5 H5 B5 F5 => hd s5 (Option.some.inj e2).symm σ5 H5 B5 F5.unand
        · subst z
          exact fun H5 B5 v5 P5 k5 => hr b (Option.some.inj e2).symm H5 B5 v5 P5.unand k5
    · left
      have hil : i = xs.length := by omega
      subst hil
      refine ⟨Y.stop H2 B2 F2.ph.2 F2.bh, ?_⟩
      rw [List.drop_length] at e2
      unfold forL at e2
      exact hd s2 (Option.some.inj e2).symm σ2 H2 B2 F2.unand
theorem Frm.hidset {A : Amb} {σ : L2.St} {H B : Hp} {Γ : List Sl} {p : Addr} {o o' : HO} (F : Frm (A.add p o) σ H B Γ) (h0 : A.H0 p = none) (mh : MH A) (sub : Same A.B0 A.H0) (ho : szO o') : Frm (A.add p o') σ (upd H p o') B Γ := by
  have hBp : B p = none := F.hidB h0 sub
  have hm : ¬ A.m p := fun m => mh.al p m h0
  have nT : ¬ isTab p := fun m => mh.tb p m h0
  refine F.move ⟨fun b u e => ?_, F.b0, fun b u m nt e => ?_, fun b n z => ?_, fun b n => ?_, fun b u e => ?_, ⟨fun b m => ?_, mh.nt, fun b m => ?_⟩, F.ph, F.sz.upd ho, F.tb.upd nT⟩ (Same.refl _) fun q h => ⟨h.1, ?_, fun u hu => by rw [upd_ne (h.ne hm)]; exact hu⟩
  · have hb : b ≠ p := fun z => by rw [z, hBp] at e; cases e
    rw [upd_ne hb]; exact F.bh b u e
  · by_cases hb : b = p
    · subst hb
      have e' : upd A.H0 b o' b = some u := e
      rw [upd_same] at e'; rw [upd_same]; exact e'
    · have e' : upd A.H0 p o' b = some u := e
      rw [upd_ne hb] at e'; rw [upd_ne hb]
      exact F.keep b u m nt (by show upd A.H0 p o b = some u; rw [upd_ne hb]; exact e')
  · by_cases hb : b = p
    · rw [hb]; exact hBp
    · have n' : upd A.H0 p o' b ≠ none := n
      rw [upd_ne hb] at n'
      exact F.out b (by show upd A.H0 p o b ≠ none; rw [upd_ne hb]; exact n') z
  · by_cases hb : b = p
    · subst hb; rw [upd_same]; simp
    · have n' : upd A.H0 p o' b ≠ none := n
      rw [upd_ne hb] at n'; rw [upd_ne hb]
      exact F.alive b (by show upd A.H0 p o b ≠ none; rw [upd_ne hb]; exact n')
  · have hb : b ≠ p := fun z => by rw [z] at e; exact absurd (sub p u e) (by rw [h0]; simp)
    show upd A.H0 p o' b = some u
    rw [upd_ne hb]; exact sub b u e
  · have hb : b ≠ p := fun z => by rw [z] at m; exact hm m
    show upd A.H0 p o' b ≠ none
    rw [upd_ne hb]
    exact mh.al b m
  · by_cases hb : b = p
    · exact absurd (hb ▸ m) nT
    · show upd A.H0 p o' b ≠ none
      rw [upd_ne hb]; exact mh.tb b m
  · have hq := h.ne hm
    rcases h.2.2 with m | m
    · left
      have m' : upd A.H0 p o q = none := m
      rw [upd_ne hq] at m'
      show upd A.H0 p o' q = none
      rw [upd_ne hq]; exact m'
    · exact .inr m
def wipeG (Γ : List Sl) : List Nat → List Sl
  | [] => Γ
  | v :: vs => (wipeG Γ vs).set v .no
theorem Frm.wipe {A : Amb} {σ : L2.St} {H B : Hp} {Γ : List Sl} (F : Frm A σ H B Γ) : ∀ vs : List Nat, Frm A (L2.wipe σ vs) H B (wipeG Γ vs)
  | [] => F
  | v :: vs => (F.wipe vs).put (σ' := (L2.wipe σ vs).set v none) (List.length_set) (fun j ne => by rw [List.getElem?_set_ne ne]) fun _ _ _ => trivial
theorem wipe_get (σ : L2.St) : ∀ (vs : List Nat) (k : Nat), (L2.wipe σ vs)[k]? = if k ∈ vs then (if k < σ.length then some none else none) else σ[k]?
  | [], k => by simp [L2.wipe]
  | v :: vs, k => by
    show ((L2.wipe σ vs).set v none)[k]? = _
    by_cases e : v = k
    · subst e
      rw [List.getElem?_set, if_pos rfl, if_pos (List.mem_cons_self), L2.wipe_length]
    · rw [List.getElem?_set_ne e, wipe_get σ vs k]
      have : (k ∈ v :: vs) ↔ k ∈ vs := by
        rw [List.mem_cons]; exact ⟨fun h => h.resolve_left fun z => e z.symm, .inr⟩
      simp only [this]
theorem wipe_same {σ σ' : L2.St} {vs : List Nat} (hl : σ'.length = σ.length) (h : ∀ k, k ∉ vs → σ'[k]? = σ[k]?) : L2.wipe σ' vs = L2.wipe σ vs := by
  apply List.ext_getElem?
  intro k
  rw [wipe_get, wipe_get, hl]
  by_cases hk : k ∈ vs
  · rw [if_pos hk, if_pos hk]
  · rw [if_neg hk, if_neg hk]; exact h k hk
theorem wipe_wipe {σ σ' : L2.St} {vs : List Nat} (hl : σ'.length = (L2.wipe σ vs).length) (h : ∀ k, k ∉ vs → σ'[k]? = (L2.wipe σ vs)[k]?) : L2.wipe σ' vs = L2.wipe σ vs :=
  wipe_same (by rw [hl, L2.wipe_length]) fun k hk => by rw [h k hk, wipe_get, if_neg hk]
theorem Frm.unwipe {A : Amb} {σ : L2.St} {H B : Hp} {Γ : List Sl} {vs : List Nat} (F : Frm A (L2.wipe σ vs) H B Γ) (hv : wipeG Γ vs = Γ) : Frm A σ H B Γ := by
  have no : ∀ (ws : List Nat) (k : Nat) (s : Sl), k ∈ ws → (wipeG Γ ws)[k]? = some s → s = .no := by
    intro ws
    induction ws with
    | nil => intro k s hk; cases hk
    | cons v ws ih =>
      intro k s hk e
      unfold wipeG at e
      rcases getset e with ⟨rfl, rfl, _⟩ | ⟨ne, e⟩
      · rfl
      · exact ih k s ((List.mem_cons.mp hk).resolve_left fun z => ne z.symm) e
  obtain ⟨ow, W⟩ := F.own
  refine ⟨F.post, by rw [← F.len, L2.wipe_length], ow, fun i s e => ?_, W.dj, W.ht⟩
  by_cases hi : i ∈ vs
  · have := no vs i s hi (by rw [hv]; exact e)
    subst this; trivial
  · exact slok_shift (W.so i s e) (by rw [wipe_get, if_neg hi])
theorem ec_lcS {wi : TI} {g : TG} {tt : TT} {te : TE} {ws vs : List Nat} (f : α → ς → Option (Option β × ς)) (mk : ς → List Sl) {Γf : α → ς → List Sl} {s0 s1 : ς} {ys : List β}
    (hi : ItX r wi Γ Γ1 xs) (e : compS f xs s0 = some (ys, s1)) (h0 : ∀ A' : Amb, Nx A' (Fin A' (mk s0)) Γ1) (hv : ∀ s, wipeG (mk s) vs = mk s) (hg : ∀ s, TgX g r ws (mk s) (fun x => Γf x s)) (hw : ∀ k, k ∈ ws → k ∈ vs) (hm : ∀ x s, wipeG (Γf x s) vs = mk s)
    (hb : ∀ (x : α) (s : ς) (o : Option β) (s' : ς), f x s = some (o, s') → ∃ s2, EvT tt (Γf x s) (Γf x s2) o.isSome ∧ (∀ y, o = some y → EvX rb te (Γf x s2) (Γf x s') y) ∧ (o = none → s2 = s')) :
    EvC (cLst rb) (tLc wi g tt te vs) Γ (mk s1) ys := fun A σ H B F Q q => by
  refine hi A σ H B F _ fun J H1 B1 F1 sB1 Y => fun D hD => ?_
  obtain ⟨B2, F2⟩ := h0 (A.and B1) σ H1 B1 (F1.and (Same.refl _))
  have h0D : A.H0 D = none := F1.H0none hD
  have hmD : ¬ A.m D := fun m => F.mh.al D m h0D
  have F3 := F2.wipe vs
  rw [hv] at F3
  have F4 := F3.fresh (o := .lst []) hD (Nat.zero_le _)
  refine ⟨fun i m H => m = xs.length - i ∧ i ≤ xs.length ∧ ∃ B s acc dn rest, Frm ((A.and B1).add D (.lst acc)) (L2.wipe σ vs) H B (mk s) ∧ Paired (rb.rel B) acc dn ∧ acc.length ≤ i ∧ compS f (xs.drop i) s = some (rest, s1) ∧ dn ++ rest = ys, ?_, ?_⟩
  · exact ⟨_, rfl, Nat.zero_le _, B2, s0, [], [], ys, F4, .nil, Nat.le_refl _, by rw [List.drop_zero]; exact e, rfl⟩
  · rintro i m H2 ⟨rfl, hil, B3, s2, acc, dn, rest, F5, pa, hacc, e2, ed⟩
    by_cases hlt : i < xs.length
    · right
      have hx : xs[i]? = some xs[i] := List.getElem?_eq_getElem hlt
      rw [List.drop_eq_getElem_cons hlt] at e2
      refine ⟨Y.go i H2 B3 F5.ph.2 F5.bh hlt, fun H3 => ∃ B s acc dn rest, Frm ((A.and B1).add D (.lst acc)) (L2.wipe σ vs) H3 B (mk s) ∧ Paired (rb.rel B) acc dn ∧ acc.length ≤ i + 1 ∧ compS f (xs.drop (i + 1)) s = some (rest, s1) ∧ dn ++ rest = ys, fun H3 h3 => ⟨_, by omega, rfl, by omega, h3⟩, fun v H3 hy => ?_⟩
      obtain ⟨B4, F6, sB4, k4⟩ := Y.yld i _ H2 B3 v H3 F5.ph.2 F5.bh hx hy _ _ _ F5
      refine hg s2 _ _ H3 B4 v xs[i] F6 k4 _ fun σ4 F7 hl4 d4 => ⟨wipe_wipe hl4 fun k hk => d4 k fun z => hk (hw k z), ?_⟩
      have hwp := wipe_wipe hl4 fun k hk => d4 k fun z => hk (hw k z)
      unfold compS at e2
      cases q2 : f xs[i] s2 with
      | none => rw [q2] at e2; cases e2
      | some os =>
        obtain ⟨o, s'⟩ := os
        rw [q2] at e2
        obtain ⟨s3, hT, hE, hN⟩ := hb _ _ _ _ q2
        refine hT _ _ _ _ F7 _ fun H5 B5 F8 sB5 => ?_
        cases o with
        | none =>
          have F9 := F8.wipe vs
          rw [hm, hwp] at F9
          exact ⟨B5, s3, acc, dn, rest, F9, Paired.monoR (sB4.trans sB5) pa, by omega, by rw [hN rfl]; exact e2, ed⟩
        | some y =>
          refine hE y rfl _ _ _ _ F8 _ fun u H6 B6 F9 sB6 k6 => ?_
          have hid := F9.hid (A := A.and B1) h0D F.mh.and
          refine ⟨acc, hid, Nat.lt_of_lt_of_le (Nat.lt_of_le_of_lt hacc hlt) Y.len, ?_⟩
          have F10 := F9.wipe vs
          rw [hm, hwp] at F10
          have hlen : (acc ++ [u]).length ≤ sizeLine := by rw [List.length_append, List.length_singleton]; exact Nat.le_trans (by omega) Y.len
          have F11 := F10.hidset (A := A.and B1) (o' := .lst (acc ++ [u])) h0D F.mh.and F.sub hlen
          dsimp only at e2
          cases q3 : compS f (xs.drop (i + 1)) s' with
          | none => rw [q3] at e2; cases e2
          | some z =>
            obtain ⟨r3, s4⟩ := z
            rw [q3] at e2
            cases e2
            exact ⟨B6, s', acc ++ [u], dn ++ [y], r3, F11, Paired.app (Paired.monoR ((sB4.trans sB5).trans sB6) pa) (.cons k6 .nil), by rw [List.length_append, List.length_singleton]; omega, q3, by rw [← ed, List.append_assoc]; rfl⟩
    · left
      have hil : i = xs.length := by omega
      subst hil
      refine ⟨Y.stop H2 B3 F5.ph.2 F5.bh, ?_⟩
      rw [List.drop_length] at e2
      unfold compS at e2
      cases e2
      have F6 := F5.unwipe (hv _)
      have F7 : Frm ((A.add D (.lst acc)).and B1) σ H2 B3 _ := F6
      refine q D (.lst acc) H2 B3 F7.unand h0D (sB1.trans F5.ph.2) ⟨acc, rfl, ?_⟩
      rw [List.append_nil] at ed
      rw [← ed]; exact pa
theorem compS_L (f : α → Option (Option β)) : ∀ {xs : List α} {ys : List β}, compL f xs = some ys → compS (fun x (_ : Unit) => (f x).map fun o => (o, ())) xs () = some (ys, ())
  | [], ys, h => by unfold compL at h; cases h; rfl
  | x :: xs, ys, h => by
    unfold compL at h
    unfold compS
    cases q : f x with
    | none => rw [q] at h; cases h
    | some o =>
      rw [q] at h
      cases o with
      | none => exact compS_L f h
      | some y =>
        cases q2 : compL f xs with
        | none => rw [q2] at h; cases h
        | some zs =>
          rw [q2] at h
          cases h
          have := compS_L f q2
          dsimp only [Option.map_some]
          rw [this]
theorem ec_lc {wi : TI} {g : TG} {tt : TT} {te : TE} {ws vs : List Nat} (f : α → Option (Option β)) {Γf : α → List Sl} {ys : List β}
    (hi : ItX r wi Γ Γ1 xs) (e : compL f xs = some ys) (hg : TgX g r ws (wipeG Γ1 vs) Γf) (hw : ∀ k, k ∈ ws → k ∈ vs) (hv : wipeG Γ1 vs = Γ1) (hm : ∀ x, wipeG (Γf x) vs = Γ1)
    (hb : ∀ (x : α) (o : Option β), f x = some o → EvT tt (Γf x) (Γf x) o.isSome ∧ (∀ y, o = some y → EvX rb te (Γf x) (Γf x) y)) : EvC (cLst rb) (tLc wi g tt te vs) Γ Γ1 ys :=
  ec_lcS (ς := Unit) _ (fun _ => Γ1) (Γf := fun x _ => Γf x) hi (compS_L f e) (fun A' => nx_fin) (fun _ => hv) (fun _ => by rw [hv] at hg; exact hg) hw (fun x _ => hm x) fun x s o s' h => by
    cases q : f x with
    | none => simp [q] at h
    | some o' =>
      simp [q] at h
      subst h
      exact ⟨s, (hb x o' q).1, fun y hy => (hb x o' q).2 y hy, fun _ => rfl⟩
theorem et_yes {Γ : List Sl} : EvT tYes Γ Γ true := fun A σ H B F Q q => q H B F (Same.refl _)
end
end G
set_option maxHeartbeats 4000000
namespace G
variable [TabL]
open PySem PySem.Spec PyProof.Rows L2
section
variable {α β γ ρ ς : Type} {r ra : Rp α} {rb : Rp β} {c : Cl α} {te ta tb : TE} {Γ Γ1 Γ2 Γ3 : List Sl} {xs : List α} {K : PySem.W.Frag} {a : α} {b : β} {w : Rw α} {p : Addr} {i : Nat}
def rScr (K : PySem.W.Frag) : Rp (List Int) := ⟨fun H v ns => ∃ a, v = .ref a ∧ SqL K H a (ns.map V.int), fun s ⟨a, e, h⟩ => ⟨a, e, s.seq h⟩⟩
def pyMod (i j : Int) : Option Int := if 0 < j then some (i % j) else none
def pyDiv (i j : Int) : Option Int := if 0 < j ∧ j.natAbs.log2 < 9000 then some (i / j) else none
def pyPow (i j : Int) : Option Int := if 0 ≤ j ∧ j ≤ 1000000 ∧ i.natAbs < 2 ^ 64 then some (i ^ j.toNat) else none
def pyLenS (z : Str) : Option Int := if z.length ≤ sizeLine then some (z.length : Int) else none
def pyIxS (z : Str) (i : Int) : Option Str := if z.length ≤ sizeLine then (atI z.cps.toList i).map fun c => (⟨#[c]⟩ : Str) else none
def pyInSg (x z : Str) : Option Bool := match x.cps.toList with
  | [c] => some (decide (c ∈ z.cps.toList))
  | _ => none
theorem ev_modP {i j k : Int} (ha : EvX rInt ta Γ Γ1 i) (hb : EvX rInt tb Γ1 Γ2 j) (e : pyMod i j = some k) : EvX rInt (tOp (rI (fun _ j => 0 < j) fun i j => .int (i % j)) ta tb) Γ Γ2 k := by
  unfold pyMod at e; split at e <;> cases e
  exact ev_mod ha hb (by assumption)
theorem ev_divP {i j k : Int} (ha : EvX rInt ta Γ Γ1 i) (hb : EvX rInt tb Γ1 Γ2 j) (e : pyDiv i j = some k) : EvX rInt (tOp (rI CDivW fun i j => .int (i / j)) ta tb) Γ Γ2 k := by
  unfold pyDiv at e; split at e <;> cases e
  exact ev_divW ha hb (by assumption)
theorem ev_powP {i j k : Int} (ha : EvX rInt ta Γ Γ1 i) (hb : EvX rInt tb Γ1 Γ2 j) (e : pyPow i j = some k) : EvX rInt (tOp (rI CPow fun i j => .int (i ^ j.toNat)) ta tb) Γ Γ2 k := by
  unfold pyPow at e; split at e <;> cases e
  exact ev_pow ha hb (by assumption)
theorem ev_ixS {z c : Str} {i : Int} (ha : EvX rStr ta Γ Γ1 z) (hb : EvX rInt tb Γ1 Γ2 i) (e : pyIxS z i = some c) : EvX rStr (tOp rIxS ta tb) Γ Γ2 c := by
  unfold pyIxS at e; split at e
  · rename_i hz
    cases q : atI z.cps.toList i with
    | none => rw [q] at e; cases e
    | some n =>
      rw [q] at e; cases e
      exact ev_op ha hb fun H B u v _ ku kv Q k => ⟨z, i, n, ku, kv, hz, q, k _ rfl⟩
  · cases e
theorem sg_of {x : Str} {c : Nat} (h : x.cps.toList = [c]) : x = ⟨#[c]⟩ := by
  cases x with
  | mk cps => simp only at h; congr 1; exact Array.toList_inj.mp h
theorem ev_inSg {x z : Str} {b : Bool} (ha : EvX rStr ta Γ Γ1 x) (hb : EvX rStr tb Γ1 Γ2 z) (e : pyInSg x z = some b) : EvX rBool (tOp (fun x y H Q => ∃ (c : Nat) (z : Str), x = .str ⟨#[c]⟩ ∧ y = .str z ∧ Q (.bl (decide (c ∈ z.cps.toList))) H) ta tb) Γ Γ2 b := by
  unfold pyInSg at e; split at e
  · rename_i c hc
    cases e
    exact ev_op ha hb fun H B u v _ ku kv Q k => ⟨c, z, by rw [ku, sg_of hc], kv, k _ rfl⟩
  · cases e
def EvO (t : TO) (Γ Γ' : List Sl) (o : Option Int) : Prop := ∀ (A : Amb) (σ : L2.St) (H B : Hp), Frm A σ H B Γ → ∀ Q : Option Int → Hp → Prop, (∀ H' B', Frm A σ H' B' Γ' → Same B B' → Q o H') → t σ H Q
theorem eo_none : EvO tNoPart Γ Γ none := fun A σ H B F Q q => q H B F (Same.refl _)
theorem eo_some {j : Int} (h : EvX rInt te Γ Γ1 j) : EvO (tPart te) Γ Γ1 (some j) := fun A σ H B F Q q => h A σ H B F _ fun v H' B' F' s k => ⟨j, k, q H' B' F' s⟩
def cut {α : Type} (xs : List α) (lo hi : Option Int) : List α := (xs.drop (HT.sIx xs.length 0 lo)).take (HT.sIx xs.length xs.length hi - HT.sIx xs.length 0 lo)
theorem paired_cut {F : V → α → Prop} {vs : List V} {lo hi : Option Int} (h : Paired F vs xs) : Paired F (cutV vs lo hi) (cut xs lo hi) := by
  unfold cutV cut
  rw [Paired.len h]
  exact Paired.takeN _ (Paired.dropN _ h)
theorem cut_len (lo hi : Option Int) (vs : List V) : (cutV vs lo hi).length ≤ vs.length := by
  unfold cutV
  rw [List.length_take, List.length_drop]; omega
theorem ec_slL {lo hi : Option Int} {tl th : TO} (h : EvX (rLst r) te Γ Γ1 xs) (hl : EvO tl Γ1 Γ2 lo) (hh : EvO th Γ2 Γ3 hi) : EvC (cLst r) (L2.tSl (rSlL K) te tl th) Γ Γ3 (cut xs lo hi) :=
  fun A σ H B F Q q => h A σ H B F _ fun v H1 B1 F1 s1 k1 => hl A σ H1 B1 F1 _ fun H2 B2 F2 s2 => hh A σ H2 B2 F2 _ fun H3 B3 F3 s3 => by
    obtain ⟨a, vs, rfl, ha, pv⟩ := ob_lst F3.bh ((rLst r).mono (s2.trans s3) k1)
    exact ⟨a, vs, rfl, SqL.of ha, fun l hl => ec_fresh (c := cLst r) (o := .lst (cutV vs lo hi)) F3 hl (Nat.le_trans (cut_len lo hi vs) (F3.sz _ _ ha)) (fun p o H2 B2 F2 n2 s4 k2 => q p o H2 B2 F2 n2 (((s1.trans s2).trans s3).trans s4) k2) ⟨_, rfl, paired_cut pv⟩⟩
theorem ev_B1 {R : List V → Hp → VK → Prop} (h : EvX ra ta Γ Γ1 a) (k : ∀ (H B : Hp) (u : V), Sz H → Same B H → ra.rel B u a → ∀ Q : VK, (∀ o, rb.rel B o b → Q o H) → R [u] H Q) : EvX rb (tCB R (tCons ta tNil)) Γ Γ1 b := fun A σ H B F Q q =>
  h A σ H B F _ fun v H1 B1 F1 s1 k1 => k H1 B1 v F1.sz F1.bh k1 Q fun o ko => q o H1 B1 F1 s1 ko
theorem ec_B1 {R : List V → Hp → VK → Prop} {cb : Cl β} (h : EvX ra ta Γ Γ1 a) (k : ∀ (H B : Hp) (u : V), Sz H → Same B H → ra.rel B u a → ∀ Q : VK, (∀ p o, H p = none → szO o → cb.ok B o b → Q (.ref p) (upd H p o)) → R [u] H Q) : EvC cb (tCB R (tCons ta tNil)) Γ Γ1 b := fun A σ H B F Q q =>
  h A σ H B F _ fun v H1 B1 F1 s1 k1 => k H1 B1 v F1.sz F1.bh k1 Q fun p o hp ho ko => q p o _ B1 (F1.fresh hp ho) (F1.H0none hp) s1 ko
abbrev RLen (K : PySem.W.Frag) : List V → Hp → VK → Prop := fun xs H Q => ∃ p ys, xs = [.ref p] ∧ (SqL K H p ys ∨ SqT K H p ys) ∧ Q (.int ys.length) H
theorem ev_lenL (h : EvX (rLst r) ta Γ Γ1 xs) : EvX rInt (tCB (RLen K) (tCons ta tNil)) Γ Γ1 (xs.length : Int) := ev_B1 h fun H B u _ s k Q q => by
  obtain ⟨p, vs, rfl, hp, kv⟩ := ob_lst s k
  exact ⟨p, vs, rfl, .inl (SqL.of hp), q _ (by rw [Paired.len kv]; rfl)⟩
theorem ev_lenT (h : EvX (rTpl r) ta Γ Γ1 xs) : EvX rInt (tCB (RLen K) (tCons ta tNil)) Γ Γ1 (xs.length : Int) := ev_B1 h fun H B u _ s k Q q => by
  obtain ⟨p, vs, rfl, hp, kv⟩ := ob_tpl s k
  exact ⟨p, vs, rfl, .inr (SqT.of hp), q _ (by rw [Paired.len kv]; rfl)⟩
theorem ev_lenC {ns : List Int} (h : EvX (rScr K) ta Γ Γ1 ns) : EvX rInt (tCB (RLen K) (tCons ta tNil)) Γ Γ1 (ns.length : Int) := ev_B1 h fun H B u _ s k Q q => by
  obtain ⟨p, rfl, hp⟩ := k
  exact ⟨p, _, rfl, .inl (s.seq hp), q _ (by rw [List.length_map]; rfl)⟩
theorem ev_lenS {z : Str} {n : Int} (h : EvX rStr ta Γ Γ1 z) (e : pyLenS z = some n) : EvX rInt (tCB (fun xs H Q => ∃ z, xs = [.str z] ∧ z.length ≤ sizeLine ∧ Q (.int z.length) H) (tCons ta tNil)) Γ Γ1 n := by
  unfold pyLenS at e; split at e <;> cases e
  exact ev_B1 h fun H B u _ s k Q q => ⟨z, by rw [k], by assumption, q _ rfl⟩
theorem ev_int1 {j : Int} (h : EvX rInt ta Γ Γ1 j) : EvX rInt (tCB (fun xs H Q => (∃ i, xs = [.int i] ∧ Q (.int i) H) ∨ ∃ k, xs = [.bl k] ∧ Q (.int (if k then 1 else 0)) H) (tCons ta tNil)) Γ Γ1 j := ev_B1 h fun H B u _ s k Q q => .inl ⟨j, by rw [k], q _ rfl⟩
abbrev RList (K : PySem.W.Frag) : List V → Hp → VK → Prop := fun xs H Q => ∃ p ys, xs = [.ref p] ∧ (SqL K H p ys ∨ SqT K H p ys) ∧ ∀ l, H l = none → Q (.ref l) (upd H l (.lst ys))
theorem ec_listL (h : EvX (rLst r) ta Γ Γ1 xs) : EvC (cLst r) (tCB (RList K) (tCons ta tNil)) Γ Γ1 xs := ec_B1 h fun H B u z s k Q q => by
  obtain ⟨p, vs, rfl, hp, kv⟩ := ob_lst s k
  exact ⟨p, vs, rfl, .inl (SqL.of hp), fun l hl => q l _ hl (show vs.length ≤ sizeLine from z p _ hp) ⟨vs, rfl, kv⟩⟩
theorem paired_ints : ∀ (ns : List Int) (B : Hp), Paired (rInt.rel B) (ns.map V.int) ns
  | [], _ => .nil
  | n :: ns, B => .cons rfl (paired_ints ns B)
def pyScr (ns : List Int) : Option (List Int) := if ns.length ≤ 100000 then some ns else none
theorem ec_listC {ns l : List Int} (h : EvX (rScr K) ta Γ Γ1 ns) (e : pyScr ns = some l) : EvC (cLst rInt) (tCB (RList K) (tCons ta tNil)) Γ Γ1 l := by
  unfold pyScr at e; split at e <;> cases e
  rename_i hl
  exact ec_B1 h fun H B u z s k Q q => by
    obtain ⟨p, rfl, hp⟩ := k
    exact ⟨p, _, rfl, .inl (s.seq hp), fun l hl => q l _ hl (by show (ns.map V.int).length ≤ _; rw [List.length_map]; exact Nat.le_trans (by assumption) (by decide)) ⟨_, rfl, paired_ints ns B⟩⟩
theorem ev_ixC {ns : List Int} {j v : Int} (ha : EvX (rScr K) ta Γ Γ1 ns) (hb : EvX rInt tb Γ1 Γ2 j) (e : atI ns j = some v) : EvX rInt (tOp (rIxL K) ta tb) Γ Γ2 v :=
  ev_op ha hb fun H B u w s ku kw Q q => by
    obtain ⟨p, rfl, hp⟩ := ku
    obtain ⟨o, ho, ko⟩ := atI_rel (paired_ints ns B) e
    exact ⟨p, _, j, o, rfl, kw, s.seq hp, ho, q o ko⟩
theorem ec_tupL (h : EvX (rLst r) ta Γ Γ1 xs) : EvC (cTpl r) (tCB (fun xs H Q => ∃ p ys, xs = [.ref p] ∧ ((SqL K H p ys ∧ ∀ l, H l = none → Q (.ref l) (upd H l (.tup ys))) ∨ (SqT K H p ys ∧ Q (.ref p) H))) (tCons ta tNil)) Γ Γ1 xs := ec_B1 h fun H B u z s k Q q => by
  obtain ⟨p, vs, rfl, hp, kv⟩ := ob_lst s k
  exact ⟨p, vs, rfl, .inl ⟨SqL.of hp, fun l hl => q l _ hl (show vs.length ≤ sizeLine from z p _ hp) ⟨vs, rfl, kv⟩⟩⟩
theorem ev_allL {bs : List Bool} (h : EvX (rLst rBool) ta Γ Γ1 bs) : EvX rBool (tCB (rAll K) (tCons ta tNil)) Γ Γ1 (bs.all id) := ev_B1 h fun H B u _ s k Q q => by
  obtain ⟨p, vs, rfl, hp, kv⟩ := ob_lst s k
  exact ⟨p, bs, rfl, by rw [← Paired.mapEq (fun a b h => h) kv]; exact SqL.of hp, q _ rfl⟩
theorem cel_at {A : Amb} {σ : L2.St} {H B : Hp} (F : Frm A σ H B Γ) (h : Γ[i]? = some (.cel p c a)) : σ[i]? = some (some (V.ref p)) ∧ ∃ o, H p = some o ∧ c.ok B o a := by
  obtain ⟨e, _, _, o, ho, k⟩ := F.sl i _ h
  exact ⟨e, o, ho, k⟩
theorem ev_celR {k : Nat} {f : α → β} (h : Γ[i]? = some (.cel p (cHls w) a)) (g : Acc w k rb f) : EvX rb (tOp (rIxL K) (tVar i) (tC (.int (k : Int)))) Γ Γ (f a) := fun A σ H B F Q q => by
  obtain ⟨e, o, ho, vs, rfl, kw⟩ := cel_at F h
  obtain ⟨u, hu, ku⟩ := g B vs a kw
  exact ⟨_, e, p, vs, (k : Int), u, rfl, rfl, SqL.of ho, atI_nat hu, q u H B F (Same.refl _) ku⟩
def Upd {α β : Type} (w : Rw α) (k : Nat) (r : Rp β) (f : α → β → α) : Prop := ∀ B vs a v b, w.rel B vs a → r.rel B v b → k < vs.length ∧ w.rel B (vs.set k v) (f a b)
theorem upd1 : Upd (w1 ra) 0 ra (fun _ b => b) := fun B vs a v b ⟨u, e, _⟩ k => ⟨by rw [e]; exact Nat.zero_lt_one, v, by rw [e]; rfl, k⟩
theorem upd0 {w : Rw β} : Upd (wC ra w) 0 ra (fun a b => (b, a.2)) := fun B vs a v b ⟨u, t, e, _, q⟩ k => ⟨by rw [e, List.length_cons]; omega, v, t, by rw [e]; rfl, k, q⟩
theorem updS {w : Rw β} {rc : Rp γ} {k : Nat} {f : β → γ → β} (h : Upd w k rc f) : Upd (wC ra w) (k + 1) rc (fun a b => (a.1, f a.2 b)) := fun B vs a v b ⟨u, t, e, q1, q2⟩ kv => by
  obtain ⟨h1, h2⟩ := h B t a.2 v b q2 kv
  exact ⟨by rw [e, List.length_cons]; omega, u, t.set k v, by rw [e]; rfl, q1, h2⟩
theorem nx_setR {A : Amb} {D : Ends} {k : Nat} {f : α → β → α} (h : EvX rb te Γ Γ1 b) (hi : Γ1[i]? = some (.cel p (cHls w) a)) (g : Upd w k rb f) (n : Nx A D.nx (Γ1.set i (.cel p (cHls w) (f a b)))) : Nx A (tAsg te (gSub (tVar i) (tC (.int (k : Int))) rSetL) D) Γ := fun σ H B F =>
  h A σ H B F _ fun v H1 B1 F1 s1 k1 => by
    obtain ⟨e, o, ho, vs, rfl, kw⟩ := cel_at F1 hi
    obtain ⟨hk, kw'⟩ := g B1 vs a v b kw k1
    refine ⟨_, e, p, vs, (k : Int), k, rfl, rfl, ho, ?_, ?_⟩
    · unfold ixN; rw [if_pos (by omega), if_pos (by omega)]; simp
    · exact n σ _ B1 (F1.write hi (c' := cHls w) (o' := .lst (vs.set k v)) ⟨_, rfl, kw'⟩ (by show (vs.set k v).length ≤ _; rw [List.length_set]; exact F1.sz _ _ ho))
end
end G
set_option maxHeartbeats 4000000
namespace G
variable [TabL]
open PySem PySem.Spec PyProof.Rows L2
section
variable {α β γ ρ ς τ : Type}
def bindO (e : Option α) (k : α → Option β) : Option β := match e with
  | none => none
  | some x => k x
def letO (e : α) (k : α → Option β) : Option β := k e
def iteO (c : Bool) (x y : Option β) : Option β := match c with
  | true => x
  | false => y
def stepO (R : Step ρ ς) (k : ς → Option ρ) : Option ρ := match R with
  | .ret b => some b
  | .nx s => k s
  | .brk _ => none
def stepL (R : Step ρ ς) (k : ς → Option (Step ρ τ)) : Option (Step ρ τ) := match R with
  | .ret b => some (.ret b)
  | .nx s => k s
  | .brk _ => none
theorem bindO_some {e : Option α} {k : α → Option β} {b : β} (h : bindO e k = some b) : ∃ x, e = some x ∧ k x = some b := by
  cases e with
  | none => cases h
  | some x => exact ⟨x, rfl, h⟩
theorem letO_some {e : α} {k : α → Option β} {b : β} (h : letO e k = some b) : ∃ x, x = e ∧ k x = some b := ⟨e, rfl, h⟩
theorem iteO_t {c : Bool} {x y : Option β} {b : Option β} (hc : c = true) (h : iteO c x y = b) : x = b := by subst hc; exact h
theorem iteO_f {c : Bool} {x y : Option β} {b : Option β} (hc : c = false) (h : iteO c x y = b) : y = b := by subst hc; exact h
theorem stepO_ret {b b' : ρ} {k : ς → Option ρ} (h : stepO (.ret b) k = some b') : b = b' := Option.some.inj h
theorem stepO_nx {s : ς} {k : ς → Option ρ} {b : Option ρ} (h : stepO (.nx s) k = b) : k s = b := h
theorem stepL_ret {b : ρ} {k : ς → Option (Step ρ τ)} {st : Step ρ τ} (h : stepL (.ret b) k = some st) : st = .ret b := (Option.some.inj h).symm
theorem stepL_nx {s : ς} {k : ς → Option (Step ρ τ)} {b : Option (Step ρ τ)} (h : stepL (.nx s) k = b) : k s = b := h
@[simp] theorem bindO_s (x : α) (k : α → Option β) : bindO (some x) k = k x := rfl
@[simp] theorem bindO_n (k : α → Option β) : bindO none k = none := rfl
@[simp] theorem letO_s (x : α) (k : α → Option β) : letO x k = k x := rfl
@[simp] theorem iteO_T (x y : Option β) : iteO true x y = x := rfl
@[simp] theorem iteO_F (x y : Option β) : iteO false x y = y := rfl
@[simp] theorem stepO_N (s : ς) (k : ς → Option ρ) : stepO (.nx s) k = k s := rfl
@[simp] theorem stepO_R (b : ρ) (k : ς → Option ρ) : stepO (.ret b) k = some b := rfl
@[simp] theorem stepL_N (s : ς) (k : ς → Option (Step ρ τ)) : stepL (.nx s) k = k s := rfl
@[simp] theorem stepL_R (b : ρ) (k : ς → Option (Step ρ τ)) : stepL (.ret b) k = some (.ret b) := rfl
end
section
variable {α β γ ρ ς : Type} {r : Rp α} {rb : Rp β} {c : Cl α} {te ta : TE} {tt : TT} {Γ Γ1 : List Sl} {a a' : α} {b b' : Bool} {A : Amb} {P : L2.St → Hp → Prop} {D : Ends} {i : Nat} {p : Addr} {K : PySem.W.Frag} {xs : List α}
theorem et_to (h : EvT tt Γ Γ1 b) (e : b = b') : EvT tt Γ Γ1 b' := e ▸ h
theorem ec_to (h : EvC c te Γ Γ1 a) (e : a = a') : EvC c te Γ Γ1 a' := e ▸ h
theorem nx_go {σ : L2.St} {H B : Hp} (F : Frm A σ H B Γ) (h : Nx A P Γ) : P σ H := h σ H B F
theorem nx_cel (h : Γ[i]? = some (.cel p c a)) (e : a = a') (k : Nx A P (Γ.set i (.cel p c a'))) : Nx A P Γ := by
  subst e
  have : Γ.set i (.cel p c a) = Γ := by
    obtain ⟨hi, q⟩ := List.getElem?_eq_some_iff.mp h
    rw [← q, List.set_getElem_self]
  rw [this] at k; exact k
end
def SpC {α β : Type} (w : Rw α) (c : Cl β) (m : α → Option β) : Sp := fun vs H Q _ => ∃ B a b, SzT H B ∧ Same B H ∧ w.rel B vs a ∧ m a = some b ∧ ∀ p o H' B', Post ((amb0 B H).add p o) H' B' → H p = none → c.ok B' o b → Q (.ref p) H'
section
variable {α β γ : Type} {w : Rw α} {c : Cl β} {A : Amb} {Γ Γ1 : List Sl} {te : TE} {D : Ends} {K : PySem.W.Frag}
def RtC (A : Amb) (c : Cl β) (b : β) (rt : VK) : Prop := ∀ p o H' B', Post (A.add p o) H' B' → A.H0 p = none → c.ok B' o b → rt (.ref p) H'
theorem nx_retC {a b : β} (h : EvC c te Γ Γ1 a) (e : some a = some b) (k : RtC A c b D.rt) : Nx A (tRet te D) Γ := fun σ H B F => h A σ H B F _ fun p o H' B' F' n _ q => k p o H' B' F'.post n (by cases e; exact q)
theorem Frm.afterC {σ : L2.St} {H H' B B' : Hp} {p : Addr} {o : HO} (F : Frm A σ H B Γ) (P : Post ((amb0 B H).add p o) H' B') (hp : H p = none) : Frm (A.add p o) σ H' B' Γ := by
  have kp : ∀ q u, ¬ isTab q → H q = some u → H' q = some u := fun q u nt e => P.keep q u (fun z => z) nt (by show upd H p o q = some u; rw [upd_ne (ne_of_none e hp)]; exact e)
  have al : ∀ q, H q ≠ none → H' q ≠ none := fun q n => P.alive q (by
    have hq : q ≠ p := fun z => n (by rw [z]; exact hp)
    show upd H p o q ≠ none
    rw [upd_ne hq]; exact n)
  have nT : ¬ isTab p := F.tb.ne hp
  have ou : ∀ q, H q ≠ none → B q = none → B' q = none := fun q n z => P.out q (by
    have hq : q ≠ p := fun e => n (by rw [e]; exact hp)
    show upd H p o q ≠ none; rw [upd_ne hq]; exact n) z
  have bb : Same B B' := P.b0
  have h0 := F.H0none hp
  refine F.move ⟨P.bh, fun q u e => bb q u (F.b0 q u e), fun q u m nt e => ?_, fun q n z => ?_, fun q n => ?_, fun q u e => ?_, ⟨fun q m => ?_, F.mh.nt, fun q m => ?_⟩, A.up _ _ bb F.ph, P.sz, P.tb⟩ bb fun q h => ⟨ou q h.2.1 h.1, ?_, fun u => kp q u (h.nt F.mh)⟩
  · by_cases hq : q = p
    · subst hq
      have e' : upd A.H0 q o q = some u := e
      rw [upd_same] at e'
      cases e'
      exact P.keep q o (fun z => z) nT upd_same
    · have e' : upd A.H0 p o q = some u := e
      rw [upd_ne hq] at e'
      exact kp q u nt (F.keep q u m nt e')
  · by_cases hq : q = p
    · subst hq
      refine P.out q (by show upd H q o q ≠ none; rw [upd_same]; simp) ?_
      show B q = none
      cases e : B q with
      | none => rfl
      | some u => have := F.bh q u e; rw [hp] at this; cases this
    · have n' : upd A.H0 p o q ≠ none := n
      rw [upd_ne hq] at n'
      exact ou q (F.alive q n') (F.out q n' z)
  · by_cases hq : q = p
    · subst hq
      rw [P.keep q o (fun z => z) nT upd_same]; simp
    · have n' : upd A.H0 p o q ≠ none := n
      rw [upd_ne hq] at n'
      exact al q (F.alive q n')
  · have hq : q ≠ p := fun z => by rw [z] at e; exact absurd (F.sub p u e) (by rw [h0]; simp)
    show upd A.H0 p o q = some u
    rw [upd_ne hq]; exact F.sub q u e
  · have := F.mh.al q m
    have hq : q ≠ p := fun z => this (by rw [z]; exact h0)
    show upd A.H0 p o q ≠ none
    rw [upd_ne hq]; exact this
  · have hq : q ≠ p := fun z => nT (by rw [← z]; exact m)
    show upd A.H0 p o q ≠ none
    rw [upd_ne hq]; exact F.mh.tb q m
  · have hq : q ≠ p := fun z => h.2.1 (by rw [z]; exact hp)
    rcases h.2.2 with m | m
    · exact .inl (by show upd A.H0 p o q = none; rw [upd_ne hq]; exact m)
    · exact .inr m
theorem ec_call {m : α → Option β} {a : α} {b : β} {E : XK} {ta : TA} (h : EvW w ta Γ Γ1 a) (e : m a = some b) : EvC c (tCall (SpC w c m) [] E ta) Γ Γ1 b := fun A σ H B F Q q => h A σ H B F _ fun vs H1 B1 F1 s1 k1 => by
  rw [List.append_nil]
  exact ⟨B1, a, b, F1.szt, F1.bh, k1, e, fun p o H2 B2 P hp k => q p o H2 B2 (F1.afterC P hp) (F1.H0none hp) (s1.trans P.b0) k⟩
end
theorem sz_of_hok {P : Program} {w : World} {H : Hp} {h : Heap} (x : HOk P w H h) : Sz H := fun p o e => by
  have k := x p o e
  cases o with
  | lst xs => exact k.1
  | tup xs => exact k.1
  | dK kvs => exact k.1
  | dT kvs => exact k.1
  | _ => trivial
theorem pss_sz {X : Cx} {st : List Stmt} {t : TS} (h : PSs X st t) : PSs X st (fun D σ H => Sz H → t D σ H) := ⟨fun pins s σ H D I q => h.run pins s σ H D I (q (sz_of_hok I.hok))⟩
def SpL {α β : Type} (w : Rw α) (r : Rp β) (m : α → Option β) : Sp := fun vs H Q _ => ∃ B a b, (Same B H ∧ TabOk H B) ∧ w.rel B vs a ∧ m a = some b ∧ Rt (amb0 B H) (psi r) b Q
end G
set_option maxHeartbeats 4000000
namespace G
variable [TabL]
open PySem PySem.Spec PyProof.Rows L2
section
variable {α β γ ρ ς : Type} {r ra : Rp α} {rb : Rp β} {c : Cl α} {cc : Cl γ} {w : Rw α} {te : TE} {tt : TT} {t t' u : TS} {D : Ends} {A : Amb} {Γ Γ1 Γ2 M : List Sl} {a : α} {b : β} {i : Nat} {K : PySem.W.Frag} {P : L2.St → Hp → Prop} {ψ : ρ → Hp → Hp → V → Prop} {p : Addr}
theorem sq_asg (h : EvX r te Γ Γ1 a) (k : Nx A (u D) (Γ1.set i (.imm r a))) : Nx A (tSeq (tAsg te (gName i)) u D) Γ := nx_asg (D := { D with nx := u D }) h k
theorem sq_asgC (h : EvC c te Γ Γ1 a) (k : ∀ p, ¬ A.m p → Nx A (u D) (Γ1.set i (.cel p c a))) : Nx A (tSeq (tAsg te (gName i)) u D) Γ := nx_asgC (D := { D with nx := u D }) h k
theorem sq_if {b : Bool} (h : EvT tt Γ Γ1 b) (h1 : b = true → Nx A (t { D with nx := u D }) Γ1) (h2 : b = false → Nx A (t' { D with nx := u D }) Γ1) : Nx A (tSeq (tIfS tt t t') u D) Γ := nx_if (D := { D with nx := u D }) h h1 h2
theorem sq_drop (h : EvX r te Γ Γ1 a) (k : Nx A (u D) Γ1) : Nx A (tSeq (tDrop te) u D) Γ := nx_drop (D := { D with nx := u D }) h k
theorem sq_ret {b : α} (h : EvX r te Γ Γ1 a) (e : some a = some b) (k : Rt A (psi r) b D.rt) : Nx A (tSeq (tRet te) u D) Γ := nx_ret (D := { D with nx := u D }) h e k
theorem sq_retS {st : γ} {b : α × γ} (h : EvX r te Γ Γ1 a) (hi : Γ1[i]? = some (.cel p cc st)) (e : some (a, st) = some b) (k : Rt A (psiS p cc r) b D.rt) : Nx A (tSeq (tRet te) u D) Γ := nx_retS (D := { D with nx := u D }) h hi e k
theorem sq_retC {a b : α} (h : EvC c te Γ Γ1 a) (e : some a = some b) (k : RtC A c b D.rt) : Nx A (tSeq (tRet te) u D) Γ := nx_retC (D := { D with nx := u D }) h e k
theorem sq_setR {k : Nat} {f : α → β → α} (h : EvX rb te Γ Γ1 b) (hi : Γ1[i]? = some (.cel p (cHls w) a)) (g : Upd w k rb f) (n : Nx A (u D) (Γ1.set i (.cel p (cHls w) (f a b)))) : Nx A (tSeq (tAsg te (gSub (tVar i) (tC (.int (k : Int))) rSetL)) u D) Γ := nx_setR (D := { D with nx := u D }) h hi g n
theorem sq_for {wi : TI} {g : TG} {tb : TS} {vs : List Nat} {xs : List α} (f : α → ς → Option (Step ρ ς)) (mk : ς → List Sl) {Γf : α → ς → List Sl} {s0 : ς} {R0 : Step ρ ς}
    (hi : ItX r wi Γ Γ1 xs) (e : forL f xs s0 = some R0) (h0 : ∀ A' : Amb, A'.m = A.m ∧ A'.H0 = A.H0 → Nx A' (Fin A' (mk s0)) Γ1)
    (hg : ∀ s, TgX g r vs (mk s) (fun x => Γf x s))
    (hb : ∀ (A' : Amb) (D' : Ends) (x : α) (s : ς) (st : Step ρ ς), A'.m = A.m ∧ A'.H0 = A.H0 → f x s = some st → Conts A' ψ D' mk st → Nx A' (tb D') (Γf x s))
    (hr : ∀ b, R0 = .ret b → Rt A ψ b D.rt) (hd : ∀ s, R0 = .nx s → Nx A (u D) (mk s)) : Nx A (tSeq (tFor wi g tb) u D) Γ := nx_for (D := { D with nx := u D }) f mk hi e h0 hg hb hr hd
end
end G
set_option maxHeartbeats 4000000
namespace G
variable [TabL]
open PySem PySem.Spec PyProof.Rows L2
section
variable {α β γ ρ ς ε : Type} {r ra : Rp α} {rb : Rp β} {rc : Rp γ} {te ta tb : TE} {Γ Γ1 Γ2 : List Sl} {K : PySem.W.Frag} {a : α} {b : β} {w : Rw α} {C : Addr} {names : List Str}
def cIns {α : Type} (C : Addr) (names : List Str) (w : Rw α) : Cl α := ⟨fun H o a => ∃ dx vs, o = .ins C dx (names.zip vs) ∧ vs.length = names.length ∧ w.rel H vs a, fun s ⟨dx, vs, e, l, h⟩ => ⟨dx, vs, e, l, w.mono s h⟩⟩
def rIns {α : Type} (C : Addr) (names : List Str) (w : Rw α) : Rp α := rOb (cIns C names w)
theorem zip_lookup : ∀ {names : List Str} {vs : List V} {k : Nat} {nm : Str} {v : V}, names.Nodup → names[k]? = some nm → vs[k]? = some v → (names.zip vs).lookup nm = some v
  | [], _, _, _, _, _, h, _ => by simp at h
  | _ :: _, [], _, _, _, _, _, h => by simp at h
  | n :: ns, u :: us, 0, nm, v, _, h1, h2 => by
    simp at h1 h2; subst h1; subst h2
    simp [List.lookup]
  | n :: ns, u :: us, k + 1, nm, v, nd, h1, h2 => by
    have h1' : ns[k]? = some nm := by simpa using h1
    have h2' : us[k]? = some v := by simpa using h2
    have hne : nm ≠ n := fun e => (List.nodup_cons.mp nd).1 (by rw [← e]; exact List.mem_of_getElem? h1')
    show List.lookup nm ((n, u) :: ns.zip us) = some v
    have e : (nm == n) = false := beq_eq_false_iff_ne.mpr hne
    simp only [List.lookup, e]
    exact zip_lookup (List.nodup_cons.mp nd).2 h1' h2'
theorem zip_none : ∀ {names : List Str} {vs : List V} {nm : Str}, nm ∉ names → (names.zip vs).lookup nm = none
  | [], _, _, _ => by simp
  | _ :: _, [], _, _ => by simp
  | n :: ns, u :: us, nm, h => by
    show List.lookup nm ((n, u) :: ns.zip us) = none
    have e : (nm == n) = false := beq_eq_false_iff_ne.mpr fun e => h (by rw [e]; exact List.mem_cons_self)
    simp only [List.lookup, e]
    exact zip_none fun z => h (List.mem_cons_of_mem _ z)
theorem putF_zip : ∀ {names : List Str} {vs : List V} {nm : Str} {v : V}, nm ∉ names → vs.length = names.length → putF nm v (names.zip vs) = (names ++ [nm]).zip (vs ++ [v])
  | [], [], _, _, _, _ => rfl
  | [], _ :: _, _, _, _, h => by cases h
  | _ :: _, [], _, _, _, h => by cases h
  | n :: ns, u :: us, nm, v, h, l => by
    show (if n = nm then (n, v) :: ns.zip us else (n, u) :: putF nm v (ns.zip us)) = (n, u) :: (ns ++ [nm]).zip (us ++ [v])
    rw [if_neg fun e => h (by rw [e]; exact List.mem_cons_self), putF_zip (fun z => h (List.mem_cons_of_mem _ z)) (by simpa using l)]
theorem ob_ins {B H : Hp} {u : V} (s : Same B H) (h : (rIns C names w).rel B u a) : ∃ p dx vs, u = .ref p ∧ H p = some (.ins C dx (names.zip vs)) ∧ vs.length = names.length ∧ w.rel B vs a := by
  obtain ⟨p, o, e, hp, dx, vs, rfl, l, k⟩ := h
  exact ⟨p, dx, vs, e, s _ _ hp, l, k⟩
theorem ev_fld {k : Nat} {nm : Str} {f : α → β} (h : EvX (rIns C names w) te Γ Γ1 a) (g : Acc w k rb f) (hk : names[k]? = some nm) (nd : names.Nodup) (c : Cls K C) (na : NoAttr K C nm) : EvX rb (tFld K te nm) Γ Γ1 (f a) := fun A σ H B F Q q =>
  h A σ H B F _ fun v H1 B1 F1 s1 k1 => by
    obtain ⟨p, dx, vs, rfl, hp, l, kw⟩ := ob_ins F1.bh k1
    obtain ⟨u, hu, ku⟩ := g B1 vs a kw
    exact ⟨p, C, dx, _, u, rfl, hp, c, na, zip_lookup nd hk hu, q u H1 B1 F1 s1 ku⟩
theorem ev_celFld {i : Nat} {p : Addr} {k : Nat} {nm : Str} {f : α → β} (h : Γ[i]? = some (.cel p (cIns C names w) a)) (g : Acc w k rb f) (hk : names[k]? = some nm) (nd : names.Nodup) (c : Cls K C) (na : NoAttr K C nm) : EvX rb (tFld K (tVar i) nm) Γ Γ (f a) := fun A σ H B F Q q => by
  obtain ⟨e, o, ho, dx, vs, rfl, l, kw⟩ := cel_at F h
  obtain ⟨u, hu, ku⟩ := g B vs a kw
  exact ⟨_, e, p, C, dx, _, u, rfl, ho, c, na, zip_lookup nd hk hu, q u H B F (Same.refl _) ku⟩
def Snoc {α β γ : Type} (w : Rw α) (r : Rp β) (w' : Rw γ) (f : α → β → γ) : Prop := ∀ B vs a v b, w.rel B vs a → r.rel B v b → w'.rel B (vs ++ [v]) (f a b)
theorem snoc0 : Snoc w0 ra (w1 ra) (fun _ b => b) := fun B vs a v b h k => ⟨v, by rw [show vs = [] from h]; rfl, k⟩
theorem snoc1 : Snoc (w1 ra) rb (wC ra (w1 rb)) (fun a b => (a, b)) := fun B vs a v b ⟨u, e, h⟩ k => ⟨u, [v], by rw [e]; rfl, h, v, rfl, k⟩
theorem snocC {w : Rw β} {w' : Rw ς} {f : β → γ → ς} (s : Snoc w rc w' f) : Snoc (wC ra w) rc (wC ra w') (fun a b => (a.1, f a.2 b)) := fun B vs a v b ⟨u, t, e, h, g⟩ k => ⟨u, t ++ [v], by rw [e]; rfl, h, s B t a.2 v b g k⟩
theorem sq_fld {A : Amb} {D : Ends} {u : TS} {i : Nat} {p : Addr} {nm : Str} {w' : Rw γ} {f : α → β → γ} (h : EvX rb te Γ Γ1 b) (hi : Γ1[i]? = some (.cel p (cIns C names w) a)) (sn : Snoc w rb w' f) (nn : nm ∉ names) (hl : names.length < 900) (c : Cls K C) (na : NoAttr K C nm)
    (k : Nx A (u D) (Γ1.set i (.cel p (cIns C (names ++ [nm]) w') (f a b)))) : Nx A (tSeq (sFld K (tVar i) te nm) u D) Γ := fun σ H B F => h A σ H B F _ fun v H1 B1 F1 s1 k1 => by
  obtain ⟨e, o, ho, dx, vs, rfl, l, kw⟩ := cel_at F1 hi
  refine ⟨_, e, p, C, dx, _, rfl, ho, c, na, by rw [List.length_zip]; omega, ?_⟩
  exact k σ _ B1 (F1.write hi (c' := cIns C (names ++ [nm]) w') (o' := .ins C dx (putF nm v (names.zip vs))) ⟨dx, vs ++ [v], by rw [putF_zip nn l], by rw [List.length_append, List.length_append, l]; rfl, sn B1 vs a v b kw k1⟩ trivial)
end
inductive Res (ε β : Type) where
  | ok (b : β)
  | er (e : ε)
def resO {ε β γ : Type} (x : Res ε β) (k : β → Option (Res ε γ)) : Option (Res ε γ) := match x with
  | .ok b => k b
  | .er e => some (.er e)
@[simp] theorem resO_ok {ε β γ : Type} (b : β) (k : β → Option (Res ε γ)) : resO (.ok b) k = k b := rfl
@[simp] theorem resO_er {ε β γ : Type} (e : ε) (k : β → Option (Res ε γ)) : resO (.er e) k = some (.er e) := rfl
abbrev ER (ε : Type) := Hp → Value → Option Addr → ε → Prop
def ErAt {α : Type} (H : Hp) (cls : Value) (d : Option Addr) (C : Addr) (names : List Str) (w : Rw α) (a : α) : Prop :=
  cls = .ref C ∧ ∃ dd fs vs, d = some dd ∧ H dd = some (.xd fs) ∧ w.rel H vs a ∧ ∀ (k : Nat) (nm : Str), names[k]? = some nm → fs.lookup nm = vs[k]?
def RtE {ε : Type} (A : Amb) (R : ER ε) (e : ε) (E : XK) : Prop := ∀ cls d H' B', Post A H' B' → R B' cls d e → E cls d H'
def SpX {ε α β : Type} (R : ER ε) (w : Rw α) (r : Rp β) (m : α → Option (Res ε β)) : Sp := fun vs H Q E => ∃ B a x, SzT H B ∧ Same B H ∧ w.rel B vs a ∧ m a = some x ∧ (∀ b, x = .ok b → Rt (amb0 B H) (psi r) b Q) ∧ ∀ e, x = .er e → RtE (amb0 B H) R e E
def RtI {β : Type} (A : Amb) (p : Addr) (c : Cl β) (b : β) (Q : VK) : Prop := ∀ H' B', Post A H' B' → (∃ o, H' p = some o ∧ c.ok B' o b) → Q .non H'
def SpI {ε α β : Type} (R : ER ε) (C : Addr) (w : Rw α) (c : Cl β) (m : α → Option (Res ε β)) : Sp := fun vs H Q E => ∃ p dx vs' B a x, vs = .ref p :: vs' ∧ H p = some (.ins C dx []) ∧ HotP B p ∧ SzT H B ∧ Same B H ∧ w.rel B vs' a ∧ m a = some x ∧
  (∀ b, x = .ok b → RtI (ambS B H p) p c b Q) ∧ ∀ e, x = .er e → RtE (ambS B H p) R e E
def SpE1 (C : Addr) (nm : Str) : Sp := fun vs H Q _ => ∃ a v, vs = [.ref a, v] ∧ H a = some (exo a C none) ∧ ∀ dx, H dx = none → dx ≠ a → Q .non (upd (upd H dx (exd dx [(nm, v)])) a (exo a C (some dx)))
section
variable {P : Program} {w : World} {K : PySem.W.Frag} {mg : Str → Option Value} {base : Heap}
theorem okE1 {f C : Addr} {fd : FuncData} {st : Stmt} {N : List Str} {qual nm p1 : Str} {pos1 pos2 pos3 pos4 : Pos} (F : Fun K "__init__" qual st f fd) (S : FnScope N ["self", p1] (defScope st)) (T : OexC K C) (na : PySem.W.findIn K (.ref C) nm = some none)
    (hb : defBody st = [.Assign [.Attribute (.Name "self" pos1) nm pos2] (.Name p1 pos3) pos4]) (h0 : N[0]? = some ("self" : Str)) (h1 : N[1]? = some p1) (v0 : Vis (defScope st) ("self" : Str)) (v1 : Vis (defScope st) p1)
    (d0 : (p1 == ("__debug__" : Str)) = false) (d1 : (p1 == ("__classdict__" : Str)) = false) (hl : N.length = 2) : FnOk P w K mg base CX0 1 f fd ["self", p1] (SpE1 C nm) := by
  refine F.ok S (fun vs H Q E h => ?_) (fun cdv A outer s H vs Q E hr h => ?_)
  · obtain ⟨a, v, rfl, _⟩ := h; rfl
  · obtain ⟨a, v, rfl, ha, k⟩ := h
    rw [hb]
    refine ⟨_, pss_one (ps_ost (pe_var (i := 0) h0 v0) (pe_var (i := 1) h1 v1 d0 d1)), ?_⟩
    have hN : L2.start N [.ref a, v] = [some (.ref a), some v] := by
      unfold L2.start; simp [hl]
    rw [hN]
    exact ⟨v, rfl, _, rfl, a, C, rfl, T, na, .inl ⟨ha, fun dx n ne => k dx n ne⟩⟩
end
theorem del_made {H : Hp} {a dx : Addr} {o1 o2 o3 o4 : HO} (ha : H a = none) (ne : dx ≠ a) : upd (del (upd (upd (upd H a o1) dx o2) a o3) a) dx o4 = upd H dx o4 := by
  funext c
  by_cases h1 : c = dx
  · rw [h1, upd_same, upd_same]
  · rw [upd_ne h1, upd_ne h1]
    by_cases h2 : c = a
    · rw [h2, del_same, ha]
    · rw [del_ne h2, upd_ne h2, upd_ne h1, upd_ne h2]
section
variable {α β γ ρ ς ε : Type} {r ra : Rp α} {rb : Rp β} {te : TE} {ta : TA} {Γ Γ1 Γ2 : List Sl} {K : PySem.W.Frag} {a : α} {b : β} {w : Rw α} {C : Addr} {A : Amb} {D : Ends} {u : TS} {R : ER ε} {E : XK}
theorem Frm.plus {σ : L2.St} {H B : Hp} {p : Addr} {o : HO} (F : Frm A σ H B Γ) (hp : H p = none) (ho : szO o) : Frm A σ (upd H p o) (upd B p o) Γ := (F.fresh hp ho).adopt (F.H0none hp) F.sub F.mh
theorem sq_raise1 {nm : Str} {W : WX} {e : ε} (h : EvX r te Γ Γ1 a) (k : RtE A R e E) (hR : ∀ B cls d, ErAt B cls d C [nm] (w1 r) a → R B cls d e) (hW : ∀ cls d σ H, E cls d H → W cls d σ H) :
    Nx A (tSeq (fun _ σ H => tMkO C (SpE1 C nm) [] (tCons te tNil) σ H fun cls d H' => W cls d σ H') u D) Γ := fun σ H B F => h A σ H B F _ fun v H1 B1 F1 s1 k1 => by
  refine ⟨by show 1 ≤ 1000; decide, fun x hx => ⟨x, v, rfl, upd_same, fun dx n ne => ⟨rfl, dx, [(nm, v)], upd_same, ?_, ?_, ?_⟩⟩⟩
  · rw [upd_ne ne, upd_same]
  · rw [upd_ne ne] at n; exact n
  · have n1 : H1 dx = none := by rw [upd_ne ne] at n; exact n
    rw [del_made hx ne]
    refine hW _ _ _ _ (k _ _ _ _ (F1.plus (o := .xd [(nm, v)]) n1 trivial).post (hR _ _ _ ⟨rfl, dx, [(nm, v)], [v], rfl, upd_same, ⟨v, rfl, ?_⟩, fun j m hj => ?_⟩))
    · exact r.mono (fun b o q => by rw [upd_ne (ne_of_none (F1.bh b o q) n1)]; exact q) k1
    · cases j with
      | zero => simp at hj; subst hj; simp [List.lookup]
      | succ j => simp at hj
end
def EvR {ε α : Type} (R : ER ε) (r : Rp α) (te : (L2.St → XK) → TE) (Γ Γ' : List Sl) (x : Res ε α) : Prop := ∀ (A : Amb) (σ : L2.St) (H B : Hp), Frm A σ H B Γ → ∀ (E : L2.St → XK) (Q : VK),
  (∀ b, x = .ok b → ∀ v H' B', Frm A σ H' B' Γ' → Same B B' → r.rel B' v b → Q v H') → (∀ e, x = .er e → ∀ cls d H' B', Frm A σ H' B' Γ' → Same B B' → R B' cls d e → E σ cls d H') → te E σ H Q
def tMakeS (C : Addr) (sp : Sp) (E : L2.St → XK) (t : TA) : TE := fun σ H Q => t σ H fun vs H1 => ∀ x dx, H1 x = none → H1 dx = none → dx ≠ x →
  sp (.ref x :: vs) (upd (upd H1 dx (.own x)) x (.ins C dx [])) (fun v H2 => v = .non ∧ Q (.ref x) H2) (E σ)
section
variable {X : Cx} {CX : CXT} {k : Nat} {f C : Addr} {fd : FuncData} {ps : List Str} {sp : Sp} {E : L2.St → XK} {x : Str} {p pos : Pos} {e : Expr} {es : List Expr} {t : TA}
theorem run_makeS {pins : List (Addr × Obj)} {σ : L2.St} {H : Hp} {s : Shared} {Q : VK} {us : List Value} {vs : List V} (M : Mk X.K C f) (F : FnOk X.prog X.w X.K X.mg X.base CX k f fd ps sp) (hr : Room (k + 1) X.A) (hb : Binds X.K fd ps [])
    (hx : ∀ (pins : List (Addr × Obj)) (H' : Hp) (s : Shared) (e : Value) (s' : Shared), Inv X pins σ H' s → CX X.stack H' s (E σ) e s' → X.xe e s') (I : Inv X pins σ H s) (r : Vals vs us)
    (h : ∀ x dx, H x = none → H dx = none → dx ≠ x → sp (.ref x :: vs) (upd (upd H dx (.own x)) x (.ins C dx [])) (fun v H2 => v = .non ∧ Q (.ref x) H2) (E σ)) :
    wpAny (model X.prog X.w) X.A (call (.ref C) us) (EP X pins σ Q) X.xe s := by
  have hq := h (s.heap.objs.size + 1) s.heap.objs.size (I.hok.fresh (Nat.le_succ _)) (I.hok.fresh (Nat.le_refl _)) (Nat.ne_of_lt (Nat.lt_succ_self _))
  have I2 := Inv.made (C := C) I
  have r2 : Vals (V.ref (s.heap.objs.size + 1) :: vs) (Value.ref (s.heap.objs.size + 1) :: us) := .cons rfl r
  have hl : (Value.ref (s.heap.objs.size + 1) :: us).length = ps.length := by
    have e := r2.length
    rw [F.len _ _ _ _ hq] at e
    exact e.symm
  have bb := hb _ (Value.ref (s.heap.objs.size + 1) :: us) I2.kIn (by rw [List.append_nil]; exact hl)
  rw [List.append_nil] at bb
  refine wpAny_call (make_map (f := f) I.kIn M.makes M.init (beq_iff_eq.mp M.fn) (codeAny_mono (F.run _ X.stack _ _ ⟨Value.ref (s.heap.objs.size + 1) :: us, []⟩ (Value.ref (s.heap.objs.size + 1) :: us) _ _ (E σ) (hr.make C us [])
    (I2.env0.make C us []) bb r2 hq) fun r s' hq' => ?_))
  cases r with
  | error e => exact hx pins _ _ e s' I2 hq'
  | ok fl =>
    cases fl with
    | ret u =>
      obtain ⟨v, H2, os2, bare2, un2, hok2, rv, ev, q2⟩ := hq'
      subst ev
      exact ⟨rv, .ref (s.heap.objs.size + 1), H2, I2.call' (ch := []) os2 un2 hok2 bare2 (fun b z => absurd z (by simp)), rfl, q2⟩
    | next => exact False.elim hq'
    | brk => exact False.elim hq'
    | cont => exact False.elim hq'
theorem pe_makeS (M : Mk X.K C f) (F : FnOk X.prog X.w X.K X.mg X.base CX k f fd ps sp) (hr : Room (k + 1) X.A) (hg : Gl X x) (hm : X.mg x = some (.ref C)) (hb : Binds X.K fd ps [])
    (hx : ∀ σ, PassesAt CX X σ (E σ)) (ha : PA X (e :: es) t) (hdb : (x == ("__debug__" : Str)) = false := by decide) (he : starEach (e :: es) X.env = (false, eval e X.env) :: starEach es X.env := by rfl) (hpl : (backTo pos (starEach es X.env)).any (·.1) = false := by rfl) :
    PE X (.Call (.Name x p) (e :: es) [] pos) (tMakeS C sp E t) := by
  refine ⟨fun pins s σ H Q I h => ?_⟩
  refine wpAny_Call_Name_kw (ld_glob I hg hm ?_ hdb)
  refine PySem.W.callWith_K (h₀ := X.base) I.ok.mod.kin M.kp (thn (ha.run pos pins s σ H _ I h) fun us s1 ⟨vs, H1, I1, r, q⟩ => ⟨I1.kIn, ?_⟩) he hpl
  exact run_makeS M F hr hb (fun pins H' s e s' I' c => hx σ pins H' s e s' I' c) I1 r q
end
section
variable {α β γ ρ ς ε : Type} {r ra : Rp α} {rb : Rp β} {ta : TA} {Γ Γ1 Γ2 : List Sl} {K : PySem.W.Frag} {a : α} {b : β} {w : Rw α} {C : Addr} {names : List Str} {A : Amb} {D : Ends} {u : TS} {R : ER ε}
theorem made_frame {σ : L2.St} {H B : Hp} {x dx : Addr} (F : Frm A σ H B Γ) (hx : H x = none) (hd : H dx = none) (ne : dx ≠ x) {H' B' : Hp}
    (P : Post (ambS (upd B dx (.own x)) (upd (upd H dx (.own x)) x (.ins C dx [])) x) H' B') {o : HO} (ho : H' x = some o) : Frm (A.add x o) σ H' B' Γ := by
  have kp : ∀ q u, ¬ isTab q → H q = some u → H' q = some u := fun q u nt e => P.keep q u (fun (z : q = x) => by rw [z, hx] at e; cases e) nt (by
    show upd (upd H dx (.own x)) x (.ins C dx []) q = some u
    rw [upd_ne (ne_of_none e hx), upd_ne (ne_of_none e hd)]; exact e)
  have bdx : B dx = none := by
    cases e : B dx with
    | none => rfl
    | some u => have := F.bh dx u e; rw [hd] at this; cases this
  have bb : Same B B' := fun q u e => P.b0 q u (by show upd B dx (.own x) q = some u; rw [upd_ne (ne_of_none e bdx)]; exact e)
  have nout : ∀ q, H q ≠ none → B q = none → B' q = none := fun q n z => by
    have q1 : q ≠ x := fun e => n (by rw [e]; exact hx)
    have q2 : q ≠ dx := fun e => n (by rw [e]; exact hd)
    exact P.out q (by show upd (upd H dx (.own x)) x (.ins C dx []) q ≠ none; rw [upd_ne q1, upd_ne q2]; exact n) (by show upd B dx (.own x) q = none; rw [upd_ne q2]; exact z)
  have al : ∀ q, H q ≠ none → H' q ≠ none := fun q n => P.alive q (by
    have q1 : q ≠ x := fun e => n (by rw [e]; exact hx)
    have q2 : q ≠ dx := fun e => n (by rw [e]; exact hd)
    show upd (upd H dx (.own x)) x (.ins C dx []) q ≠ none
    rw [upd_ne q1, upd_ne q2]; exact n)
  have nT : ¬ isTab x := F.tb.ne hx
  have h0 := F.H0none hx
  have bx : B' x = none := P.out x (by show upd (upd H dx (.own x)) x (.ins C dx []) x ≠ none; rw [upd_same]; simp) (by
    show upd B dx (.own x) x = none
    rw [upd_ne (Ne.symm ne)]
    cases e : B x with
    | none => rfl
    | some u => have := F.bh x u e; rw [hx] at this; cases this)
  refine F.move ⟨P.bh, fun q u e => bb q u (F.b0 q u e), fun q u m nt e => ?_, fun q n z => ?_, fun q n => ?_, fun q u e => ?_, ⟨fun q m => ?_, F.mh.nt, fun q m => ?_⟩, A.up _ _ bb F.ph, P.sz, P.tb⟩ bb fun q h => ⟨nout q h.2.1 h.1, ?_, fun u => kp q u (h.nt F.mh)⟩
  · by_cases hq : q = x
    · subst hq
      have e' : upd A.H0 q o q = some u := e
      rw [upd_same] at e'
      cases e'; exact ho
    · have e' : upd A.H0 x o q = some u := e
      rw [upd_ne hq] at e'
      exact kp q u nt (F.keep q u m nt e')
  · by_cases hq : q = x
    · rw [hq]; exact bx
    · have n' : upd A.H0 x o q ≠ none := n
      rw [upd_ne hq] at n'
      exact nout q (F.alive q n') (F.out q n' z)
  · by_cases hq : q = x
    · rw [hq, ho]; simp
    · have n' : upd A.H0 x o q ≠ none := n
      rw [upd_ne hq] at n'
      exact al q (F.alive q n')
  · have hq : q ≠ x := fun z => by rw [z] at e; exact absurd (F.sub x u e) (by rw [h0]; simp)
    show upd A.H0 x o q = some u
    rw [upd_ne hq]; exact F.sub q u e
  · have := F.mh.al q m
    have hq : q ≠ x := fun z => this (by rw [z]; exact h0)
    show upd A.H0 x o q ≠ none
    rw [upd_ne hq]; exact this
  · have hq : q ≠ x := fun z => nT (by rw [← z]; exact m)
    show upd A.H0 x o q ≠ none
    rw [upd_ne hq]; exact F.mh.tb q m
  · have hq : q ≠ x := fun z => h.2.1 (by rw [z]; exact hx)
    rcases h.2.2 with m | m
    · exact .inl (by show upd A.H0 x o q = none; rw [upd_ne hq]; exact m)
    · exact .inr m
theorem made_pre {σ : L2.St} {H B : Hp} {x dx : Addr} (F : Frm A σ H B Γ) (hx : H x = none) (hd : H dx = none) (ne : dx ≠ x) :
    SzT (upd (upd H dx (.own x)) x (.ins C dx [])) (upd B dx (.own x)) ∧ Same (upd B dx (.own x)) (upd (upd H dx (.own x)) x (.ins C dx [])) ∧ HotP (upd B dx (.own x)) x ∧ Same B (upd B dx (.own x)) := by
  have bx : B x = none := by
    cases e : B x with
    | none => rfl
    | some u => have := F.bh x u e; rw [hx] at this; cases this
  have bdx : B dx = none := by
    cases e : B dx with
    | none => rfl
    | some u => have := F.bh dx u e; rw [hd] at this; cases this
  have bb : Same B (upd B dx (.own x)) := fun q u e => by rw [upd_ne (ne_of_none e bdx)]; exact e
  refine ⟨⟨(F.sz.upd (o := .own x) trivial).upd (o := .ins C dx []) trivial, ((F.tb.upd (F.tb.ne hd)).upd (F.tb.ne hx)).to (fun _ _ => rfl) bb fun q m => by rw [upd_ne (show q ≠ dx from fun z => F.tb.ne hd (by rw [← z]; exact m))]; exact F.tb.no q m⟩, fun q u e => ?_, ⟨by rw [upd_ne (Ne.symm ne)]; exact bx, F.tb.ne hx⟩, fun q u e => by rw [upd_ne (ne_of_none e bdx)]; exact e⟩
  by_cases hq : q = dx
  · subst hq
    rw [upd_same] at e; cases e
    rw [upd_ne ne, upd_same]
  · rw [upd_ne hq] at e
    rw [upd_ne (ne_of_none (F.bh q u e) hx), upd_ne hq]; exact F.bh q u e
theorem er_make {wb : Rw β} {m : α → Option (Res ε β)} {x : Res ε β} (hmono : ∀ {H H' cls d e}, Same H H' → R H cls d e → R H' cls d e) (h : EvW w ta Γ Γ1 a) (e : m a = some x) :
    EvR R (rIns C names wb) (fun E => tMakeS C (SpI R C w (cIns C names wb) m) E ta) Γ Γ1 x := fun A σ H B F E Q qo qe => h A σ H B F _ fun vs H1 B1 F1 s1 k1 => by
  intro y dy hy hd ne
  obtain ⟨p1, p2, p3, p4⟩ := made_pre (C := C) F1 hy hd ne
  refine ⟨y, dy, vs, upd B1 dy (.own y), a, x, rfl, upd_same, p3, p1, p2, w.mono p4 k1, e, fun b hb H2 B2 P ⟨o, ho, k⟩ => ⟨rfl, ?_⟩, fun er he cls d H2 B2 P k => ?_⟩
  · have F2 := made_frame (A := A) F1 hy hd ne P ho
    have n0 := F1.H0none hy
    have F3 := F2.adopt n0 F1.sub F1.mh
    have hB2 : B2 y = none := P.out y (by show upd (upd H1 dy (.own y)) y (.ins C dy []) y ≠ none; rw [upd_same]; simp) p3.1
    have s3 : Same B2 (upd B2 y o) := fun q u e => by rw [upd_ne (ne_of_none e hB2)]; exact e
    exact qo b hb _ _ _ F3 (s1.trans (p4.trans (P.b0.trans s3))) ⟨y, o, rfl, upd_same, (cIns C names wb).mono s3 k⟩
  · -- the object is let go: it is forgotten among what is hidden
    have hox : ∃ o, H2 y = some o := by
      cases q : H2 y with
      | none => exact absurd q (P.alive y (by show upd (upd H1 dy (.own y)) y (.ins C dy []) y ≠ none; rw [upd_same]; simp))
      | some o => exact ⟨o, rfl⟩
    obtain ⟨o, ho⟩ := hox
    exact qe er he cls d _ _ ((made_frame (A := A) F1 hy hd ne P ho).drop (F1.H0none hy) F1.sub F1.mh) (s1.trans (p4.trans P.b0)) k
end
end G
set_option maxHeartbeats 4000000
namespace G
variable [TabL]
open PySem PySem.Spec PyProof.Rows L2
section
variable {α β γ ρ ς ε : Type} {r ra : Rp α} {rb : Rp β} {c : Cl α} {te ta tb : TE} {Γ Γ1 Γ2 : List Sl} {K : PySem.W.Frag} {a x : α} {b : β} {w : Rw α} {xs ys zs : List α} {i : Nat} {p : Addr} {A : Amb} {D : Ends} {u : TS}
structure Fl {α : Type} [DecidableEq α] (r : Rp α) extends Sc r where
  fl : ∀ a, flatV (val a) = true
  eq : ∀ a b, eqV (val a) (val b) = decide (a = b)
theorem bq_str (i j : Str) : (i == j) = decide (i = j) := by by_cases h : i = j <;> simp [h]
def fl_str : Fl rStr := { scStr with fl := fun _ => rfl, eq := bq_str }
theorem Fl.vals [DecidableEq α] (f : Fl r) {B : Hp} {vs : List V} (h : Paired (r.rel B) vs xs) : vs = xs.map f.val := Paired.mapEq (fun _ _ k => f.ok k) h
theorem Fl.inv [DecidableEq α] (f : Fl r) (a : α) : ∀ xs : List α, inV (f.val a) (xs.map f.val) = decide (a ∈ xs)
  | [] => rfl
  | x :: xs => by
    have ih := f.inv a xs
    unfold inV at ih ⊢
    rw [List.map_cons, List.any_cons, ih, f.eq]
    by_cases h : x = a
    · subst h; simp
    · have h' : ¬ a = x := fun e => h e.symm
      by_cases h2 : a ∈ xs <;> simp [h, h', h2]
theorem Fl.allf [DecidableEq α] (f : Fl r) : ∀ xs : List α, (xs.map f.val).all flatV = true
  | [] => rfl
  | x :: xs => by rw [List.map_cons, List.all_cons, f.fl, f.allf xs]; rfl
theorem rin_of [DecidableEq α] (f : Fl r) {H B : Hp} {v : V} {vs : List V} {q : Addr} (neg : Bool) (hs : SqL K H q vs ∨ SqT K H q vs) (hv : r.rel B v a) (hp : Paired (r.rel B) vs xs) {Q : VK} (k : Q (.bl (if neg then !decide (a ∈ xs) else decide (a ∈ xs))) H) : rIn K neg v (.ref q) H Q := by
  rw [f.ok hv]
  refine ⟨q, vs, rfl, hs, f.fl a, by rw [f.vals hp]; exact f.allf xs, ?_⟩
  rw [f.vals hp, f.inv]; exact k
theorem ev_inL [DecidableEq α] (f : Fl r) (ha : EvX r ta Γ Γ1 a) (hb : EvX (rLst r) tb Γ1 Γ2 xs) : EvX rBool (tOp (rIn K false) ta tb) Γ Γ2 (decide (a ∈ xs)) := ev_op ha hb fun H B u v s ku kv Q q => by
  obtain ⟨p, vs, rfl, hp, k⟩ := ob_lst s kv
  exact rin_of f false (.inl (SqL.of hp)) ku k (q _ rfl)
theorem ev_ninL [DecidableEq α] (f : Fl r) (ha : EvX r ta Γ Γ1 a) (hb : EvX (rLst r) tb Γ1 Γ2 xs) : EvX rBool (tOp (rIn K true) ta tb) Γ Γ2 (!decide (a ∈ xs)) := ev_op ha hb fun H B u v s ku kv Q q => by
  obtain ⟨p, vs, rfl, hp, k⟩ := ob_lst s kv
  exact rin_of f true (.inl (SqL.of hp)) ku k (q _ rfl)
theorem cel_lst {A : Amb} {σ : L2.St} {H B : Hp} (F : Frm A σ H B Γ) (h : Γ[i]? = some (.cel p (cLst r) xs)) : σ[i]? = some (some (V.ref p)) ∧ ∃ vs, H p = some (.lst vs) ∧ Paired (r.rel B) vs xs := by
  obtain ⟨e, o, ho, vs, rfl, k⟩ := cel_at F h
  exact ⟨e, vs, ho, k⟩
theorem ev_lenCel (hi : Γ[i]? = some (.cel p (cLst r) xs)) : EvX rInt (tCB (RLen K) (tCons (tVar i) tNil)) Γ Γ (xs.length : Int) := fun A σ H B F Q q => by
  obtain ⟨e, vs, hp, kp⟩ := cel_lst F hi
  exact ⟨_, e, p, vs, rfl, .inl (SqL.of hp), by rw [Paired.len kp]; exact q _ H B F (Same.refl _) rfl⟩
theorem ev_ixCel {j : Int} (hi : Γ[i]? = some (.cel p (cLst r) xs)) (hi1 : Γ1[i]? = some (.cel p (cLst r) xs)) (hb : EvX rInt tb Γ Γ1 j) (e : atI xs j = some a) : EvX r (tOp (rIxL K) (tVar i) tb) Γ Γ1 a := fun A σ H B F Q q => by
  obtain ⟨e1, vs, hp, kp⟩ := cel_lst F hi
  refine ⟨_, e1, hb A σ H B F _ fun v H' B' F' s k => ?_⟩
  obtain ⟨e2, vs2, hp2, kp2⟩ := cel_lst F' hi1
  obtain ⟨o, ho, ko⟩ := atI_rel kp2 e
  exact ⟨p, vs2, j, o, rfl, k, SqL.of hp2, ho, q o H' B' F' s ko⟩
def pyApp (xs : List α) (a : α) : Option (List α) := if xs.length < 1000000 then some (xs ++ [a]) else none
theorem sq_app {rx : Rp γ} {x0 : List γ} (h : EvX r te Γ Γ1 a) (hi0 : Γ[i]? = some (.cel p (cLst rx) x0)) (hi : Γ1[i]? = some (.cel p (cLst r) xs)) (e : pyApp xs a = some ys) (k : Nx A (u D) (Γ1.set i (.cel p (cLst r) ys))) :
    Nx A (tSeq (tDrop (tBM K "list" rAppend (tVar i) (tCons te tNil))) u D) Γ := fun σ H B F => by
  unfold pyApp at e
  split at e
  · rename_i hl
    cases e
    obtain ⟨e1, vs, hp, kp⟩ := cel_lst F hi0
    refine ⟨_, e1, .inl ⟨rfl, vs, SqL.of hp⟩, h A σ H B F _ fun v H1 B1 F1 s1 k1 => ?_⟩
    obtain ⟨e2, vs2, hp2, kp2⟩ := cel_lst F1 hi
    have hz : vs2.length < sizeLine := by rw [Paired.len kp2]; exact Nat.lt_of_lt_of_le hl (by decide)
    refine ⟨p, vs2, v, rfl, rfl, hp2, hz, k σ _ B1 (F1.write hi (c' := cLst r) (o' := .lst (vs2 ++ [v])) ⟨_, rfl, Paired.app kp2 (.cons k1 .nil)⟩ (by show (vs2 ++ [v]).length ≤ sizeLine; rw [List.length_append, List.length_singleton]; omega))⟩
  · cases e
def pyCat (xs ys : List α) : Option (List α) := if xs.length + ys.length ≤ 1000000 then some (xs ++ ys) else none
theorem ec_cat (ha : EvX (rLst r) ta Γ Γ1 xs) (hb : EvX (rLst r) tb Γ1 Γ2 ys) (e : pyCat xs ys = some zs) : EvC (cLst r) (tOp rCat ta tb) Γ Γ2 zs := by
  unfold pyCat at e
  split at e
  · rename_i hl
    cases e
    refine ev_opC ha hb fun H B u v z s ku kv Q q => ?_
    obtain ⟨p, vs, rfl, hp, k⟩ := ob_lst s ku
    obtain ⟨p2, ws, rfl, hp2, k2⟩ := ob_lst s kv
    have hz : vs.length + ws.length ≤ sizeLine := by rw [Paired.len k, Paired.len k2]; exact Nat.le_trans hl (by decide)
    exact ⟨p, p2, vs, ws, rfl, rfl, hp, hp2, hz, fun l hl => q l _ hl (by show (vs ++ ws).length ≤ sizeLine; rw [List.length_append]; exact hz) ⟨_, rfl, Paired.app k k2⟩⟩
  · cases e
def enumF {α : Type} (n : Nat) : List α → List (Int × α)
  | [] => []
  | a :: xs => (((n : Nat) : Int), a) :: enumF (n + 1) xs
def enumL {α : Type} (xs : List α) : List (Int × α) := enumF 0 xs
theorem enumF_len : ∀ (xs : List α) (n : Nat), (enumF n xs).length = xs.length
  | [], _ => rfl
  | _ :: xs, n => by show (enumF (n + 1) xs).length + 1 = _; rw [enumF_len xs]; rfl
theorem enumF_get : ∀ {xs : List α} {n i : Nat} {y : Int × α}, (enumF n xs)[i]? = some y → ∃ a, xs[i]? = some a ∧ y = (((n + i : Nat) : Int), a)
  | [], _, _, _, h => by cases h
  | a :: xs, n, 0, y, h => by
    have h' : (((n : Nat) : Int), a) = y := by simpa [enumF] using h
    exact ⟨a, rfl, h'.symm⟩
  | a :: xs, n, i + 1, y, h => by
    have h' : (enumF (n + 1) xs)[i]? = some y := by simpa [enumF] using h
    obtain ⟨b, h1, h2⟩ := enumF_get h'
    refine ⟨b, by simpa using h1, ?_⟩
    rw [h2, show n + 1 + i = n + (i + 1) by omega]
theorem enumL_len (xs : List α) : (enumL xs).length = xs.length := enumF_len xs 0
theorem it_enum (h : EvX (rLst r) te Γ Γ1 xs) : ItX (rTup (wC rInt (w1 r))) (iEnum K (tCons te tNil)) Γ Γ1 (enumL xs) := fun A σ H B F R q => h A σ H B F _ fun v H' B' F' s k => by
  obtain ⟨p, o, rfl, hp, vs, rfl, kp⟩ := k
  refine ⟨p, vs, rfl, SqL.of (F'.bh _ _ hp), q _ H' B' F' s ⟨by rw [enumL_len, ← Paired.len kp]; exact F'.sz _ _ (F'.bh _ _ hp), fun H2 B2 s1 s2 => ?_, fun i H2 B2 s1 s2 hi => ?_, fun i x H2 B2 v H3 s1 s2 hx hy A σ Γ F => ?_⟩⟩
  · exact ⟨vs, SqL.of (s2 _ _ (s1 _ _ hp)), by rw [enumL_len, Paired.len kp]; exact Nat.le_refl _⟩
  · rw [enumL_len] at hi
    obtain ⟨y, hy⟩ : ∃ y, vs[i]? = some y := ⟨_, List.getElem?_eq_getElem (by rw [Paired.len kp]; exact hi)⟩
    exact ⟨vs, y, SqL.of (s2 _ _ (s1 _ _ hp)), hy⟩
  · obtain ⟨T, y', rfl, hT, rfl, hv⟩ := hy
    obtain ⟨a, ha, rfl⟩ := enumF_get hx
    obtain ⟨y2, hy', ky⟩ := Paired.getR kp ha
    have e := (hv vs (SqL.of (s2 _ _ (s1 _ _ hp)))).symm
    rw [hy'] at e; obtain rfl := Option.some.inj e
    have hB : B2 T = none := by
      cases q : B2 T with
      | none => rfl
      | some u => have := F.bh T u q; rw [hT] at this; cases this
    have s' : Same B2 (upd B2 T (.tup [.int (i : Nat), y'])) := fun b u e => by rw [upd_ne (ne_of_none e hB)]; exact e
    refine ⟨_, F.plus (o := .tup [.int (i : Nat), y']) hT (by show 2 ≤ sizeLine; decide), s', T, _, rfl, upd_same, _, rfl, .int (i : Nat), [y'], rfl, ?_, y', rfl, r.mono s' (r.mono s1 ky)⟩
    show V.int (i : Nat) = V.int ((0 + i : Nat) : Int)
    rw [Nat.zero_add]
end
end G
set_option maxHeartbeats 4000000
namespace G
variable [TabL]
open PySem PySem.Spec PyProof.Rows L2
def tSui (X : Cx) (st : List Stmt) : Addr → Value → Option Addr → TS := fun a cls d D σ H => ∃ t : TS, (∀ (oe : Obj) (pn : List (Addr × Obj)), Zc cls d oe → (∃ vs, oe.data = .fields vs) → PSs (X.suite a ((a, oe) :: pn)) st t) ∧ t D σ H
section
variable {X : Cx} {x n : Str} {c : Value} {i : Nat} {body suite : List Stmt} {b₀ : Stmt} {np pos pos' : Pos} {Wout : WX}
end
section
variable {α β γ ρ ς ε ε' : Type} {r ra : Rp α} {rb : Rp β} {rc : Rp γ} {te tb : TE} {ta : TA} {Γ Γ1 Γ2 : List Sl} {K : PySem.W.Frag} {a : α} {b : β} {w : Rw α} {C : Addr} {names : List Str} {A : Amb} {D : Ends} {u : TS} {R : ER ε} {i : Nat}
def resX {ε β γ : Type} (x : Res ε β) (k : β → Option γ) (l : ε → Option γ) : Option γ := match x with
  | .ok b => k b
  | .er e => l e
@[simp] theorem resX_ok (b : β) (k : β → Option γ) (l : ε → Option γ) : resX (.ok b) k l = k b := rfl
@[simp] theorem resX_er (e : ε) (k : β → Option γ) (l : ε → Option γ) : resX (.er e) k l = l e := rfl
def NxE (W : WX) (A : Amb) (Γ : List Sl) (R : ER ε) (e : ε) : Prop := ∀ cls d σ H B, Frm A σ H B Γ → R B cls d e → W cls d σ H
theorem sq_asgR {W : WX} {tf : (L2.St → XK) → TE} {x : Res ε α} {k : α → Option γ} {l : ε → Option γ} {z : γ} (h : EvR R r tf Γ Γ1 x) (e : resX x k l = some z)
    (ko : ∀ y, k y = some z → Nx A (u D) (Γ1.set i (.imm r y))) (ke : ∀ y, l y = some z → NxE W A Γ1 R y) : Nx A (tSeq (tAsg (tf (WE W)) (gName i)) u D) Γ := fun σ H B F =>
  h A σ H B F _ _ (fun b hb v H' B' F' _ q => ko b (by rw [hb] at e; exact e) _ _ _ (F'.set q)) (fun y hy cls d H' B' F' _ q => ke y (by rw [hy] at e; exact e) _ _ _ _ _ F' q)
theorem sq_dropR {W : WX} {tf : (L2.St → XK) → TE} {x : Res ε α} {k : α → Option γ} {l : ε → Option γ} {z : γ} (h : EvR R r tf Γ Γ1 x) (e : resX x k l = some z)
    (ko : ∀ y, k y = some z → Nx A (u D) Γ1) (ke : ∀ y, l y = some z → NxE W A Γ1 R y) : Nx A (tSeq (tDrop (tf (WE W))) u D) Γ := fun σ H B F =>
  h A σ H B F _ _ (fun b hb v H' B' F' _ q => ko b (by rw [hb] at e; exact e) _ _ _ F') (fun y hy cls d H' B' F' _ q => ke y (by rw [hy] at e; exact e) _ _ _ _ _ F' q)
def rExc (p : Addr) (d : Option Addr) (C : Addr) (names : List Str) (w : Rw α) : Rp α := ⟨fun H v x => v = .ref p ∧ ErAt H (.ref C) d C names w x, fun s ⟨e, h1, dd, fs, vs, h2, h3, h4, h5⟩ => ⟨e, h1, dd, fs, vs, h2, s _ _ h3, w.mono s h4, h5⟩⟩
theorem ev_xf {p : Addr} {d : Option Addr} {k : Nat} {nm : Str} {f : α → β} (h : EvX (rExc p d C names w) te Γ Γ1 a) (g : Acc w k rb f) (hk : names[k]? = some nm) : EvX rb (tXf p (.ref C) d C nm te) Γ Γ1 (f a) := fun A σ H B F Q q =>
  h A σ H B F _ fun v H1 B1 F1 s1 ⟨e, _, dd, fs, vs, h2, h3, h4, h5⟩ => by
    obtain ⟨y, hy, ky⟩ := g B1 vs a h4
    exact ⟨e, rfl, dd, fs, y, h2, F1.bh _ _ h3, by rw [h5 k nm hk, hy], q y H1 B1 F1 s1 ky⟩
theorem Frm.unset {σ : L2.St} {H B : Hp} (F : Frm A σ H B Γ) (i : Nat) : Frm A (σ.set i none) H B (Γ.set i .no) :=
  F.put (List.length_set) (fun j ne => by rw [List.getElem?_set_ne ne]) fun _ _ _ => trivial
theorem nx_unset {P : L2.St → Hp → Prop} (h : Nx A P (Γ.set i .no)) : Nx A (fun σ H => P (σ.set i none) H) Γ := fun σ H B F => h _ _ _ (F.unset i)
theorem nx_unsetE {D : Ends} (h : Nx A D.nx (Γ.set i .no)) : Nx A ({ nx := fun σ' H' => D.nx (σ'.set i none) H', rt := D.rt, bk := fun σ' H' => D.bk (σ'.set i none) H', ct := fun σ' H' => D.ct (σ'.set i none) H' } : Ends).nx Γ := nx_unset h
abbrev erC (C : Addr) (names : List Str) (w : Rw α) : ER α := fun B cls d x => ErAt B cls d C names w x
abbrev erS (R1 : ER ε) (R2 : ER ε') : ER (ε ⊕ ε') := fun B cls d x => match x with
  | .inl a => R1 B cls d a
  | .inr b => R2 B cls d b
theorem erC_mono {H H' : Hp} {cls : Value} {d : Option Addr} {e : α} (s : Same H H') (h : erC C names w H cls d e) : erC C names w H' cls d e := by
  obtain ⟨h1, dd, fs, vs, h2, h3, h4, h5⟩ := h
  exact ⟨h1, dd, fs, vs, h2, s _ _ h3, w.mono s h4, h5⟩
theorem erS_mono {R1 : ER ε} {R2 : ER ε'} (h1 : ∀ {H H' : Hp} {cls d e}, Same H H' → R1 H cls d e → R1 H' cls d e) (h2 : ∀ {H H' : Hp} {cls d e}, Same H H' → R2 H cls d e → R2 H' cls d e) {H H' : Hp} {cls : Value} {d : Option Addr} {e : ε ⊕ ε'} (s : Same H H') (h : erS R1 R2 H cls d e) : erS R1 R2 H' cls d e := by
  cases e with
  | inl a => exact h1 s h
  | inr b => exact h2 s h
def SpJ {α β : Type} (C : Addr) (w : Rw α) (c : Cl β) (m : α → Option β) : Sp := fun vs H Q E => ∃ p dx vs' B a b, vs = .ref p :: vs' ∧ H p = some (.ins C dx []) ∧ HotP B p ∧ SzT H B ∧ Same B H ∧ w.rel B vs' a ∧ m a = some b ∧ RtI (ambS B H p) p c b Q
theorem ev_make {wb : Rw β} {m : α → Option β} {E : XK} (h : EvW w ta Γ Γ1 a) (e : m a = some b) : EvX (rIns C names wb) (tMake C (SpJ C w (cIns C names wb) m) [] E ta) Γ Γ1 b := fun A σ H B F Q q => h A σ H B F _ fun vs H1 B1 F1 s1 k1 => by
  intro y dy hy hd ne
  obtain ⟨p1, p2, p3, p4⟩ := made_pre (C := C) F1 hy hd ne
  refine ⟨y, dy, vs, upd B1 dy (.own y), a, b, by rw [List.append_nil], upd_same, p3, p1, p2, w.mono p4 k1, e, fun H2 B2 P ⟨o, ho, k⟩ => ⟨rfl, ?_⟩⟩
  have F2 := made_frame (A := A) F1 hy hd ne P ho
  have F3 := F2.adopt (F1.H0none hy) F1.sub F1.mh
  have hB2 : B2 y = none := P.out y (by show upd (upd H1 dy (.own y)) y (.ins C dy []) y ≠ none; rw [upd_same]; simp) p3.1
  have s3 : Same B2 (upd B2 y o) := fun q u e => by rw [upd_ne (ne_of_none e hB2)]; exact e
  exact q _ _ _ F3 (s1.trans (p4.trans (P.b0.trans s3))) ⟨y, o, rfl, upd_same, (cIns C names wb).mono s3 k⟩
theorem ins_no {vs : List V} {nm : Str} (hn : nm ∉ names) : (names.zip vs).lookup nm = none := zip_none hn
theorem ev_meth {w' : Rw β} {m : α × β → Option γ} {E : XK} {nm : Str} {z : γ} (h : EvX (rIns C names w) te Γ Γ1 a) (hb : EvW w' ta Γ1 Γ2 b) (e : m (a, b) = some z) (hn : nm ∉ names) :
    EvX rc (tMeth C nm (SpP (wC (rIns C names w) w') rc m) [] E te ta) Γ Γ2 z := fun A σ H B F Q q => h A σ H B F _ fun v H1 B1 F1 s1 k1 => by
  obtain ⟨p, dx, vs, rfl, hp, l, kw⟩ := ob_ins F1.bh k1
  refine ⟨p, dx, _, rfl, hp, ins_no hn, hb A σ H1 B1 F1 _ fun us H2 B2 F2 s2 k2 => ?_⟩
  rw [List.append_nil]
  exact ⟨B2, (a, b), z, F2.szt, F2.bh, ⟨_, us, rfl, (rIns C names w).mono s2 k1, k2⟩, e, fun H3 B3 v3 P k3 => q v3 H3 B3 (F2.after P) ((s1.trans s2).trans P.b0) k3⟩
def TyR (K : PySem.W.Frag) (r : Rp α) (t : Value) : Prop := ∀ H v a, r.rel H v a → TyX K H v t
theorem ev_isi {t v : Value} {c : V} {k : Bool} (h : EvX r te Γ Γ1 a) (ty : TyR K r t) (hc : ClsV c v) (kit : PySem.W.kitOne K t v = some k) : EvX rBool (tCB (rIsi K) (tCons te (tCons (tC c) tNil))) Γ Γ1 k := fun A σ H B F Q q =>
  h A σ H B F _ fun x H1 B1 F1 s1 k1 => ⟨x, c, t, v, k, rfl, hc, ty _ _ _ (r.mono F1.bh k1), kit, q _ _ _ F1 s1 rfl⟩
theorem ty_lst : TyR K (rOb (cLst r)) (.type "list") := fun H v a ⟨p, o, e, hp, vs, eo, k⟩ => by subst e; subst eo; exact .base (.lst hp)
theorem ty_tup : TyR K (rOb (cTup w)) (.type "tuple") := fun H v a ⟨p, o, e, hp, vs, eo, k⟩ => by subst e; subst eo; exact .base (.tup hp)
end
theorem Same.seqT {K : PySem.W.Frag} {H H' : Hp} {a : Addr} {xs : List V} (e : Same H H') (h : SqT K H a xs) : SqT K H' a xs := by
  rcases h with (h | ⟨o, h⟩) | h
  · exact .inl (.inl (e _ _ h))
  · exact .inl (.inr ⟨o, e _ _ h⟩)
  · exact .inr h
mutual
theorem dp_mono {K : PySem.W.Frag} {H H' : Hp} (s : Same H H') : ∀ (d : PyData) (v : V), Dp K H v d → Dp K H' v d
  | .none, _, h => by cases h; exact .non
  | .bool b, _, h => by cases h; exact .bl b
  | .int i, _, h => by cases h; exact .int i
  | .str x, _, h => by cases h; exact .str x
  | .list ds, _, h => by
    cases h with
    | lst hs ha => exact .lst (s.seq hs) (dpAll_mono s ds _ ha)
  | .tuple ds, _, h => by
    cases h with
    | tup hs ha => exact .tup (Same.seqT s hs) (dpAll_mono s ds _ ha)
  | .dict _, _, h => by cases h
theorem dpAll_mono {K : PySem.W.Frag} {H H' : Hp} (s : Same H H') : ∀ (ds : List PyData) (vs : List V), DpAll K H vs ds → DpAll K H' vs ds
  | [], _, h => by cases h; exact .nil
  | d :: ds, _, h => by
    cases h with
    | cons h1 h2 => exact .cons (dp_mono s d _ h1) (dpAll_mono s ds _ h2)
end
def Da {α : Type} (K : PySem.W.Frag) (r : Rp α) (f : α → PyData) : Prop := ∀ H v a, r.rel H v a → Dp K H v (f a)
def DaW {α : Type} (K : PySem.W.Frag) (w : Rw α) (f : α → List PyData) : Prop := ∀ H vs a, w.rel H vs a → DpAll K H vs (f a)
def dLst {α : Type} (f : α → PyData) (xs : List α) : PyData := .list (xs.map f)
def dTpl {α : Type} (f : α → PyData) (xs : List α) : PyData := .tuple (xs.map f)
def dTup {α : Type} (f : α → List PyData) (a : α) : PyData := .tuple (f a)
def dHls {α : Type} (f : α → List PyData) (a : α) : PyData := .list (f a)
def dw0 : Unit → List PyData := fun _ => []
def dw1 {α : Type} (f : α → PyData) (a : α) : List PyData := [f a]
def dwC {α β : Type} (f : α → PyData) (g : β → List PyData) (a : α × β) : List PyData := f a.1 :: g a.2
section
variable {α β γ : Type} {K : PySem.W.Frag} {r ra : Rp α} {rb : Rp β} {w : Rw α} {wb : Rw β} {f : α → PyData} {g : β → PyData} {fw : α → List PyData} {gw : β → List PyData} {Γ Γ1 Γ2 : List Sl} {te ta tb : TE} {x : α} {y : β}
theorem da_int : Da K rInt PyData.int := fun H v a h => by rw [show v = _ from h]; exact .int a
theorem da_str : Da K rStr PyData.str := fun H v a h => by rw [show v = _ from h]; exact .str a
theorem da_bool : Da K rBool PyData.bool := fun H v a h => by rw [show v = _ from h]; exact .bl a
theorem dp_all (h : Da K r f) {H : Hp} : ∀ {vs : List V} {xs : List α}, Paired (r.rel H) vs xs → DpAll K H vs (xs.map f)
  | _, _, .nil => .nil
  | _, _, .cons q t => .cons (h _ _ _ q) (dp_all h t)
theorem da_lst (h : Da K r f) : Da K (rOb (cLst r)) (dLst f) := fun H v a ⟨p, o, e, hp, vs, eo, k⟩ => by
  subst e; subst eo
  exact .lst (SqL.of hp) (dp_all h k)
theorem da_tpl (h : Da K r f) : Da K (rOb (cTpl r)) (dTpl f) := fun H v a ⟨p, o, e, hp, vs, eo, k⟩ => by
  subst e; subst eo
  exact .tup (SqT.of hp) (dp_all h k)
theorem da_tup (h : DaW K w fw) : Da K (rOb (cTup w)) (dTup fw) := fun H v a ⟨p, o, e, hp, vs, eo, k⟩ => by
  subst e; subst eo
  exact .tup (SqT.of hp) (h _ _ _ k)
theorem da_hls (h : DaW K w fw) : Da K (rOb (cHls w)) (dHls fw) := fun H v a ⟨p, o, e, hp, vs, eo, k⟩ => by
  subst e; subst eo
  exact .lst (SqL.of hp) (h _ _ _ k)
theorem daw_0 : DaW K w0 dw0 := fun H vs a h => by rw [show vs = [] from h]; exact .nil
theorem daw_1 (h : Da K r f) : DaW K (w1 r) (dw1 f) := fun H vs a ⟨v, e, k⟩ => by rw [e]; exact .cons (h _ _ _ k) .nil
theorem daw_C (h : Da K r f) (hw : DaW K wb gw) : DaW K (wC r wb) (dwC f gw) := fun H vs a ⟨v, t, e, k, k2⟩ => by rw [e]; exact .cons (h _ _ _ k) (hw _ _ _ k2)
def pyEq (d e : PyData) : Option Bool := if SeqAt.shaped d = true ∧ SeqAt.shaped e = true then some (PyData.eqv d e) else none
theorem ev_eqD {b : Bool} (da : Da K ra f) (db : Da K rb g) (ha : EvX ra ta Γ Γ1 x) (hb : EvX rb tb Γ1 Γ2 y) (e : pyEq (f x) (g y) = some b) : EvX rBool (tOp (rEqD K) ta tb) Γ Γ2 b := by
  unfold pyEq at e
  split at e
  · rename_i hs
    cases e
    exact ev_op ha hb fun H B u v s ku kv Q q => ⟨_, _, dp_mono s _ _ (da _ _ _ ku), dp_mono s _ _ (db _ _ _ kv), hs.1, hs.2, q _ rfl⟩
  · cases e
theorem ev_neD {b : Bool} (da : Da K ra f) (db : Da K rb g) (ha : EvX ra ta Γ Γ1 x) (hb : EvX rb tb Γ1 Γ2 y) (e : pyEq (f x) (g y) = some b) : EvX rBool (tOp (rNeD K) ta tb) Γ Γ2 (!b) := by
  unfold pyEq at e
  split at e
  · rename_i hs
    cases e
    exact ev_op ha hb fun H B u v s ku kv Q q => ⟨_, _, dp_mono s _ _ (da _ _ _ ku), dp_mono s _ _ (db _ _ _ kv), hs.1, hs.2, q _ rfl⟩
  · cases e
end
end G
set_option maxHeartbeats 4000000
namespace G
variable [TabL]
open PySem PySem.Spec PyProof.Rows L2
def dst {α : Type} [DecidableEq α] (xs : List α) : List α := xs.foldl (fun l x => if x ∈ l then l else l ++ [x]) []
section
variable {κ : Type} [DecidableEq κ]
theorem dst_app (xs : List κ) (x : κ) : dst (xs ++ [x]) = if x ∈ dst xs then dst xs else dst xs ++ [x] := by
  unfold dst
  rw [List.foldl_append]
  rfl
theorem mem_dstF {x : κ} : ∀ (xs l : List κ), x ∈ xs.foldl (fun l x => if x ∈ l then l else l ++ [x]) l ↔ x ∈ l ∨ x ∈ xs
  | [], l => by simp
  | y :: ys, l => by
    rw [List.foldl_cons, mem_dstF ys]
    by_cases h : y ∈ l
    · rw [if_pos h, List.mem_cons]
      exact ⟨fun q => q.elim .inl fun q => .inr (.inr q), fun q => q.elim .inl fun q => q.elim (fun e => .inl (e ▸ h)) .inr⟩
    · rw [if_neg h, List.mem_append, List.mem_singleton, List.mem_cons, or_assoc]
theorem mem_dst {x : κ} {xs : List κ} : x ∈ dst xs ↔ x ∈ xs := by
  unfold dst
  rw [mem_dstF]
  simp
theorem dst_le : ∀ xs : List κ, (dst xs).length ≤ xs.length := fun xs => by
  suffices h : ∀ (ys l : List κ), (ys.foldl (fun l x => if x ∈ l then l else l ++ [x]) l).length ≤ l.length + ys.length by simpa [dst] using h xs []
  intro ys
  induction ys with
  | nil => intro l; simp
  | cons y ys ih =>
    intro l
    rw [List.foldl_cons]
    refine Nat.le_trans (ih _) ?_
    rw [List.length_cons]
    split
    · omega
    · rw [List.length_append, List.length_singleton]; omega
variable {prog : Program} {w : World} {knd : KeyKind prog w κ} {A : Around} {R : Result → Shared → Prop} {E : Value → Shared → Prop} {it : Addr} {fp wr : List Addr} {Gg : Array GenState → Array GenState → Prop} {n : Nat} {P : Nat → Value → Prop} {St : Nat → Shared → Prop} {z : Shared}
theorem fill_loop (W : WalksS prog w A.in1 it fp wr Gg n P St) (D : Addr) (hD : D ∉ fp) (ks : List κ) (hn : ks.length = n) (hb : n < 2000)
    (hv : ∀ (i : Nat) (v : Value), P i v → ∃ k, ks[i]? = some k ∧ knd.is k v = true ∧ v.scannable = true) : ∀ (m i : Nat) (z : Shared), n - i = m → i ≤ n → St i z →
      z.heap.SetOf knd D (fun x => decide (x ∈ ks.take i)) (dst (ks.take i)).length →
      (∀ z2, Moved (D :: wr) Gg z z2 → z2.heap.SetOf knd D (fun x => decide (x ∈ ks)) (dst ks).length → R (.ok (.ret .none)) z2) →
      codeAny (model prog w) A (.builtin "set.update.loop" ⟨[.ref D, .ref it], []⟩) R z := by
  have hw : D ∉ wr := fun q => hD (W.sub _ q)
  have up : ∀ b ∈ wr, b ∈ D :: wr := fun b q => List.mem_cons_of_mem D q
  have mv : ∀ {g g2 : Heap} {S : κ → Bool} {c : Nat}, (∀ o, g.get? D = some o → g2.get? D = some o) → g.SetOf knd D S c → g2.SetOf knd D S c := fun k ⟨o, es, ep, t, ho, r⟩ => ⟨o, es, ep, t, k o ho, r⟩
  intro m
  induction m with
  | zero =>
    intro i z e le st so fin
    have e2 : i = n := by omega
    subst e2
    refine codeAny_builtin PyProof.Rows.F.entry_set_update_loop ?_
    rw [Around.under_plainId (A := A) PyProof.Rows.F.plain_set_update_loop _]
    show wpAny _ A.in1 (pyNext (.ref it) >>= _) _ _ z
    refine wpAny_bind (W.done z _ _ st fun z2 m2 => ?_)
    show wpAny _ A.in1 (ret Value.none) _ _ z2
    have so2 := mv (m2.heap D · hw) so
    rw [List.take_of_length_le (by omega)] at so2
    exact wpAny_pure (fin z2 (m2.mono up) so2)
  | succ m ih =>
    intro i z e le st so fin
    have lt : i < n := by omega
    refine codeAny_builtin PyProof.Rows.F.entry_set_update_loop ?_
    rw [Around.under_plainId (A := A) PyProof.Rows.F.plain_set_update_loop _]
    show wpAny _ A.in1 (pyNext (.ref it) >>= _) _ _ z
    refine wpAny_bind (W.item i z _ _ lt st fun v z2 hP st2 m2 => ?_)
    obtain ⟨k, hk, hkv, hsc⟩ := hv i v hP
    have so2 := mv (m2.heap D · hw) so
    have tk : ks.take (i + 1) = ks.take i ++ [k] := by rw [List.take_add_one, hk]; rfl
    show wpAny _ A.in1 (holding [v] (setAdd D v) >>= _) _ _ z2
    refine wpAny_bind (wpAny_holding ?_)
    unfold setAdd
    refine wpAny_holding (wpAny_bind (knd.pyHash hkv ?_))
    have dl := dst_le (ks.take i)
    have tl : (ks.take i).length ≤ i := by rw [List.length_take]; omega
    refine wpAny_setAddHashed_of (s := { z2 with toks := z2.toks + 1 }) hkv hsc so2 (by unfold scanBound; omega) fun g sb so3 => ?_
    have so4 : g.SetOf knd D (fun x => decide (x ∈ ks.take (i + 1))) (dst (ks.take (i + 1))).length := by
      refine PyProof.Rows.SetOf_congr so3 (fun x => ?_) ?_
      · rw [tk]
        by_cases h1 : x ∈ ks.take i <;> by_cases h2 : x = k <;> simp [h1, h2, List.mem_append]
      · rw [tk, dst_app]
        by_cases h1 : k ∈ ks.take i
        · rw [if_pos (decide_eq_true h1), if_pos (mem_dst.mpr h1)]
        · rw [if_neg (by simpa using h1), if_neg (fun q => h1 (mem_dst.mp q)), List.length_append, List.length_singleton]
    refine wpAny_pure (And.intro (plainId_quiet PyProof.Rows.F.plain_set_update_loop _) (ih (i + 1) _ (by omega) lt (W.frame _ z2 _ _ st2 (Nat.le_succ _) fun b q o ho => (sb.2 b (fun h => hD (h ▸ q))).trans ho) so4 fun z3 m3 so5 => fin z3 ?_ so5))
    exact Moved.trans W.gtrans ((m2.mono up).then_heap (Nat.le_succ _) fun b o q ho => (sb.2 b (fun h => q (h ▸ List.mem_cons_self))).trans ho) m3
set_option maxHeartbeats 8000000 in
theorem set_of_list {p : Addr} {its : Array Value} {ks : List κ} {G : Value → Shared → Prop} (hd : A.handled = none) (hp : z.heap.IsList p its) (hn : ks.length = its.size) (hb : its.size < 2000)
    (hv : ∀ (i : Nat) (v : Value), its[i]? = some v → ∃ k, ks[i]? = some k ∧ knd.is k v = true ∧ v.scannable = true)
    (fin : ∀ (g : Heap) (tk : Nat), g.SetOf knd z.heap.objs.size (fun x => decide (x ∈ ks)) (dst ks).length → (∀ b o, z.heap.get? b = some o → g.get? b = some o) → G (.ref z.heap.objs.size) { z with heap := g, toks := tk }) :
    wpAny (model prog w) A (call (.type "set") [.ref p]) G E z := by
  obtain ⟨mc, mt, m0⟩ := PySem.F.called_set.mro
  have m1 := PySem.F.called_set.made
  have m2 := PySem.F.called_set.sub
  refine wpAny_call (codeAny_of_tree ?_)
  show wpAny _ _ (callAny (.type "set") (_ : Args)) _ _ z
  refine wpAny_pure (And.intro (Code.quiet_builtin _ (by decide +kernel)) (codeAny_builtin PySem.F.entry_type_call ?_))
  rw [Around.under_plain (weight_type_call_type "set" [Value.ref p] ([] : List (Str × Value))) (by rfl)]
  have m3 := PySem.F.called_set.notType
  have m4 := PySem.F.called_set.canCreate
  have m5 := PySem.F.typeCall_set_1 (Value.ref p)
  repeat (any_goals (first | assumption | wp_step))
  let ob : Bool → Obj := fun led => { cls := .type "set", dict := none, data := .set #[] 0 (.fresh 0 0 led) }
  refine codeAny_mono (code_set_new_1 (Value.ref p) (E := E) (Q₁ := fun v z1 => ∃ led : Bool, v = Value.ref z.heap.objs.size ∧ z1 = { z with heap := z.heap.push (ob led) }) fun led => ⟨led, rfl, rfl⟩) fun r0 z1 q0 => ?_
  cases r0 with
  | error e => exact q0
  | ok fl0 =>
    cases fl0 with
    | next => exact q0.elim
    | brk => exact q0.elim
    | cont => exact q0.elim
    | ret v0 =>
      obtain ⟨led, rfl, rfl⟩ := q0
      have at0 : (z.heap.push (ob led)).get? z.heap.objs.size = some (ob led) := Heap.get?_push_size _ rfl
      have ty0 : Shared.TypeIs { z with heap := z.heap.push (ob led) } (.ref z.heap.objs.size) "set" := ⟨_, at0, rfl⟩
      have i1 := PySem.F.called_set.init.lookup
      have i2 := PySem.F.called_set.init.bind (Value.ref z.heap.objs.size)
      repeat (any_goals (first | assumption | wp_step))
      refine codeAny_mono (codeAny_call_builtin (R := wants (fun v z2 => v = .none ∧ ∃ g tk, z2 = { z with heap := g, toks := tk } ∧ g.SetOf knd z.heap.objs.size (fun x => decide (x ∈ ks)) (dst ks).length ∧
          (∀ b o, z.heap.get? b = some o → g.get? b = some o)) E) PySem.F.called_set.init.plain PySem.F.entry_set_init (check_set_init_1 ty0 ?_)) fun r2 z2 q2 => ?_
      · obtain ⟨u0, a0, c0, n0, d0⟩ := hp
        obtain ⟨uc, ud, ux, us⟩ := u0
        simp only at c0 d0
        subst c0; subst d0
        have a1 : (z.heap.push (ob led)).get? p = some { cls := .type "list", dict := ud, data := .seq its n0, slots := us } := Heap.get?_push_of_some _ a0
        have s1 := PySem.F.sub_list_set
        have s2 := PySem.F.sub_list_frozenset
        have s3 : (Value.type "list" == Value.type "dict") = false := by decide
        have l1 : (z.heap.push (ob led)).IsList p its := ⟨_, a1, rfl, n0, rfl⟩
        unfold Builtin.«set.__init__» noKeywords Builtin.Frozenset.updateFrom
        generalize hit : pyIter = itf
        wp_walk
        subst hit
        refine wpAny_pyIter_list l1 (wpAny_bind (wpAny_runValue ?_))
        have pl : p < z.heap.objs.size := Heap.lt_size a0
        have h3 : A.in1.in1.in1.handled = none := by simp [hd]
        have sz1 : (z.heap.push (ob led)).objs.size = z.heap.objs.size + 1 := Heap.size_push ..
        have ne1 : p ≠ (z.heap.push (ob led)).objs.size := by rw [sz1]; exact Nat.ne_of_lt (Nat.lt_succ_of_lt pl)
        have sf : z.heap.objs.size ∉ [(z.heap.push (ob led)).objs.size, p] := fun hm => by
          rw [sz1] at hm
          rcases List.mem_cons.mp hm with e | hm
          · exact Nat.ne_of_lt (Nat.lt_succ_self _) e
          · exact Nat.ne_of_gt pl (List.mem_singleton.mp hm)
        refine fill_loop ((Walks.list h3 _ p ne1 its).toS) z.heap.objs.size sf ks hn hb hv (its.size - 0) 0 _ (by omega) (Nat.zero_le _) ⟨⟨_, Heap.get?_push_size _ rfl, rfl, rfl⟩, l1.push _⟩ ?w0 ?w1
        case w0 =>
          exact PyProof.Rows.SetOf_congr ((PyProof.Rows.setObjOf_fresh (knd := knd) led).setOf (Heap.get?_push_of_some _ at0) (by unfold scanBound; omega)) (fun x => by simp) (by simp [dst])
        case w1 =>
          intro z3 mv st3
          obtain ⟨g3, e3, d3, t3, o3⟩ := z3
          obtain rfl : e3 = z.gens := mv.gens
          obtain rfl : d3 = z.drawn := mv.drawn
          obtain rfl : o3 = z.os := mv.os
          show wpAny _ _ _ _ _ (_ : Shared)
          refine wpAny_pure ?_
          show wpAny _ _ (ret Value.none) _ _ (_ : Shared)
          refine wpAny_pure ⟨rfl, g3, t3, rfl, st3, fun b o hbo => mv.heap b o (fun hm => ?_) (Heap.get?_push_of_some _ (Heap.get?_push_of_some _ hbo))⟩
          have bl := Heap.lt_size hbo
          rcases List.mem_cons.mp hm with e | hm
          · exact Nat.ne_of_lt bl e
          · rw [List.mem_singleton, sz1] at hm; exact Nat.ne_of_lt (Nat.lt_succ_of_lt bl) hm
      · cases r2 with
        | error e => exact q2
        | ok fl2 =>
          cases fl2 with
          | next => exact q2.elim
          | brk => exact q2.elim
          | cont => exact q2.elim
          | ret v2 =>
            obtain ⟨rfl, g2, t2, rfl, st2, kp2⟩ := q2
            repeat (any_goals (first | assumption | wp_step))
            exact fin _ _ st2 kp2
set_option maxHeartbeats 8000000 in
theorem set_of_tuple {p : Addr} {its : Array Value} {ks : List κ} {G : Value → Shared → Prop} (hd : A.handled = none) (hp : z.heap.IsTuple p its) (hn : ks.length = its.size) (hb : its.size < 2000)
    (hv : ∀ (i : Nat) (v : Value), its[i]? = some v → ∃ k, ks[i]? = some k ∧ knd.is k v = true ∧ v.scannable = true)
    (fin : ∀ (g : Heap) (tk : Nat), g.SetOf knd z.heap.objs.size (fun x => decide (x ∈ ks)) (dst ks).length → (∀ b o, z.heap.get? b = some o → g.get? b = some o) → G (.ref z.heap.objs.size) { z with heap := g, toks := tk }) :
    wpAny (model prog w) A (call (.type "set") [.ref p]) G E z := by
  obtain ⟨mc, mt, m0⟩ := PySem.F.called_set.mro
  have m1 := PySem.F.called_set.made
  have m2 := PySem.F.called_set.sub
  refine wpAny_call (codeAny_of_tree ?_)
  show wpAny _ _ (callAny (.type "set") (_ : Args)) _ _ z
  refine wpAny_pure (And.intro (Code.quiet_builtin _ (by decide +kernel)) (codeAny_builtin PySem.F.entry_type_call ?_))
  rw [Around.under_plain (weight_type_call_type "set" [Value.ref p] ([] : List (Str × Value))) (by rfl)]
  have m3 := PySem.F.called_set.notType
  have m4 := PySem.F.called_set.canCreate
  have m5 := PySem.F.typeCall_set_1 (Value.ref p)
  repeat (any_goals (first | assumption | wp_step))
  let ob : Bool → Obj := fun led => { cls := .type "set", dict := none, data := .set #[] 0 (.fresh 0 0 led) }
  refine codeAny_mono (code_set_new_1 (Value.ref p) (E := E) (Q₁ := fun v z1 => ∃ led : Bool, v = Value.ref z.heap.objs.size ∧ z1 = { z with heap := z.heap.push (ob led) }) fun led => ⟨led, rfl, rfl⟩) fun r0 z1 q0 => ?_
  cases r0 with
  | error e => exact q0
  | ok fl0 =>
    cases fl0 with
    | next => exact q0.elim
    | brk => exact q0.elim
    | cont => exact q0.elim
    | ret v0 =>
      obtain ⟨led, rfl, rfl⟩ := q0
      have at0 : (z.heap.push (ob led)).get? z.heap.objs.size = some (ob led) := Heap.get?_push_size _ rfl
      have ty0 : Shared.TypeIs { z with heap := z.heap.push (ob led) } (.ref z.heap.objs.size) "set" := ⟨_, at0, rfl⟩
      have i1 := PySem.F.called_set.init.lookup
      have i2 := PySem.F.called_set.init.bind (Value.ref z.heap.objs.size)
      repeat (any_goals (first | assumption | wp_step))
      refine codeAny_mono (codeAny_call_builtin (R := wants (fun v z2 => v = .none ∧ ∃ g tk, z2 = { z with heap := g, toks := tk } ∧ g.SetOf knd z.heap.objs.size (fun x => decide (x ∈ ks)) (dst ks).length ∧
          (∀ b o, z.heap.get? b = some o → g.get? b = some o)) E) PySem.F.called_set.init.plain PySem.F.entry_set_init (check_set_init_1 ty0 ?_)) fun r2 z2 q2 => ?_
      · obtain ⟨u0, a0, c0, n0, d0⟩ := hp
        obtain ⟨uc, ud, ux, us⟩ := u0
        simp only at c0 d0
        subst c0; subst d0
        have a1 : (z.heap.push (ob led)).get? p = some { cls := .type "tuple", dict := ud, data := .seq its n0, slots := us } := Heap.get?_push_of_some _ a0
        have s1 := PySem.F.sub_tuple_set
        have s2 := PySem.F.sub_tuple_frozenset
        have s3 : (Value.type "tuple" == Value.type "dict") = false := by decide
        have l1 : (z.heap.push (ob led)).IsTuple p its := ⟨_, a1, rfl, n0, rfl⟩
        unfold Builtin.«set.__init__» noKeywords Builtin.Frozenset.updateFrom
        generalize hit : pyIter = itf
        wp_walk
        subst hit
        refine wpAny_pyIter_tuple l1 (wpAny_bind (wpAny_runValue ?_))
        have pl : p < z.heap.objs.size := Heap.lt_size a0
        have h3 : A.in1.in1.in1.handled = none := by simp [hd]
        have sz1 : (z.heap.push (ob led)).objs.size = z.heap.objs.size + 1 := Heap.size_push ..
        have ne1 : p ≠ (z.heap.push (ob led)).objs.size := by rw [sz1]; exact Nat.ne_of_lt (Nat.lt_succ_of_lt pl)
        have sf : z.heap.objs.size ∉ [(z.heap.push (ob led)).objs.size, p] := fun hm => by
          rw [sz1] at hm
          rcases List.mem_cons.mp hm with e | hm
          · exact Nat.ne_of_lt (Nat.lt_succ_self _) e
          · exact Nat.ne_of_gt pl (List.mem_singleton.mp hm)
        refine fill_loop ((Walks.tuple h3 _ p ne1 its).toS) z.heap.objs.size sf ks hn hb hv (its.size - 0) 0 _ (by omega) (Nat.zero_le _) ⟨⟨_, Heap.get?_push_size _ rfl, rfl, rfl⟩, l1.push _⟩ ?w0 ?w1
        case w0 =>
          exact PyProof.Rows.SetOf_congr ((PyProof.Rows.setObjOf_fresh (knd := knd) led).setOf (Heap.get?_push_of_some _ at0) (by unfold scanBound; omega)) (fun x => by simp) (by simp [dst])
        case w1 =>
          intro z3 mv st3
          obtain ⟨g3, e3, d3, t3, o3⟩ := z3
          obtain rfl : e3 = z.gens := mv.gens
          obtain rfl : d3 = z.drawn := mv.drawn
          obtain rfl : o3 = z.os := mv.os
          show wpAny _ _ _ _ _ (_ : Shared)
          refine wpAny_pure ?_
          show wpAny _ _ (ret Value.none) _ _ (_ : Shared)
          refine wpAny_pure ⟨rfl, g3, t3, rfl, st3, fun b o hbo => mv.heap b o (fun hm => ?_) (Heap.get?_push_of_some _ (Heap.get?_push_of_some _ hbo))⟩
          have bl := Heap.lt_size hbo
          rcases List.mem_cons.mp hm with e | hm
          · exact Nat.ne_of_lt bl e
          · rw [List.mem_singleton, sz1] at hm; exact Nat.ne_of_lt (Nat.lt_succ_of_lt bl) hm
      · cases r2 with
        | error e => exact q2
        | ok fl2 =>
          cases fl2 with
          | next => exact q2.elim
          | brk => exact q2.elim
          | cont => exact q2.elim
          | ret v2 =>
            obtain ⟨rfl, g2, t2, rfl, st2, kp2⟩ := q2
            repeat (any_goals (first | assumption | wp_step))
            exact fin _ _ st2 kp2
end
theorem val_str : ∀ {xs : List Str} {us : List Value}, Vals (xs.map V.str) us → ∀ (i : Nat) (v : Value), us[i]? = some v → ∃ x t, xs[i]? = some x ∧ v = .str x t
  | [], _, .nil, i, v, h => by simp at h
  | x :: xs, _, .cons ⟨t, e⟩ r, 0, v, h => ⟨x, t, rfl, by simp at h; rw [← h, e]⟩
  | x :: xs, _, .cons _ r, i + 1, v, h => by
    obtain ⟨y, t, h1, h2⟩ := val_str r i v (by simpa using h)
    exact ⟨y, t, by simpa using h1, h2⟩
def tLenSt (K : PySem.W.Frag) (ta : TE) : TE := fun σ H Q => ta σ H fun x H1 => ∃ (l : Addr) (xs : List Str), x = .ref l ∧ (SqL K H1 l (xs.map V.str) ∨ SqT K H1 l (xs.map V.str)) ∧ xs.length ≤ 1000 ∧ Q (.int ((dst xs).length : Nat)) H1
theorem pe_lenSt {X : Cx} {a : Expr} {ta : TE} {p p2 q pos : Pos} (hc : X.calm = true) (hg : Gl X "len") (hm : X.mg "len" = none) (hg2 : Gl X "set") (hm2 : X.mg "set" = none) (ha : PE X a ta)
    (na : starEach [a] X.env = (false, eval a X.env) :: starEach [] X.env := by rfl) : PE X (.Call (.Name "len" p) [.Call (.Name "set" p2) [a] [] q] [] pos) (tLenSt X.K ta) := by
  refine ⟨fun pins s σ H Q I h => Call_ (ld_blt I hg hm boot_len ?_)⟩
  refine PyProof.Rows.callWith_builtin1 (PyProof.Rows.args_cons (Call_ (ld_blt I hg2 hm2 boot_set ?_)) rfl) rfl rfl
  refine PyProof.Rows.callWith_type1 (PyProof.Rows.args_cons (thn (ha.run pins s σ H _ I h) fun v s1 ⟨x, H1, I1, r1, q1⟩ => PyProof.Rows.args_nil ?_) na) na rfl
  obtain ⟨l, xs, rfl, hq, hl, q1⟩ := q1
  cases r1
  have fin : ∀ (g : Heap) (tk : Nat), g.SetOf (PySem.strKind X.prog X.w) s1.heap.objs.size (fun x => decide (x ∈ xs)) (dst xs).length → (∀ b o, s1.heap.get? b = some o → g.get? b = some o) →
      wpAny (model X.prog X.w) X.A (spliced (backTo pos (starEach [] X.env))) (fun vs s₂ => wpAny (model X.prog X.w) X.A (call (.builtin "len") (Value.ref s1.heap.objs.size :: vs)) (EP X pins σ Q) X.xe s₂) X.xe { s1 with heap := g, toks := tk } := fun g tk so kp => by
    refine PyProof.Rows.args_nil ?_
    have dl := dst_le xs
    obtain ⟨o, es, ep, t, ho, hex, hd, _, _, _, hf, hn⟩ := so
    have I2 : Inv X pins σ H1 { s1 with heap := g, toks := tk } := I1.kept fun b o e => kp b o e
    exact call_len_set ho hex hd hf (by rw [hn] <;> omega) ⟨.int ((dst xs).length : Nat), H1, I2.tok _, ⟨_, by rw [hn]⟩, q1⟩
  have hv : ∀ {its : List Value}, Vals (xs.map V.str) its → ∀ (i : Nat) (v : Value), its.toArray[i]? = some v → ∃ k, xs[i]? = some k ∧ (PySem.strKind X.prog X.w).is k v = true ∧ v.scannable = true := fun r i v e => by
    obtain ⟨x, t, h1, rfl⟩ := val_str r i v (by simpa using e)
    exact ⟨x, h1, strKind_is _ _ _ _, rfl⟩
  rcases hq with hq | hq
  · obtain ⟨its, r, pl, hz⟩ := I1.list hq
    have hs : its.toArray.size = xs.length := by rw [List.size_toArray, ← r.length, List.length_map]
    exact set_of_list (I1.ok.hd hc) pl.isList hs.symm (by rw [hs]; omega) (hv r) fin
  · obtain ⟨its, r, pl, hz⟩ := I1.tuple hq
    have hs : its.toArray.size = xs.length := by rw [List.size_toArray, ← r.length, List.length_map]
    exact set_of_tuple (I1.ok.hd hc) pl hs.symm (by rw [hs]; omega) (hv r) fin
section
variable {K : PySem.W.Frag} {te : TE} {Γ Γ1 : List Sl} {xs : List Str} {n : Int}
def pyLenSt (xs : List Str) : Option Int := if xs.length ≤ 1000 then some ((dst xs).length : Nat) else none
theorem ev_lenStL (h : EvX (rLst rStr) te Γ Γ1 xs) (e : pyLenSt xs = some n) : EvX rInt (tLenSt K te) Γ Γ1 n := by
  unfold pyLenSt at e
  split at e
  · rename_i hl
    cases e
    intro A σ H B F Q q
    refine h A σ H B F _ fun v H1 B1 F1 s1 k1 => ?_
    obtain ⟨p, vs, rfl, hp, k⟩ := ob_lst F1.bh k1
    exact ⟨p, xs, rfl, .inl (by rw [show xs.map V.str = vs from (fl_str.vals k).symm]; exact SqL.of hp), hl, q _ _ _ F1 s1 rfl⟩
  · cases e
end
end G
set_option maxHeartbeats 4000000
namespace G
variable [TabL]
open PySem PySem.Spec PyProof.Rows L2
section
variable {X : Cx} {K : PySem.W.Frag}
theorem in_seqK (h : X.K = K) : OpR X (compareOp .In) (rIn K false) := by subst h; exact op_in_seq
theorem notIn_seqK (h : X.K = K) : OpR X (compareOp .NotIn) (rIn K true) := by subst h; exact op_notIn_seq
theorem eqDK (h : X.K = K) (hu : X.A.units + 64 < cLine) : OpR X (compareOp .Eq) (rEqD K) := by subst h; exact op_eqD hu
theorem neDK (h : X.K = K) (hu : X.A.units + 64 < cLine) : OpR X (compareOp .NotEq) (rNeD K) := by subst h; exact op_neD hu
theorem ix_listK (h : X.K = K) : IxR X (rIxL K) := by subst h; exact ix_list
theorem ix_tupK (h : X.K = K) : IxR X (rIxT K) := by subst h; exact ix_tup
theorem sl_listK (h : X.K = K) : SlR X (rSlL K) := by subst h; exact sl_list
theorem len_seqK (h : X.K = K) : CallR X (.builtin "len") (RLen K) := by subst h; exact call_len_seq
theorem list_ofK (h : X.K = K) : CallR X (.type "list") (RList K) := by subst h; exact call_list_of
theorem tuple_ofK (h : X.K = K) : CallR X (.type "tuple") (fun xs H Q => ∃ p ys, xs = [.ref p] ∧ ((SqL K H p ys ∧ ∀ l, H l = none → Q (.ref l) (upd H l (.tup ys))) ∨ (SqT K H p ys ∧ Q (.ref p) H))) := by subst h; exact call_tuple_of
theorem allK (h : X.K = K) (hc : X.calm = true) : CallR X (.builtin "all") (rAll K) := by subst h; exact cr_all hc
theorem isiK (h : X.K = K) : CallR X (.builtin "isinstance") (rIsi K) := by subst h; exact call_isi
theorem fldK {e : Expr} {ta : TE} {f : Str} {pos : Pos} (h : X.K = K) (he : PE X e ta) (hb : attributeBase e f X.env (eval e X.env) = eval e X.env) : PE X (.Attribute e f pos) (tFld K ta f) := by subst h; exact pe_fld he hb
theorem pg_tupK {es : List Expr} {k : Nat} {t : TGs} {pos : Pos} (h : X.K = K) (n : Nat) (hc : X.calm = true) (hp : PGs X es t) (hn : (assignEach es X.env).length = n := by rfl) (hst : (assignEach es X.env).findIdx? (·.1) = none := by rfl) : PG X (.Tuple es k pos) (gTup K n t) := by subst h; exact pg_tup hc hp hn hst
theorem lenStK {a : Expr} {ta : TE} {p p2 q pos : Pos} (h : X.K = K) (hc : X.calm = true) (hg : Gl X "len") (hm : X.mg "len" = none) (hg2 : Gl X "set") (hm2 : X.mg "set" = none) (ha : PE X a ta)
    (na : starEach [a] X.env = (false, eval a X.env) :: starEach [] X.env := by rfl) : PE X (.Call (.Name "len" p) [.Call (.Name "set" p2) [a] [] q] [] pos) (tLenSt K ta) := by subst h; exact pe_lenSt hc hg hm hg2 hm2 ha na
theorem exm_of {S B : Addr} {b : Bool} (h0 : PySem.W.subIn K (.ref B) (.type "BaseException") = some true) (h1 : PySem.W.isClsIn K B = true) (h2 : PySem.W.typeIn K (.ref B) = some (.type "type")) (h3 : PySem.W.subIn K (.ref S) (.ref B) = some b) : PySem.W.exmOne K (.ref S) (.ref B) = some b := by
  unfold PySem.W.exmOne PySem.W.kitCls
  have e1 : (PySem.W.subIn K (.ref B) (.type "BaseException") == some true) = true := by rw [h0]; rfl
  have e2 : ((PySem.W.clsIn K B).isSome && PySem.W.typeIn K (.ref B) == some (.type "type")) = true := by
    rw [h2, show (PySem.W.clsIn K B).isSome = true from h1]; rfl
  rw [if_pos e1]
  show (if ((PySem.W.clsIn K B).isSome && PySem.W.typeIn K (.ref B) == some (.type "type")) = true then PySem.W.subIn K (.ref S) (.ref B) else none) = some b
  rw [if_pos e2]
  exact h3
end
end G
set_option maxHeartbeats 4000000
namespace G
variable [TabL]
open PySem PySem.Spec PyProof.Rows L2
section
variable {X : Cx} {CX : CXT} {C f : Addr} {fd : FuncData} {ps : List Str} {n : Nat} {sp : Sp} {E : XK} {K : PySem.W.Frag}
end
section
variable {α β γ : Type} {r ra : Rp α} {rb : Rp β} {rc : Rp γ} {te ta tb : TE} {Γ Γ1 Γ2 : List Sl} {K : PySem.W.Frag} {w : Rw α} {C : Addr} {names : List Str} {x : α} {y : β} {E : XK}
end
end G
set_option maxHeartbeats 4000000
namespace G
variable [TabL]
open PySem PySem.Spec PyProof.Rows L2
section
variable {prog : Program} {w : World} {A : Around} {E : Value → Shared → Prop} {z : Shared}
set_option maxHeartbeats 8000000 in
end
end G
set_option maxHeartbeats 4000000
namespace G
variable [TabL]
open PySem PySem.Spec PyProof.Rows L2
section
variable {te : TE} {Γ Γ1 : List Sl} {K : PySem.W.Frag} {xs ys : List Int} {wd : World}
end
end G
set_option maxHeartbeats 4000000
namespace G
variable [TabL]
open PySem PySem.Spec PyProof.Rows L2
section
variable {α β γ : Type} {r : Rp α} {w : Rw β} {w' : Rw γ} {K : PySem.W.Frag} {C : Addr} {names : List Str} {Γ Γ1 : List Sl} {a : β} {i : Nat} {p : Addr} {nm : Str} {te : TE} {A : Amb} {D : Ends} {u : TS}
end
end G
set_option maxHeartbeats 4000000
namespace G
variable [TabL]
open PySem PySem.Spec PyProof.Rows L2
structure SMet (K : PySem.W.Frag) (C : Addr) (mc : Value) (m : Str) (p g : Addr) : Prop where
  at_ : PySem.W.findCls K (.ref C) mc m = some (.get (.builtin "staticmethod.__get__") (.ref p) .none (.ref C))
  rc : ∃ rest, PySem.W.recIn K p "staticmethod" = some (.ref g :: rest)
  kp : PySem.W.keepIn K (.ref g) = true
section
variable {X : Cx} {CX : CXT} {k : Nat} {C p g : Addr} {mc : Value} {sp : Sp} {E : L2.St → XK} {fd : FuncData} {ps : List Str} {e : Expr} {es : List Expr} {x m : Str} {pos apos px : Pos} {t : TA} {pl : Sem Bool}
end
section
variable {α β γ ε : Type} {w : Rw α} {r : Rp β} {Γ Γ1 : List Sl} {ta : TA} {a : α} {b : β} {R : ER ε} {C : Addr} {names : List Str}
end
end G
set_option maxHeartbeats 4000000
namespace G
variable [TabL]
open PySem PySem.Spec PyProof.Rows L2
structure Ky {κ : Type} [DecidableEq κ] (r : Rp κ) where
  key : κ → L2.Key
  ok : ∀ {H v k}, r.rel H v k → v = L2.kV (key k)
  inj : ∀ {a b}, key a = key b → a = b
  kn : ∀ {B k}, r.rel B (L2.kV (key k)) k
def kyStr : Ky rStr := ⟨.inr, fun h => h, fun h => Sum.inr.inj h, rfl⟩
section
variable {κ β α γ : Type} [DecidableEq κ] {rk : Rp κ} {rv : Rp β} {r : Rp α} {te ta tb tk tv : TE} {tt : TT} {Γ Γ1 Γ2 : List Sl} {K : PySem.W.Frag} {xs : List α}
def putM (l : List (κ × β)) (k : κ) (v : β) : List (κ × β) := if (l.any fun e => decide (e.1 = k)) = true then l.map (fun e => if e.1 = k then (e.1, v) else e) else l ++ [(k, v)]
def getM (l : List (κ × β)) (k : κ) : Option β := (l.find? fun e => decide (e.1 = k)).map (·.2)
def DRel (ky : Ky rk) (rv : Rp β) (H : Hp) (e : L2.Key × V) (x : κ × β) : Prop := e.1 = ky.key x.1 ∧ rv.rel H e.2 x.2
def cDic (ky : Ky rk) (rv : Rp β) : Cl (List (κ × β)) := ⟨fun H o xs => ∃ kvs, o = .dK kvs ∧ Paired (DRel ky rv H) kvs xs, fun s ⟨kvs, e, h⟩ => ⟨kvs, e, Paired.imp2 (fun _ _ q => ⟨q.1, rv.mono s q.2⟩) h⟩⟩
theorem any_key (ky : Ky rk) {H : Hp} (k : κ) : ∀ {kvs : List (L2.Key × V)} {l : List (κ × β)}, Paired (DRel ky rv H) kvs l → (kvs.any fun e => decide (e.1 = ky.key k)) = l.any fun e => decide (e.1 = k)
  | _, _, .nil => rfl
  | _, _, .cons (a := a) (b := b) q t => by
    rw [List.any_cons, List.any_cons, any_key ky k t]
    congr 1
    by_cases h : b.1 = k
    · rw [decide_eq_true h, decide_eq_true (by rw [q.1, h])]
    · rw [decide_eq_false h, decide_eq_false fun e => h (ky.inj (by rw [← q.1]; exact e))]
theorem map_pair (ky : Ky rk) {H : Hp} {k : κ} {v : V} {b : β} (hv : rv.rel H v b) : ∀ {kvs : List (L2.Key × V)} {l : List (κ × β)}, Paired (DRel ky rv H) kvs l → Paired (DRel ky rv H) (kvs.map fun kv => if kv.1 = ky.key k then (kv.1, v) else kv) (l.map fun e => if e.1 = k then (e.1, b) else e)
  | _, _, .nil => .nil
  | _, _, .cons (a := a) (b := b') q t => by
    rw [List.map_cons, List.map_cons]
    refine .cons ?_ (map_pair ky hv t)
    by_cases e : b'.1 = k
    · rw [if_pos e, if_pos (by rw [q.1, e])]
      exact ⟨q.1, hv⟩
    · rw [if_neg e, if_neg fun z => e (ky.inj (by rw [← q.1]; exact z))]
      exact q
theorem put_pair (ky : Ky rk) {H : Hp} {k : κ} {v : V} {b : β} (hv : rv.rel H v b) {kvs : List (L2.Key × V)} {l : List (κ × β)} (h : Paired (DRel ky rv H) kvs l) : Paired (DRel ky rv H) (putK kvs (ky.key k) v) (putM l k b) := by
  unfold putK putM
  rw [any_key ky k h]
  split
  · exact map_pair ky hv h
  · exact Paired.app h (.cons ⟨rfl, hv⟩ .nil)
theorem putM_len (l : List (κ × β)) (k : κ) (v : β) : (putM l k v).length ≤ l.length + 1 := by
  unfold putM
  split
  · rw [List.length_map]; omega
  · rw [List.length_append, List.length_singleton]; omega
theorem get_pair (ky : Ky rk) {H : Hp} (k : κ) : ∀ {kvs : List (L2.Key × V)} {l : List (κ × β)}, Paired (DRel ky rv H) kvs l → (∀ b, getM l k = some b → ∃ v, valV kvs (ky.key k) = some v ∧ rv.rel H v b) ∧ (getM l k = none → valV kvs (ky.key k) = none)
  | _, _, .nil => ⟨(fun b e => by cases e), fun _ => rfl⟩
  | _, _, .cons (a := a) (b := b) (l₁ := l1) (l₂ := l2) q t => by
    have ih := get_pair ky k t
    by_cases h : b.1 = k
    · have h1 : decide (b.1 = k) = true := decide_eq_true h
      have h2 : decide (a.1 = ky.key k) = true := decide_eq_true (by rw [q.1, h])
      refine ⟨fun c e => ?_, fun e => ?_⟩
      · unfold getM at e
        rw [List.find?_cons_of_pos (by simpa using h)] at e
        have e' : b.2 = c := Option.some.inj e
        refine ⟨a.2, ?_, e' ▸ q.2⟩
        unfold valV
        rw [List.find?_cons_of_pos (by simpa using h2)]
        rfl
      · unfold getM at e
        rw [List.find?_cons_of_pos (by simpa using h)] at e
        cases e
    · have h2 : ¬ a.1 = ky.key k := fun e => h (ky.inj (by rw [← q.1]; exact e))
      have e1 : getM (b :: l2) k = getM l2 k := by
        unfold getM
        rw [List.find?_cons_of_neg (by simpa using h)]
      have e2 : valV (a :: l1) (ky.key k) = valV l1 (ky.key k) := by
        unfold valV
        rw [List.find?_cons_of_neg (by simpa using h2)]
      rw [e1, e2]
      exact ih
def compD {α κ β : Type} [DecidableEq κ] (f : α → Option (Option (κ × β))) : List α → List (κ × β) → Option (List (κ × β))
  | [], l => some l
  | x :: xs, l => match f x with
    | none => none
    | some none => compD f xs l
    | some (some y) => compD f xs (putM l y.1 y.2)
theorem some_get (ky : Ky rk) {H : Hp} {k : κ} {kvs : List (L2.Key × V)} {l : List (κ × β)} (h : Paired (DRel ky rv H) kvs l) : (valV kvs (ky.key k)).isSome = (getM l k).isSome := by
  obtain ⟨h1, h2⟩ := get_pair ky k h
  cases q : getM l k with
  | none => rw [h2 q]; rfl
  | some b => obtain ⟨v, e, _⟩ := h1 b q; rw [e]; rfl
end
end G
set_option maxHeartbeats 4000000
namespace G
variable [TabL]
open PySem PySem.Spec PyProof.Rows L2
section
variable {ρ ς : Type} {Γ : List Sl} {A : Amb} {ψ : ρ → Hp → Hp → V → Prop} {tt : TT} {tb u : TS} {D : Ends} {X : Cx} {K : PySem.W.Frag} {wd : World}
end
end G
set_option maxHeartbeats 4000000
namespace G
variable [TabL]
open PySem PySem.Spec PyProof.Rows L2
def rTK {α : Type} (K : PySem.W.Frag) (r : Rp α) : Rp (List α) := ⟨fun H v xs => ∃ p vs, v = .ref p ∧ SqT K H p vs ∧ vs.length ≤ sizeLine ∧ Paired (r.rel H) vs xs, fun s ⟨p, vs, e, h, l, k⟩ => ⟨p, vs, e, Same.seqT s h, l, Paired.monoR s k⟩⟩
section
variable {α β γ δ : Type} {r : Rp α} {rb : Rp β} {w0 : Rw α} {w : Rw γ} {wd : Rw δ} {dvs : List V} {Γ Γ1 : List Sl} {te : TE} {ta : TA} {K : PySem.W.Frag} {xs : List α} {a : α} {b : β} {C : Addr} {names : List Str}
theorem ev_tk (h : EvX (rTpl r) te Γ Γ1 xs) : EvX (rTK K r) te Γ Γ1 xs := fun A σ H B F Q q => h A σ H B F Q fun v H' B' F' s k => q v H' B' F' s (by
  obtain ⟨p, o, rfl, hp, vs, rfl, kp⟩ := k
  exact ⟨p, vs, rfl, SqT.of hp, F'.sz _ _ (F'.bh _ _ hp), kp⟩)
theorem it_tk (h : EvX (rTK K r) te Γ Γ1 xs) : ItX r (iTup K te) Γ Γ1 xs := fun A σ H B F R q => h A σ H B F _ fun v H' B' F' s k => by
  obtain ⟨p, vs, rfl, hp, hl, kp⟩ := k
  refine ⟨p, rfl, ⟨vs, Same.seqT F'.bh hp⟩, q _ H' B' F' s ⟨by rw [← Paired.len kp]; exact hl, fun H2 B2 s1 s2 => ?_, fun i H2 B2 s1 s2 hi => ?_, fun i x H2 B2 v H3 s1 s2 hx hy A σ Γ F => ?_⟩⟩
  · exact ⟨vs, Same.seqT s2 (Same.seqT s1 hp), by rw [Paired.len kp]; exact Nat.le_refl _⟩
  · obtain ⟨y, hy⟩ : ∃ y, vs[i]? = some y := ⟨_, List.getElem?_eq_getElem (by rw [Paired.len kp]; exact hi)⟩
    exact ⟨vs, y, Same.seqT s2 (Same.seqT s1 hp), hy⟩
  · obtain ⟨rfl, hv⟩ := hy
    obtain ⟨y, hy, ky⟩ := Paired.getR kp hx
    have e := hv vs (Same.seqT s2 (Same.seqT s1 hp))
    rw [hy] at e; cases e
    exact ⟨B2, F, Same.refl _, r.mono s1 ky⟩
end
section
variable {P : Program} {w : World} {K : PySem.W.Frag} {mg : Str → Option Value} {base : Heap} {x qual : Str} {params : Arguments} {body : List Stmt} {scope : Scope} {dvs : List V} {kws : List (Str × V)} {f : Addr} {fd : FuncData}
end
end G
set_option maxHeartbeats 4000000
namespace G
variable [TabL]
open PySem PySem.Spec PyProof.Rows L2
def rIsX (K : PySem.W.Frag) (C a : Addr) (d : Option Addr) : List V → Hp → VK → Prop := fun xs H Q => ∃ (c : V) (cv : Value) (b : Bool) (dd : Addr) (fs : List (Str × V)), xs = [.ref a, c] ∧ ClsV c cv ∧ PySem.W.kitOne K (.ref C) cv = some b ∧ d = some dd ∧ H dd = some (.xd fs) ∧ Q (.bl b) H
theorem call_isX {X : Cx} {K : PySem.W.Frag} {a D : Addr} {d : Option Addr} {oe : Obj} {pn : List (Addr × Obj)} (hK : X.K = K) (C : ExcC K D) (hz : Zc (.ref D) d oe) (hf : ∃ vs, oe.data = .fields vs) : CallR (X.suite a ((a, oe) :: pn)) (.builtin "isinstance") (rIsX K D a d) := by
  subst hK
  intro pins s σ H xs us Q I r h
  obtain ⟨c, cv, b, dd, fs, rfl, hcv, e, rfl, hdd, q⟩ := h
  cases r with
  | cons rx rr =>
    cases rr with
    | cons rt rr =>
      cases rr
      cases rx
      obtain rfl := ClsV.eq hcv rt
      obtain ⟨hget, _⟩ := I.pin (a, oe) (List.mem_append.mpr (.inl List.mem_cons_self))
      obtain ⟨vs, hv⟩ := hf
      have hx : ObjOk X.prog X.w H s.heap dd (.xd fs) := I.hok dd _ hdd
      obtain ⟨mA, hns, hr⟩ := hx
      obtain ⟨od, ho, hl⟩ := lookIn_ns hns
      have J : PySem.W.InstAt s.heap a oe D (some od) := ⟨hget, hz.1, by unfold PySem.W.notCls; rw [hv] <;> rfl, by rw [hz.2]; exact ho⟩
      have hcl : (PySem.W.clsIn X.K D).isSome = true := by
        have h1 := C.hd
        unfold PySem.W.hasDictIn at h1
        cases q : PySem.W.clsIn X.K D with
        | none => rw [q] at h1; cases h1
        | some cd => rfl
      exact PySem.W.kia_one (PySem.W.kitx_exc hcl C.hg C.hk C.hs C.ha C.hn C.ht C.hm) I.kIn J e (fun z => nomatch z) fun tk => ⟨.bl b, H, I.kept (t' := tk) fun _ _ z => z, rfl, q⟩
section
variable {α β γ ε : Type} {r : Rp β} {w : Rw α} {Γ Γ1 : List Sl} {te : TE} {ta : TA} {K : PySem.W.Frag} {a : α} {b : β} {C : Addr} {names : List Str} {A : Amb} {D : Ends} {u : TS} {R : ER ε} {i : Nat}
theorem ev_isX {p : Addr} {d : Option Addr} {c : V} {cv : Value} {k : Bool} (h : EvX (rExc p d C names w) te Γ Γ1 a) (hc : ClsV c cv) (kit : PySem.W.kitOne K (.ref C) cv = some k) : EvX rBool (tCB (rIsX K C p d) (tCons te (tCons (tC c) tNil))) Γ Γ1 k := fun A σ H B F Q q =>
  h A σ H B F _ fun v H1 B1 F1 s1 ⟨e, _, dd, fs, vs, h2, h3, h4, h5⟩ => by
    subst e
    exact ⟨c, cv, k, dd, fs, rfl, hc, kit, h2, F1.bh _ _ h3, q _ H1 B1 F1 s1 rfl⟩
def okR (x : Res ε β) : Option β := match x with
  | .ok b => some b
  | .er _ => none
@[simp] theorem okR_ok (b : β) : okR (.ok b : Res ε β) = some b := rfl
end
end G
set_option maxHeartbeats 4000000
namespace G
variable [TabL]
open PySem PySem.Spec PyProof.Rows L2
section
variable {X : Cx} {K : PySem.W.Frag} {tg : Expr}
theorem pi_listK {l : Expr} {tl : TE} (h : X.K = K) (hl : PE X l tl) : PI X tg l (iList K tl) := by subst h; exact pi_list hl
end
section
variable {α β γ : Type} {r ra : Rp α} {rb : Rp β} {te ta tb tc : TE} {Γ Γ1 Γ2 : List Sl} {K : PySem.W.Frag} {w : Rw α} {C : Addr} {names : List Str}
structure ClsT (K : PySem.W.Frag) (C : Addr) : Prop where
  cl : Cls K C
  ca : PySem.W.findIn K (.ref C) "__class__" = some (some (.builtin "object.__class__"))
  cn : PySem.W.specialIn K (.builtin "object.__class__") "__get__" = some (some (.builtin "getset_descriptor.__get__"))
  ct : PySem.W.takesIn K (.builtin "object.__class__") = some true
  cm : PySem.W.mroIn K C (.type "object") = some true
end
end G
set_option maxHeartbeats 4000000
namespace G
variable [TabL]
open PySem PySem.Spec PyProof.Rows L2
section
variable {α β γ δ : Type} {r : Rp α} {r1 : Rp δ} {rb : Rp β} {Γ Γ1 : List Sl} {xs : List α}
end
end G
set_option maxHeartbeats 4000000
namespace G
variable [TabL]
open PySem PySem.Spec PyProof.Rows L2
section
variable {prog : Program} {w : World} {A : Around} {E : Value → Shared → Prop} {s : Shared} {K : PySem.W.Frag} {x C f : Addr} {ox : Obj} {odd : Option Obj}
end
section
variable {X : Cx} {CX : CXT} {C f : Addr} {fd : FuncData} {ps : List Str} {n : Nat} {sp : Sp} {E : XK} {K : PySem.W.Frag}
end
section
variable {α β γ : Type} {r ra : Rp α} {rb : Rp β} {te : TE} {ta tk : TA} {Γ Γ1 : List Sl} {K : PySem.W.Frag} {w : Rw α} {C : Addr} {names : List Str} {x : α} {E : XK}
def ers (B : Hp) (p : Addr) : Hp := fun q => if q = p then none else B q
theorem ers_ne {B : Hp} {p q : Addr} (h : q ≠ p) : ers B p q = B q := if_neg h
theorem ers_self {B : Hp} {p : Addr} : ers B p p = none := if_pos rfl
class NoL {α : Type} (r : Rp α) : Prop where
  no : ∀ {B : Hp} {p : Addr} {vs : List V} {v : V} {a : α}, B p = some (.lst vs) → r.rel B v a → r.rel (ers B p) v a
class NoLW {α : Type} (w : Rw α) : Prop where
  no : ∀ {B : Hp} {p : Addr} {vs us : List V} {a : α}, B p = some (.lst vs) → w.rel B us a → w.rel (ers B p) us a
instance : NoL rInt := ⟨fun _ h => h⟩
instance : NoL rBool := ⟨fun _ h => h⟩
instance : NoL rStr := ⟨fun _ h => h⟩
instance : NoL rNon := ⟨fun _ h => h⟩
instance (r : Rp α) [NoL r] : NoL (rOpt r) := ⟨fun {B p vs v a} hp h => by
  cases a with
  | none => exact h
  | some a => exact ⟨NoL.no hp h.1, h.2⟩⟩
instance : NoLW w0 := ⟨fun _ h => h⟩
instance (r : Rp α) [NoL r] : NoLW (w1 r) := ⟨fun hp ⟨v, e, h⟩ => ⟨v, e, NoL.no hp h⟩⟩
instance (r : Rp α) (w : Rw β) [NoL r] [NoLW w] : NoLW (wC r w) := ⟨fun hp ⟨v, t, e, h, k⟩ => ⟨v, t, e, NoL.no hp h, NoLW.no hp k⟩⟩
theorem paired_no {r : Rp α} [NoL r] {B : Hp} {p : Addr} {vs : List V} (hp : B p = some (.lst vs)) : ∀ {us : List V} {xs : List α}, Paired (r.rel B) us xs → Paired (r.rel (ers B p)) us xs
  | _, _, .nil => .nil
  | _, _, .cons h t => .cons (NoL.no hp h) (paired_no hp t)
instance (r : Rp α) [NoL r] : NoL (rOb (cTpl r)) := ⟨fun {B p vs v a} hp ⟨q, o, e, hq, us, eo, k⟩ => ⟨q, o, e, by
  rw [ers_ne fun z => by rw [z, hp] at hq; cases hq; cases eo]; exact hq, us, eo, paired_no hp k⟩⟩
instance (w : Rw α) [NoLW w] : NoL (rOb (cTup w)) := ⟨fun {B p vs v a} hp ⟨q, o, e, hq, us, eo, k⟩ => ⟨q, o, e, by
  rw [ers_ne fun z => by rw [z, hp] at hq; cases hq; cases eo]; exact hq, us, eo, NoLW.no hp k⟩⟩
instance (C : Addr) (names : List Str) (w : Rw α) [NoLW w] : NoL (rOb (cIns C names w)) := ⟨fun {B p vs v a} hp ⟨q, o, e, hq, dx, us, eo, l, k⟩ => ⟨q, o, e, by
  rw [ers_ne fun z => by rw [z, hp] at hq; cases hq; cases eo]; exact hq, dx, us, eo, l, NoLW.no hp k⟩⟩
instance (C : Addr) (names : List Str) (w : Rw α) [NoLW w] : NoL (rIns C names w) := inferInstanceAs (NoL (rOb (cIns C names w)))
instance (r : Rp α) [NoL r] : NoL (rTpl r) := inferInstanceAs (NoL (rOb (cTpl r)))
instance (w : Rw α) [NoLW w] : NoL (rTup w) := inferInstanceAs (NoL (rOb (cTup w)))
theorem paired_dic {κ : Type} [DecidableEq κ] {rk : Rp κ} {ky : Ky rk} {rv : Rp β} [NoL rv] {B : Hp} {p : Addr} {vs : List V} (hp : B p = some (.lst vs)) : ∀ {us : List (L2.Key × V)} {xs : List (κ × β)}, Paired (DRel ky rv B) us xs → Paired (DRel ky rv (ers B p)) us xs
  | _, _, .nil => .nil
  | _, _, .cons h t => .cons ⟨h.1, NoL.no hp h.2⟩ (paired_dic hp t)
instance {κ : Type} [DecidableEq κ] {rk : Rp κ} (ky : Ky rk) (rv : Rp β) [NoL rv] : NoL (rOb (cDic ky rv)) := ⟨fun {B p vs v a} hp ⟨q, o, e, hq, us, eo, k⟩ => ⟨q, o, e, by
  rw [ers_ne fun z => by rw [z, hp] at hq; cases hq; cases eo]; exact hq, us, eo, paired_dic hp k⟩⟩
def frz (Γ : List Sl) (i : Nat) (s : Sl) : List Sl := (Γ.map fun x => match x with
  | .imm r a => .imm r a
  | _ => .no).set i s
theorem frz_get {Γ : List Sl} {i j : Nat} {s t : Sl} (h : (frz Γ i s)[j]? = some t) : (i = j ∧ t = s) ∨ (i ≠ j ∧ ∃ u, Γ[j]? = some u ∧ (t = u ∨ t = .no) ∧ plain t) := by
  unfold frz at h
  rcases getset h with ⟨e, e2, _⟩ | ⟨ne, e⟩
  · exact .inl ⟨e, e2⟩
  · right
    refine ⟨ne, ?_⟩
    rw [List.getElem?_map] at e
    cases q : Γ[j]? with
    | none => rw [q] at e; cases e
    | some u =>
      rw [q] at e
      refine ⟨u, rfl, ?_⟩
      cases u with
      | no => cases e; exact ⟨.inr rfl, trivial⟩
      | imm r a => cases e; exact ⟨.inl rfl, trivial⟩
      | cel p c a => cases e; exact ⟨.inr rfl, trivial⟩
      | tre v c a => cases e; exact ⟨.inr rfl, trivial⟩
theorem frz_in {A : Amb} {σ : L2.St} {H B : Hp} {i : Nat} {p : Addr} {xs : List α} (F : Frm A σ H B Γ) (hi : Γ[i]? = some (.cel p (cLst r) xs)) : ∃ vs, B p = none ∧ H p = some (.lst vs) ∧
    Frm ⟨upd B p (.lst vs), H, fun _ => False, fun _ => True, fun _ _ _ _ => trivial⟩ σ H (upd B p (.lst vs)) (frz Γ i (.imm (rLst r) xs)) := by
  obtain ⟨ev, hBp, hm, o, ho, vs, rfl, kv⟩ := F.sl i _ hi
  have hB : Same B (upd B p (.lst vs)) := fun b u e => by rw [upd_ne (ne_of_none e hBp)]; exact e
  refine ⟨vs, hBp, ho, ?_⟩
  have hs : Same (upd B p (.lst vs)) H := fun b u e => by
    by_cases hb : b = p
    · subst hb; rw [upd_same] at e; cases e; exact ho
    · rw [upd_ne hb] at e; exact F.bh b u e
  refine ⟨⟨hs, Same.refl _, fun _ _ _ _ e => e, fun _ _ e => e, fun _ e => e, hs, ⟨fun _ z => z.elim, fun _ z => z.elim, fun _ m n => F.tb.ne n m⟩, trivial, F.sz, F.tb.fix hB (F.tb.nt ho fun _ z => nomatch z)⟩, by unfold frz; rw [List.length_set, List.length_map]; exact F.len, fun _ _ => False, fun j s e => ?_, fun _ _ _ z => z.elim, fun _ _ z => z.elim⟩
  · rcases frz_get e with ⟨rfl, rfl⟩ | ⟨ne, u, hu, ht, hc⟩
    · exact ⟨_, ev, p, _, rfl, upd_same, vs, rfl, Paired.monoR hB kv⟩
    · rcases ht with rfl | rfl
      · have hs := F.sl j _ hu
        cases s with
        | no => trivial
        | imm r a => obtain ⟨v, e1, e2⟩ := hs; exact ⟨v, e1, r.mono hB e2⟩
        | cel q c a => cases hc
        | tre q c a => cases hc
      · trivial
theorem TabOk.ers {H B : Hp} {p : Addr} {vs : List V} (t : TabOk H B) (hp : B p = some (.lst vs)) : TabOk H (G.ers B p) := ⟨fun a q m => by
  obtain ⟨ps, e, k, z⟩ := t.at_ a q m
  exact ⟨ps, e, k, fun pos cv hc => by
    obtain ⟨c, e1, e2⟩ := z pos cv hc
    have hb : c ≠ p := fun z => by
      rw [z, hp] at e2
      unfold LamX.CodeO at e2
      cases e2
    exact ⟨c, e1, by rw [ers_ne hb]; exact e2⟩⟩, fun a m => by
  by_cases hb : a = p
  · rw [hb]; exact ers_self
  · rw [ers_ne hb]; exact t.no a m⟩
theorem frz_out {A : Amb} {σ : L2.St} {H B H2 B2 : Hp} {p : Addr} {vs : List V} {Γ' : List Sl} {φ : Hp → Prop} {up : ∀ B B', Same B B' → φ B → φ B'} (F : Frm A σ H B Γ) (hBp : B p = none) (F2 : Frm ⟨upd B p (.lst vs), H, fun _ => False, φ, up⟩ σ H2 B2 Γ') (s2 : Same (upd B p (.lst vs)) B2) :
    B2 p = some (.lst vs) ∧ Same B (ers B2 p) ∧ Frm A σ H2 (ers B2 p) Γ := by
  have hB : Same B (upd B p (.lst vs)) := fun b u e => by rw [upd_ne (ne_of_none e hBp)]; exact e
  have hp2 : B2 p = some (.lst vs) := s2 _ _ upd_same
  have kp : ∀ b u, ¬ isTab b → H b = some u → H2 b = some u := fun b u nt e => F2.keep b u (fun z => z) nt e
  have s3 : Same B (ers B2 p) := fun b u e => by rw [ers_ne (ne_of_none e hBp)]; exact s2 _ _ (hB _ _ e)
  have out : ∀ b, B b = none → H b ≠ none → ers B2 p b = none := fun b e n => by
    by_cases hb : b = p
    · rw [hb]; exact ers_self
    · rw [ers_ne hb]; exact F2.out b n (by show upd B p (.lst vs) b = none; rw [upd_ne hb]; exact e)
  refine ⟨hp2, s3, F.move ⟨fun b u e => ?_, fun b u e => s3 _ _ (F.b0 b u e), fun b u m nt e => kp b u nt (F.keep b u m nt e), fun b n z => out b (F.out b n z) (F.alive b n), fun b n => F2.alive b (F.alive b n), F.sub, F.mh, A.up _ _ s3 F.ph, F2.sz, F2.tb.ers hp2⟩ s3 fun q h => ⟨out q h.1 h.2.1, h.2.2, fun u => kp q u (h.nt F.mh)⟩⟩
  · by_cases hb : b = p
    · rw [hb, ers_self] at e; cases e
    · rw [ers_ne hb] at e; exact F2.bh b u e
theorem ev_frz {i : Nat} {p : Addr} {xs : List α} {b : β} [NoL rb] (hi : Γ[i]? = some (.cel p (cLst r) xs)) (h : EvX rb te (frz Γ i (.imm (rLst r) xs)) (frz Γ i (.imm (rLst r) xs)) b) : EvX rb te Γ Γ b := fun A σ H B F Q q => by
  obtain ⟨vs, hBp, _, F'⟩ := frz_in F hi
  refine h _ σ H _ F' _ fun v H2 B2 F2 s2 k2 => ?_
  obtain ⟨h1, h2, h3⟩ := frz_out F hBp F2 s2
  exact q v H2 _ h3 h2 (NoL.no h1 k2)
theorem et_frz {tt : TT} {i : Nat} {p : Addr} {xs : List α} {b : Bool} (hi : Γ[i]? = some (.cel p (cLst r) xs)) (h : EvT tt (frz Γ i (.imm (rLst r) xs)) (frz Γ i (.imm (rLst r) xs)) b) : EvT tt Γ Γ b := fun A σ H B F Q q => by
  obtain ⟨vs, hBp, _, F'⟩ := frz_in F hi
  refine h _ σ H _ F' _ fun H2 B2 F2 s2 => ?_
  obtain ⟨h1, h2, h3⟩ := frz_out F hBp F2 s2
  exact q H2 _ h3 h2
end
end G
set_option maxHeartbeats 4000000
namespace G
variable [TabL]
open PySem PySem.Spec PyProof.Rows L2
section
variable {X : Cx} {CX : CXT} {C f : Addr} {fd : FuncData} {ps : List Str} {n : Nat} {sp : Sp} {E : XK} {K : PySem.W.Frag}
end
section
variable {α β γ : Type} {r ra : Rp α} {rb : Rp β} {te : TE} {ta tr : TA} {Γ Γ1 Γ2 : List Sl} {K : PySem.W.Frag} {w : Rw α} {C : Addr} {names : List Str} {x : α} {E : XK}
end
end G
set_option maxHeartbeats 4000000
namespace G
variable [TabL]
open PySem PySem.Spec PyProof.Rows L2
section
variable {α β γ : Type} {r ra : Rp α} {rb : Rp β} {c : Cl α} {cc : Cl γ} {te : TE} {ta : TA} {Γ Γ1 Γ2 Γ3 : List Sl} {K : PySem.W.Frag} {xs : List α} {i j : Nat} {p p0 : Addr} {A : Amb} {D : Ends} {u : TS} {a : α} {b : α} {st : γ}
end
end G
set_option maxHeartbeats 4000000
namespace G
variable [TabL]
open PySem PySem.Spec PyProof.Rows L2
section
variable {te : TE} {Γ Γ1 : List Sl} {K : PySem.W.Frag} {xs ys : List Int} {wd : World}
end
end G
set_option maxHeartbeats 4000000
namespace G
variable [TabL]
open PySem PySem.Spec PyProof.Rows L2
section
variable {prog : Program} {w : World} {A : Around} {E : Value → Shared → Prop} {s : Shared} {K : PySem.W.Frag} {x C f L : Addr} {h₀ : Heap} {m : Str → Option Value} {ox : Obj} {odd : Option Obj} {b tb : Value}
end
section
variable {X : Cx} {CX : CXT} {C f : Addr} {fd : FuncData} {ps : List Str} {n : Nat} {sp : Sp} {E : XK} {K : PySem.W.Frag}
structure NoNe (K : PySem.W.Frag) (C : Addr) : Prop where
  ne : PySem.W.findIn K (.ref C) "__ne__" = some (some (.builtin "object.__ne__"))
  plain : PySem.W.plainOver K C = true
end
section
variable {α β γ : Type} {r ra : Rp α} {rb : Rp β} {rc : Rp γ} {te ta tb : TE} {Γ Γ1 Γ2 : List Sl} {K : PySem.W.Frag} {w : Rw α} {C : Addr} {names : List Str} {x : α} {y : β} {E : XK}
end
end G
set_option maxHeartbeats 4000000
namespace G
variable [TabL]
open PySem PySem.Spec PyProof.Rows L2
structure Tw (α : Type) where
  ok : Hp → Hp → (Addr → Prop) → List V → α → Prop
  mono : ∀ {B B' H H' : Hp} {o o' : Addr → Prop} {vs : List V} {a : α}, Same B B' → (∀ p u, o p → H p = some u → H' p = some u) → (∀ p, o p → o' p) → ok B H o vs a → ok B' H' o' vs a
def tI {α : Type} (r : Rp α) : Tr α := ⟨fun B _ _ v a => r.rel B v a, fun b _ _ h => r.mono b h⟩
def tK {α : Type} (c : Cl α) : Tr α := ⟨fun B H o v a => ∃ p u, v = .ref p ∧ o p ∧ H p = some u ∧ c.ok B u a, fun b k n ⟨p, u, e, op, hu, q⟩ => ⟨p, u, e, n p op, k p u op hu, c.mono b q⟩⟩
def tw1 {α : Type} (t : Tr α) : Tw α := ⟨fun B H o vs a => ∃ v, vs = [v] ∧ t.ok B H o v a, fun b k n ⟨v, e, q⟩ => ⟨v, e, t.mono b k n q⟩⟩
def twC {α β : Type} (t : Tr α) (w : Tw β) : Tw (α × β) := ⟨fun B H o vs a => ∃ v vs' o1 o2, vs = v :: vs' ∧ (∀ p, o1 p → o p) ∧ (∀ p, o2 p → o p) ∧ (∀ p, o1 p → ¬ o2 p) ∧ t.ok B H o1 v a.1 ∧ w.ok B H o2 vs' a.2,
  by
    intro B B' H H' o o' vs a b k n ⟨v, vs', o1, o2, e, h1, h2, hd, q1, q2⟩
    exact ⟨v, vs', o1, o2, e, fun p z => n p (h1 p z), fun p z => n p (h2 p z), hd, t.mono (o := o1) (o' := o1) b (fun p u z => k p u (h1 p z)) (fun _ z => z) q1, w.mono (o := o2) (o' := o2) b (fun p u z => k p u (h2 p z)) (fun _ z => z) q2⟩⟩
def tH {α : Type} (w : Tw α) : Tr α := ⟨fun B H o v a => ∃ p vs, v = .ref p ∧ o p ∧ H p = some (.lst vs) ∧ w.ok B H (fun q => o q ∧ q ≠ p) vs a,
  fun b k n ⟨p, vs, e, op, hp, q⟩ => ⟨p, vs, e, n p op, k p _ op hp, w.mono b (fun q u z => k q u z.1) (fun q z => ⟨n q z.1, z.2⟩) q⟩⟩
theorem Paired.eraseR {α β : Type} {F : α → β → Prop} : ∀ {l₁ : List α} {l₂ : List β} (n : Nat), Paired F l₁ l₂ → Paired F (l₁.eraseIdx n) (l₂.eraseIdx n)
  | _, _, _, .nil => .nil
  | _, _, 0, .cons _ t => t
  | _, _, n + 1, .cons q t => .cons q (Paired.eraseR n t)
section
variable {α β γ δ ρ : Type} {r ra : Rp α} {rb : Rp β} {c : Cl β} {t : Tr α} {tb : Tr β} {w : Tw α} {wb : Tw β} {te ta : TE} {A : Amb} {D : Ends} {Γ Γ1 : List Sl} {i k : Nat} {v : V} {a x : α} {b y : β} {K : PySem.W.Frag} {u : TS} {f : α → β} {g : α → β → α}
structure Ext (A A' : Amb) (n : Addr → Prop) : Prop where
  b0 : A'.B0 = A.B0
  m : A'.m = A.m
  ph : ∀ B, A'.φ B → A.φ B
  old : ∀ p o, A.H0 p = some o → A'.H0 p = some o
  new : ∀ p, n p → A.H0 p = none ∧ A'.H0 p ≠ none
theorem Ext.refl (A : Amb) : Ext A A (fun _ => False) := ⟨rfl, rfl, fun _ h => h, fun _ _ h => h, fun _ h => h.elim⟩
theorem Ext.trans {A A' A2 : Amb} {n n2 : Addr → Prop} (E : Ext A A' n) (E2 : Ext A' A2 n2) : Ext A A2 (fun p => n p ∨ n2 p) := ⟨E2.b0.trans E.b0, E2.m.trans E.m, fun B h => E.ph B (E2.ph B h), fun p o h => E2.old p o (E.old p o h), fun p h => by
  rcases h with h | h
  · obtain ⟨h1, h2⟩ := E.new p h
    refine ⟨h1, ?_⟩
    cases e : A'.H0 p with
    | none => exact absurd e h2
    | some u => rw [E2.old p u e]; simp
  · obtain ⟨h1, h2⟩ := E2.new p h
    refine ⟨?_, h2⟩
    cases e : A.H0 p with
    | none => rfl
    | some u => rw [E.old p u e] at h1; cases h1⟩
theorem Ext.add {A : Amb} {p : Addr} {o : HO} (h : A.H0 p = none) : Ext A (A.add p o) (fun q => q = p) := ⟨rfl, rfl, fun _ h => h, fun q u e => by
  show upd A.H0 p o q = some u
  rw [upd_ne (ne_of_none e h)]; exact e, fun q e => by
  subst e
  exact ⟨h, by show upd A.H0 q o q ≠ none; rw [upd_same]; simp⟩⟩
theorem Ext.stay {A A' : Amb} {n : Addr → Prop} {σ : L2.St} {H B : Hp} (E : Ext A A' n) (mh : MH A) {Γ : List Sl} (F : Frm A' σ H B Γ) {p : Addr} {o : HO} (h : n p) (e : A'.H0 p = some o) : H p = some o := F.keep p o (fun z => mh.al p (by rw [← E.m]; exact z) (E.new p h).1) (fun z => mh.tb p z (E.new p h).1) e
theorem Ext.keeps {A A' : Amb} {n : Addr → Prop} {σ : L2.St} {H B H2 B2 : Hp} (E : Ext A A' n) (mh : MH A) {Γ Γ2 : List Sl} (F : Frm A' σ H B Γ) (F2 : Post A' H2 B2) (p : Addr) (u : HO) (h : n p) (e : H p = some u) : H2 p = some u := by
  obtain ⟨_, h2⟩ := E.new p h
  cases q : A'.H0 p with
  | none => exact absurd q h2
  | some o =>
    have nm : ¬ A'.m p := fun z => mh.al p (by rw [← E.m]; exact z) (E.new p h).1
    have nt : ¬ isTab p := fun z => mh.tb p z (E.new p h).1
    have := F.keep p o nm nt q
    rw [this] at e; cases e
    exact F2.keep p _ nm nt q
variable {Γ2 : List Sl} {tr : TA}
theorem Ext.post {A A' : Amb} {n : Addr → Prop} {H B : Hp} (E : Ext A A' n) (sub : Same A.B0 A.H0) (mh : MH A) (P : Post A' H B) : Post A H B :=
  ⟨P.bh, fun p o e => P.b0 p o (by rw [E.b0]; exact e), fun p o m nt e => P.keep p o (by rw [E.m]; exact m) nt (E.old p o e), fun p n z => P.out p (by
    cases e : A.H0 p with
    | none => exact absurd e n
    | some u => rw [E.old p u e]; simp) (by rw [E.b0]; exact z), fun p n => P.alive p (by
    cases e : A.H0 p with
    | none => exact absurd e n
    | some u => rw [E.old p u e]; simp), sub, mh, E.ph B P.ph, P.sz, P.tb⟩
class TLen {α : Type} (w : Tw α) (n : outParam Nat) : Prop where
  len : ∀ {B H o vs a}, w.ok B H o vs a → vs.length = n
instance (t : Tr α) : TLen (tw1 t) 1 := ⟨fun ⟨v, e, _⟩ => by rw [e]; rfl⟩
instance (t : Tr α) (w : Tw β) {n : Nat} [i : TLen w n] : TLen (twC t w) (n + 1) := ⟨fun {B H o vs a} h => by
  obtain ⟨v, vs', o1, o2, e, _, _, _, _, k⟩ := h
  rw [e, List.length_cons, i.len k]⟩
open Classical in
noncomputable def fz (B H : Hp) (o : Addr → Prop) : Hp := fun p => if o p then H p else B p
theorem fz_in {B H : Hp} {o : Addr → Prop} {p : Addr} (h : o p) : fz B H o p = H p := by unfold fz; rw [if_pos h]
theorem fz_out {B H : Hp} {o : Addr → Prop} {p : Addr} (h : ¬ o p) : fz B H o p = B p := by unfold fz; rw [if_neg h]
theorem fz_same {B H : Hp} {o : Addr → Prop} (h : ∀ p, o p → B p = none) : Same B (fz B H o) := fun p u e => by
  rw [fz_out fun z => by rw [h p z] at e; cases e]; exact e
theorem fz_mono {B H : Hp} {o o' : Addr → Prop} (n : ∀ p, o p → o' p) (h : ∀ p, o' p → B p = none) : Same (fz B H o) (fz B H o') := fun p u e => by
  by_cases z : o p
  · rw [fz_in z] at e; rw [fz_in (n p z)]; exact e
  · rw [fz_out z] at e
    rw [fz_out fun z => by rw [h p z] at e; cases e]; exact e
class Fz {α : Type} (t : Tr α) (r : outParam (Rp α)) : Prop where
  fz : ∀ {B H o v a}, (∀ p, o p → B p = none) → t.ok B H o v a → r.rel (G.fz B H o) v a
class FzW {α : Type} (w : Tw α) (r : outParam (Rw α)) : Prop where
  fz : ∀ {B H o vs a}, (∀ p, o p → B p = none) → w.ok B H o vs a → r.rel (G.fz B H o) vs a
instance (r : Rp α) : Fz (tI r) r := ⟨fun h k => r.mono (fz_same h) k⟩
instance (c : Cl α) : Fz (tK c) (rOb c) := ⟨fun h ⟨p, u, e, op, hu, k⟩ => ⟨p, u, e, by rw [fz_in op]; exact hu, c.mono (fz_same h) k⟩⟩
instance (t : Tr α) (r : Rp α) [z : Fz t r] : FzW (tw1 t) (w1 r) := ⟨fun h ⟨v, e, k⟩ => ⟨v, e, z.fz h k⟩⟩
instance (t : Tr α) (r : Rp α) (w : Tw β) (s : Rw β) [z : Fz t r] [zw : FzW w s] : FzW (twC t w) (wC r s) := ⟨fun {B H o vs a} h k => by
  obtain ⟨v, vs', o1, o2, e, h1, h2, _, k1, k2⟩ := k
  exact ⟨v, vs', e, r.mono (fz_mono h1 h) (z.fz (fun p q => h p (h1 p q)) k1), s.mono (fz_mono h2 h) (zw.fz (fun p q => h p (h2 p q)) k2)⟩⟩
instance (w : Tw α) (s : Rw α) [zw : FzW w s] : Fz (tH w) (rHls s) := ⟨fun {B H o v a} h k => by
  obtain ⟨p, vs, e, op, hp, kw⟩ := k
  exact ⟨p, _, e, by rw [fz_in op]; exact hp, vs, rfl, s.mono (fz_mono (fun q z => z.1) h) (zw.fz (fun q z => h q z.1) kw)⟩⟩
end
section
variable {α β γ δ ρ : Type} {r ra : Rp α} {te ta tj : TE} {A : Amb} {D : Ends} {Γ Γ1 : List Sl} {i k : Nat} {K : PySem.W.Frag} {u : TS} {p : Addr} {xs : List α}
theorem sq_rev (hi : Γ[i]? = some (.cel p (cLst r) xs)) (n : Nx A (u D) (Γ.set i (.cel p (cLst r) xs.reverse))) : Nx A (tSeq (tDrop (tBM0 K "list" rReverse (tVar i))) u D) Γ := fun σ H B F => by
  obtain ⟨e1, vs, hp, kp⟩ := cel_lst F hi
  refine ⟨_, e1, .inl ⟨rfl, vs, SqL.of hp⟩, p, vs, rfl, rfl, hp, n σ _ B (F.write hi (c' := cLst r) (o' := .lst vs.reverse) ⟨_, rfl, Paired.revR kp⟩ ?_)⟩
  show vs.reverse.length ≤ sizeLine
  rw [List.length_reverse]; exact F.sz _ _ hp
end
end G
namespace G
variable [TabL]
open PySem PySem.Spec PyProof.Rows L2
section
variable {α β γ δ ρ : Type} {r ra : Rp α} {w : Tw α} {te ta tj : TE} {tn : TA} {A : Amb} {D : Ends} {Γ Γ1 : List Sl} {i k : Nat} {K : PySem.W.Frag} {u : TS} {v : V} {a a' : α} {P : L2.St → Hp → Prop} {t : Tr α}
end
end G
namespace G
variable [TabL]
open PySem PySem.Spec PyProof.Rows L2
theorem Post.hide {A : Amb} {H B : Hp} {q : Addr} {o : HO} (P : Post A H B) (h0 : A.H0 q = none) (hq : H q = some o) (hb : B q = none) : Post (A.add q o) H B := by
  refine ⟨P.bh, P.b0, fun b u m nt e => ?_, fun b n z => ?_, fun b n => ?_, fun b u e => ?_, ⟨fun b m => ?_, P.mh.nt, fun b m => ?_⟩, P.ph, P.sz, P.tb⟩
  · by_cases h : b = q
    · subst h
      have e' : upd A.H0 b o b = some u := e
      rw [upd_same] at e'; cases e'; exact hq
    · have e' : upd A.H0 q o b = some u := e
      rw [upd_ne h] at e'; exact P.keep b u m nt e'
  · by_cases h : b = q
    · rw [h]; exact hb
    · have n' : upd A.H0 q o b ≠ none := n
      rw [upd_ne h] at n'; exact P.out b n' z
  · by_cases h : b = q
    · rw [h, hq]; simp
    · have n' : upd A.H0 q o b ≠ none := n
      rw [upd_ne h] at n'; exact P.alive b n'
  · have e0 := P.sub b u e
    show upd A.H0 q o b = some u
    rw [upd_ne (ne_of_none e0 h0)]; exact e0
  · have m0 := P.mh.al b m
    by_cases h : b = q
    · rw [h] at m0; exact absurd h0 m0
    · show upd A.H0 q o b ≠ none
      rw [upd_ne h]; exact m0
  · have m0 := P.mh.tb b m
    by_cases h : b = q
    · rw [h] at m0; exact absurd h0 m0
    · show upd A.H0 q o b ≠ none
      rw [upd_ne h]; exact m0
class NoLC {α : Type} (c : Cl α) : Prop where
  no : ∀ {B : Hp} {p : Addr} {vs : List V} {o : HO} {a : α}, B p = some (.lst vs) → c.ok B o a → c.ok (ers B p) o a
theorem paired_noL {α : Type} {r : Rp α} [NoL r] {B : Hp} {p : Addr} {vs : List V} (hp : B p = some (.lst vs)) : ∀ {us : List V} {xs : List α}, Paired (r.rel B) us xs → Paired (r.rel (ers B p)) us xs
  | _, _, .nil => .nil
  | _, _, .cons h t => .cons (NoL.no hp h) (paired_noL hp t)
instance {α : Type} (r : Rp α) [NoL r] : NoLC (cLst r) := ⟨fun hp ⟨us, e, k⟩ => ⟨us, e, paired_noL hp k⟩⟩
instance {α : Type} (r : Rp α) [NoL r] : NoLC (cTpl r) := ⟨fun hp ⟨us, e, k⟩ => ⟨us, e, paired_noL hp k⟩⟩
theorem ec_frz {α β : Type} {r : Rp α} {c : Cl β} {te : TE} {Γ : List Sl} {i : Nat} {p : Addr} {xs : List α} {b : β} [NoLC c] (hi : Γ[i]? = some (.cel p (cLst r) xs)) (h : EvC c te (frz Γ i (.imm (rLst r) xs)) (frz Γ i (.imm (rLst r) xs)) b) : EvC c te Γ Γ b := fun A σ H B F Q q => by
  obtain ⟨vs, hBp, _, F'⟩ := frz_in F hi
  refine h _ σ H _ F' _ fun q0 o H2 B2 F2 n2 s2 k2 => ?_
  have n2' : H q0 = none := n2
  obtain ⟨h1, h2, h3⟩ := frz_out F hBp (F2.drop n2 F'.sub F'.mh) s2
  have hq : H2 q0 = some o := F2.hid n2 F'.mh
  have hb : ers B2 p q0 = none := by
    by_cases e : q0 = p
    · rw [e]; exact ers_self
    · rw [ers_ne e]; exact F2.hidB n2 F'.sub
  have P3 := h3.post.hide (F.H0none n2') hq hb
  refine q q0 o H2 _ (F.move P3 h2 fun b hot => ?_) (F.H0none n2') h2 (NoLC.no h1 k2)
  have hne : b ≠ q0 := fun e => hot.2.1 (by rw [e]; exact n2')
  refine ⟨?_, ?_, fun u e => ?_⟩
  · by_cases e : b = p
    · rw [e]; exact ers_self
    · rw [ers_ne e]
      refine F2.out b ?_ (by show upd B p (.lst vs) b = none; rw [upd_ne e]; exact hot.1)
      show upd H q0 o b ≠ none
      rw [upd_ne hne]; exact hot.2.1
  · rcases hot.2.2 with m | m
    · left; show upd A.H0 q0 o b = none; rw [upd_ne hne]; exact m
    · exact .inr m
  · exact F2.keep b u (fun z => z) (hot.nt F.mh) (by show upd H q0 o b = some u; rw [upd_ne hne]; exact e)
end G
namespace G
variable [TabL]
open PySem PySem.Spec PyProof.Rows L2
end G
set_option maxHeartbeats 4000000
namespace G
variable [TabL]
open PySem PySem.Spec PyProof.Rows L2
structure Mw (γ α : Type) where
  own : Hp → Hp → (Addr → Prop) → List V → γ → Prop
  imm : Hp → List V → α → Prop
  len : Nat
  olen : ∀ {B H : Hp} {o : Addr → Prop} {vs : List V} {g : γ}, own B H o vs g → vs.length = len
section
variable {α β γ ρ κ τ : Type}
def mwN : Mw Unit Unit := ⟨fun _ _ _ vs _ => vs = [], fun _ vs _ => vs = [], 0, fun h => by rw [h]; rfl⟩
def mwI (r : Rp ρ) (w : Mw γ α) : Mw γ (ρ × α) := ⟨fun B H o vs g => ∃ v t, vs = v :: t ∧ w.own B H o t g, fun B vs a => ∃ v t, vs = v :: t ∧ r.rel B v a.1 ∧ w.imm B t a.2, w.len + 1, fun ⟨v, t, e, k⟩ => by rw [e, List.length_cons, w.olen k]⟩
def mwK (c : Cl κ) (w : Mw γ α) : Mw (κ × γ) α := ⟨fun B H o vs g => ∃ p t u, vs = .ref p :: t ∧ o p ∧ H p = some u ∧ c.ok B u g.1 ∧ w.own B H (fun q => o q ∧ q ≠ p) t g.2, fun B vs a => ∃ v t, vs = v :: t ∧ w.imm B t a, w.len + 1, fun ⟨p, t, u, e, _, _, _, k⟩ => by rw [e, List.length_cons, w.olen k]⟩
def mwT (c : Tr τ) (w : Mw γ α) : Mw (τ × γ) α := ⟨fun B H o vs g => ∃ v t o1 o2, vs = v :: t ∧ (∀ p, o1 p → o p) ∧ (∀ p, o2 p → o p) ∧ (∀ p, o1 p → ¬ o2 p) ∧ c.ok B H o1 v g.1 ∧ w.own B H o2 t g.2, fun B vs a => ∃ v t, vs = v :: t ∧ w.imm B t a, w.len + 1, fun ⟨v, t, o1, o2, e, _, _, _, _, k⟩ => by rw [e, List.length_cons, w.olen k]⟩
def ambM (B H : Hp) (o : Addr → Prop) : Amb := ⟨B, H, o, fun _ => True, fun _ _ _ _ => trivial⟩
structure AtM (A : Amb) (H0 : Hp) (o : Addr → Prop) : Prop where
  m : A.m = o
  h : A.H0 = H0
def HotM (H0 : Hp) (o : Addr → Prop) (H B : Hp) (p : Addr) : Prop := B p = none ∧ H p ≠ none ∧ (H0 p = none ∨ o p)
theorem AtM.hot {A : Amb} {H0 : Hp} {o : Addr → Prop} (k : AtM A H0 o) {H B : Hp} {p : Addr} (h : Hot A H B p) : HotM H0 o H B p := ⟨h.1, h.2.1, by rw [← k.m, ← k.h]; exact h.2.2⟩
def psiM (H0 : Hp) (m : Addr → Prop) (w : Mw γ α) (vs : List V) (t : Tr β) (b : β × γ) (H B : Hp) (v : V) : Prop := ∃ o1 o2 : Addr → Prop, (∀ p, o1 p → HotM H0 m H B p ∧ H0 p = none) ∧ (∀ p, o2 p → HotM H0 m H B p) ∧ (∀ p, o1 p → ¬ o2 p) ∧ t.ok B H o1 v b.1 ∧ w.own B H o2 vs b.2
def SpM (w : Mw γ α) (t : Tr β) (m : γ → α → Option (β × γ)) : Sp := fun vs H Q _ => ∃ B o g a b, SzT H B ∧ Same B H ∧ (∀ p, o p → B p = none ∧ H p ≠ none ∧ ¬ isTab p) ∧ w.own B H o vs g ∧ w.imm B vs a ∧ m g a = some b ∧ Rt (ambM B H o) (psiM H o w vs t) b Q
def StOk (Γs : List Sl) (vs : List V) (B H : Hp) (o : Addr → Prop) : Prop := Γs.length = vs.length ∧ ∃ ow : Nat → Addr → Prop, (∀ i s, Γs[i]? = some s → ∀ σ : L2.St, (∀ v, vs[i]? = some v → σ[i]? = some (some v)) → SlO σ H B (ow i) i s) ∧ (∀ i j p, ow i p → ow j p → i = j) ∧ ∀ i p, ow i p → o p
variable {r : Rp ρ} {c : Cl κ} {t : Tr τ} {w : Mw γ α} {Γ Γs Γ1 Γ2 Γ3 : List Sl} {vs : List V} {B H : Hp} {o : Addr → Prop} {v : V} {a : α} {g : γ} {x : ρ} {y : κ} {z : τ} {A : Amb} {p : Addr} {k i : Nat} {is : List Nat}
theorem st_N : StOk [] [] B H o := ⟨rfl, fun _ _ => False, fun i s e => by simp at e, fun _ _ _ h => h.elim, fun _ _ h => h.elim⟩
theorem st_cons {s : Sl} {o1 o2 : Addr → Prop} (h : ∀ σ : L2.St, σ[0]? = some (some v) → SlO σ H B o1 0 s) (h1 : ∀ p, o1 p → o p) (h2 : ∀ p, o2 p → o p) (hd : ∀ p, o1 p → ¬ o2 p) (S : StOk Γs vs B H o2) : StOk (s :: Γs) (v :: vs) B H o := by
  obtain ⟨hl, ow, hs, dj, ho⟩ := S
  refine ⟨by rw [List.length_cons, List.length_cons, hl], fun i q => match i with | 0 => o1 q | i + 1 => ow i q, fun i s' e σ hv => ?_, fun i j q hi hj => ?_, fun i q hi => ?_⟩
  · cases i with
    | zero => cases e; exact h σ (hv v rfl)
    | succ i =>
      have g := hs i s' (by simpa using e) σ.tail fun u hu => by
        have := hv u (by simpa using hu)
        cases σ with
        | nil => simp at this
        | cons x y => simpa using this
      exact slok_shift g (by cases σ <;> simp)
  · cases i with
    | zero => cases j with
      | zero => rfl
      | succ j => exact absurd (ho j q hj) (hd q hi)
    | succ i => cases j with
      | zero => exact absurd (ho i q hi) (hd q hj)
      | succ j => rw [dj i j q hi hj]
  · cases i with
    | zero => exact h1 q hi
    | succ i => exact h2 q (ho i q hi)
theorem st_I (k : r.rel B v x) (S : StOk Γs vs B H o) : StOk (.imm r x :: Γs) (v :: vs) B H o := st_cons (o1 := fun _ => False) (o2 := o) (fun σ e => ⟨v, e, k⟩) (fun _ h => h.elim) (fun _ h => h) (fun _ h => h.elim) S
theorem st_K {u : HO} (op : o p) (hp : H p = some u) (k : c.ok B u y) (S : StOk Γs vs B H (fun q => o q ∧ q ≠ p)) : StOk (.cel p c y :: Γs) (.ref p :: vs) B H o := st_cons (o1 := fun q => q = p) (fun σ e => ⟨e, rfl, u, hp, k⟩) (fun q h => by rw [h]; exact op) (fun q h => h.1) (fun q h n => n.2 h) S
theorem st_T {o1 o2 : Addr → Prop} (h1 : ∀ p, o1 p → o p) (h2 : ∀ p, o2 p → o p) (hd : ∀ p, o1 p → ¬ o2 p) (k : t.ok B H o1 v z) (S : StOk Γs vs B H o2) : StOk (.tre v t z :: Γs) (v :: vs) B H o := st_cons (o1 := o1) (fun σ e => ⟨e, k⟩) h1 h2 hd S
theorem frm_startM {N : List Str} {n : Nat} (S : StOk Γs vs B H o) (z : SzT H B) (s : Same B H) (ho : ∀ p, o p → B p = none ∧ H p ≠ none ∧ ¬ isTab p) (hN : N.length = vs.length + n) : Frm (ambM B H o) (L2.start N vs) H B (Γs ++ List.replicate n .no) := by
  obtain ⟨hl, ow, hs, dj, oo⟩ := S
  refine ⟨⟨s, Same.refl _, fun _ _ _ _ e => e, fun _ _ e => e, fun _ n => n, s, ⟨fun q m => (ho q m).2.1, fun q m => (ho q m).2.2, fun _ m n => z.tb.ne n m⟩, trivial, z.sz, z.tb⟩, ?_, ow, fun i s' e => ?_, dj, fun i q h => ⟨(ho q (oo i q h)).1, (ho q (oo i q h)).2.1, .inr (oo i q h)⟩⟩
  · rw [start_len (by omega), List.length_append, List.length_replicate, hl]; exact hN
  · rcases rep_sp e with e | rfl
    · exact hs i s' e _ fun v hv => start_get hv
    · trivial
class Mm (w : Mw γ α) : Prop where
  up : ∀ {B H o o' vs g}, (∀ p, o p → o' p) → w.own B H o vs g → w.own B H o' vs g
instance : Mm mwN := ⟨fun _ h => h⟩
instance (r : Rp ρ) (w : Mw γ α) [m : Mm w] : Mm (mwI r w) := ⟨fun n ⟨v, t, e, k⟩ => ⟨v, t, e, m.up n k⟩⟩
instance (c : Cl κ) (w : Mw γ α) [m : Mm w] : Mm (mwK c w) := ⟨fun n ⟨p, t, u, e, op, hp, k, q⟩ => ⟨p, t, u, e, n p op, hp, k, m.up (fun q z => ⟨n q z.1, z.2⟩) q⟩⟩
instance (c : Tr τ) (w : Mw γ α) [m : Mm w] : Mm (mwT c w) := ⟨fun n ⟨v, t, o1, o2, e, h1, h2, hd, k, q⟩ => ⟨v, t, o1, o2, e, fun p z => n p (h1 p z), fun p z => n p (h2 p z), hd, k, q⟩⟩
def OwnAt (Γ : List Sl) (n k : Nat) (w : Mw γ α) (vs : List V) (g : γ) : Prop := ∀ A σ H B ow, Own A σ H B Γ ow → w.own B H (fun p => ∃ j, k ≤ j ∧ j < n ∧ ow j p) vs g
variable {n : Nat}
theorem oa_N : OwnAt Γ n k mwN [] () := fun _ _ _ _ _ _ => rfl
theorem oa_I [m : Mm w] (h : OwnAt Γ n (k + 1) w vs g) : OwnAt Γ n k (mwI r w) (v :: vs) g := fun A σ H B ow W => ⟨v, vs, rfl, m.up (fun p ⟨j, hj, z⟩ => ⟨j, by omega, z⟩) (h A σ H B ow W)⟩
theorem oa_K [m : Mm w] (e : Γ[k]? = some (.cel p c y)) (h : OwnAt Γ n (k + 1) w vs g) (hk : k < n := by decide) : OwnAt Γ n k (mwK c w) (.ref p :: vs) (y, g) := fun A σ H B ow W => by
  obtain ⟨_, op, u, hu, q⟩ := W.so k _ e
  refine ⟨p, vs, u, rfl, ⟨k, Nat.le_refl _, hk, op⟩, hu, q, m.up (fun b ⟨j, hj, hn, z⟩ => ⟨⟨j, by omega, hn, z⟩, fun e2 => ?_⟩) (h A σ H B ow W)⟩
  have := W.dj j k p (by rw [← e2]; exact z) op
  omega
theorem oa_T [m : Mm w] (e : Γ[k]? = some (.tre v t z)) (h : OwnAt Γ n (k + 1) w vs g) (hk : k < n := by decide) : OwnAt Γ n k (mwT t w) (v :: vs) (z, g) := fun A σ H B ow W => by
  obtain ⟨_, q⟩ := W.so k _ e
  refine ⟨v, vs, ow k, fun p => ∃ j, k + 1 ≤ j ∧ j < n ∧ ow j p, rfl, fun p z => ⟨k, Nat.le_refl _, hk, z⟩, fun p ⟨j, hj, z⟩ => ⟨j, by omega, z⟩, fun p z1 ⟨j, hj, _, z2⟩ => ?_, q, h A σ H B ow W⟩
  have := W.dj j k p z2 z1
  omega
section
variable {te : TE} {D : Ends} {u : TS} {rb : Rp β} {b : β} {bb : β × γ}
variable {H0 : Hp} {mo : Addr → Prop}
theorem nx_retM (am : AtM A H0 mo) (h : EvX rb te Γ Γ1 b) (ho : OwnAt Γ1 n 0 w vs g) (e : some (b, g) = some bb) (k : Rt A (psiM H0 mo w vs (tI rb)) bb D.rt) : Nx A (tRet te D) Γ := fun σ H B F => h A σ H B F _ fun v H' B' F' _ q => by
  obtain ⟨ow, W⟩ := F'.own
  cases e
  exact k H' B' v F'.post ⟨fun _ => False, _, fun _ z => z.elim, fun p ⟨j, _, _, z⟩ => am.hot (W.ht j p z), fun _ z => z.elim, q, ho A σ H' B' ow W⟩
theorem sq_retM (am : AtM A H0 mo) (h : EvX rb te Γ Γ1 b) (ho : OwnAt Γ1 n 0 w vs g) (e : some (b, g) = some bb) (k : Rt A (psiM H0 mo w vs (tI rb)) bb D.rt) : Nx A (tSeq (tRet te) u D) Γ := nx_retM (D := { D with nx := u D }) am h ho e k
theorem sq_retMV {cb : Cl β} (am : AtM A H0 mo) (hi : Γ[i]? = some (.cel p cb b)) (hp : ¬ A.m p) (hn : ¬ i < n) (ho : OwnAt Γ n 0 w vs g) (e : some (b, g) = some bb) (k : Rt A (psiM H0 mo w vs (tK cb)) bb D.rt) : Nx A (tSeq (tRet (tVar i)) u D) Γ := fun σ H B F => by
  obtain ⟨ow, W⟩ := id F.own
  obtain ⟨e1, op, u, hu, q⟩ := W.so i _ hi
  cases e
  refine ⟨_, e1, k H B _ F.post ⟨fun q => q = p, _, fun q z => ?_, fun p ⟨j, _, _, z⟩ => am.hot (W.ht j p z), fun q z ⟨j, _, hj, z2⟩ => ?_, ⟨p, u, rfl, rfl, hu, q⟩, ho A σ H B ow W⟩⟩
  · rw [z]; exact ⟨am.hot (W.ht i p op), by rw [← am.h]; exact (W.ht i p op).2.2.resolve_right hp⟩
  · have := W.dj j i p (by rw [← z]; exact z2) op
    omega
end
abbrev AR := L2.St → Hp → List V → Prop
def EvA (ta : TA) (Γ Γ' : List Sl) (R : AR) : Prop := ∀ (A : Amb) (σ : L2.St) (H B : Hp), Frm A σ H B Γ → ∀ Q : List V → Hp → Prop, (∀ vs H' B', Frm A σ H' B' Γ' → Same B B' → R σ B' vs → Q vs H') → ta σ H Q
def ra0 : AR := fun _ _ vs => vs = []
def raI (r : Rp ρ) (x : ρ) (R : AR) : AR := fun σ B vs => ∃ v t, vs = v :: t ∧ r.rel B v x ∧ R σ B t
def raV (i : Nat) (R : AR) : AR := fun σ B vs => ∃ v t, vs = v :: t ∧ σ[i]? = some (some v) ∧ R σ B t
variable {R : AR} {ta te : TE} {tr : TA}
theorem ea_0 : EvA tNil Γ Γ ra0 := fun A σ H B F Q q => q _ H B F (Same.refl _) rfl
theorem ea_I (h : EvX r te Γ Γ1 x) (hr : EvA tr Γ1 Γ2 R) : EvA (tCons te tr) Γ Γ2 (raI r x R) := fun A σ H B F Q q =>
  h A σ H B F _ fun v H1 B1 F1 s1 k1 => hr A σ H1 B1 F1 _ fun vs H2 B2 F2 s2 k2 => q _ H2 B2 F2 (s1.trans s2) ⟨v, vs, rfl, r.mono s2 k1, k2⟩
theorem ea_K (e : Γ[i]? = some (.cel p c y)) (hr : EvA tr Γ Γ2 R) : EvA (tCons (tVar i) tr) Γ Γ2 (raV i R) := fun A σ H B F Q q => by
  have hv := (F.sl i _ e).1
  exact ⟨_, hv, hr A σ H B F _ fun vs H2 B2 F2 s2 k2 => q _ H2 B2 F2 s2 ⟨_, vs, rfl, hv, k2⟩⟩
theorem ea_T (e : Γ[i]? = some (.tre v t z)) (hr : EvA tr Γ Γ2 R) : EvA (tCons (tVar i) tr) Γ Γ2 (raV i R) := fun A σ H B F Q q => by
  have hv := (F.sl i _ e).1
  exact ⟨_, hv, hr A σ H B F _ fun vs H2 B2 F2 s2 k2 => q _ H2 B2 F2 s2 ⟨_, vs, rfl, hv, k2⟩⟩
def CallOk (Γ : List Sl) (R : AR) (w : Mw γ α) (is : List Nat) (g : γ) (a : α) : Prop := ∀ A σ H B ow, Own A σ H B Γ ow → ∀ vs, R σ B vs → w.own B H (fun p => ∃ i, i ∈ is ∧ ow i p) vs g ∧ w.imm B vs a
theorem co_0 : CallOk Γ ra0 mwN [] () () := fun _ _ _ _ _ _ _ h => ⟨h, h⟩
theorem co_I (h : CallOk Γ R w is g a) : CallOk Γ (raI r x R) (mwI r w) is g (x, a) := fun A σ H B ow W vs ⟨v, t, e, k, q⟩ => by
  obtain ⟨h1, h2⟩ := h A σ H B ow W t q
  exact ⟨⟨v, t, e, h1⟩, v, t, e, k, h2⟩
theorem co_K [m : Mm w] (e : Γ[i]? = some (.cel p c y)) (n : i ∉ is) (h : CallOk Γ R w is g a) : CallOk Γ (raV i R) (mwK c w) (i :: is) (y, g) a := fun A σ H B ow W vs ⟨v, t, e2, hv, q⟩ => by
  obtain ⟨h1, h2⟩ := h A σ H B ow W t q
  obtain ⟨e3, op, u, hu, k⟩ := W.so i _ e
  rw [hv] at e3
  cases e3
  refine ⟨⟨p, t, u, e2, ⟨i, List.mem_cons_self, op⟩, hu, k, m.up (fun b ⟨j, hj, z⟩ => ⟨⟨j, List.mem_cons_of_mem _ hj, z⟩, fun e4 => ?_⟩) h1⟩, _, t, e2, h2⟩
  have := W.dj j i p (by rw [← e4]; exact z) op
  rw [this] at hj; exact n hj
theorem co_T [m : Mm w] (e : Γ[i]? = some (.tre v t z)) (n : i ∉ is) (h : CallOk Γ R w is g a) : CallOk Γ (raV i R) (mwT t w) (i :: is) (z, g) a := fun A σ H B ow W vs ⟨v', t', e2, hv, q⟩ => by
  obtain ⟨h1, h2⟩ := h A σ H B ow W t' q
  obtain ⟨e3, k⟩ := W.so i _ e
  rw [hv] at e3
  cases e3
  refine ⟨⟨_, t', ow i, fun p => ∃ j, j ∈ is ∧ ow j p, e2, fun p z => ⟨i, List.mem_cons_self, z⟩, fun p ⟨j, hj, z⟩ => ⟨j, List.mem_cons_of_mem _ hj, z⟩, fun p z1 ⟨j, hj, z2⟩ => ?_, k, h1⟩, _, t', e2, h2⟩
  have := W.dj j i p z2 z1
  rw [this] at hj; exact n hj
def BackOk (Γ1 Γ2 : List Sl) (R : AR) (w : Mw γ α) (is : List Nat) (g : γ) : Prop := ∀ (σ : L2.St) (B H B' H' : Hp) (vs : List V) (o : Addr → Prop), (∀ i s, i ∈ is → Γ1[i]? = some s → ∃ o, SlO σ H B o i s) → R σ B vs → w.own B' H' o vs g →
  ∃ pc : Nat → Addr → Prop, (∀ i s, i ∈ is → Γ2[i]? = some s → SlO σ H' B' (pc i) i s) ∧ (∀ i p, pc i p → o p ∧ i ∈ is) ∧ ∀ i j p, pc i p → pc j p → i = j
theorem bo_0 : BackOk Γ1 Γ2 ra0 mwN [] () := fun σ B H B' H' vs o _ _ _ => ⟨fun _ _ => False, fun _ _ h => (nomatch h), fun _ _ h => h.elim, fun _ _ _ h => h.elim⟩
theorem bo_I (h : BackOk Γ1 Γ2 R w is g) : BackOk Γ1 Γ2 (raI r x R) (mwI r w) is g := fun σ B H B' H' vs o hs ⟨v, t, e, _, q⟩ ⟨v', t', e', k⟩ => by
  rw [e] at e'; cases e'
  exact h σ B H B' H' t o hs q k
theorem bo_put {o o1 o2 : Addr → Prop} {σ : L2.St} {B' H' : Hp} {s : Sl} {pc : Nat → Addr → Prop} (n : i ∉ is) (e : Γ2[i]? = some s) (h1 : ∀ p, o1 p → o p) (h2 : ∀ p, o2 p → o p) (hd : ∀ p, o1 p → ¬ o2 p) (so : SlO σ H' B' o1 i s)
    (a1 : ∀ i s, i ∈ is → Γ2[i]? = some s → SlO σ H' B' (pc i) i s) (a2 : ∀ i p, pc i p → o2 p ∧ i ∈ is) (a3 : ∀ i j p, pc i p → pc j p → i = j) :
    ∃ pc : Nat → Addr → Prop, (∀ j s, j ∈ i :: is → Γ2[j]? = some s → SlO σ H' B' (pc j) j s) ∧ (∀ j p, pc j p → o p ∧ j ∈ i :: is) ∧ ∀ i j p, pc i p → pc j p → i = j := by
  refine ⟨fun j p => if j = i then o1 p else pc j p, fun j s' hj ej => ?_, fun j p hj => ?_, fun j l p hj hl => ?_⟩
  · by_cases c : j = i
    · subst c; rw [e] at ej; cases ej; simpa using so
    · have := a1 j s' ((List.mem_cons.mp hj).resolve_left c) ej
      simpa [if_neg c] using this
  · have hj : (if j = i then o1 p else pc j p) := hj
    by_cases c : j = i
    · rw [if_pos c] at hj; exact ⟨h1 p hj, by rw [c]; exact List.mem_cons_self⟩
    · rw [if_neg c] at hj; exact ⟨h2 p (a2 j p hj).1, List.mem_cons_of_mem _ (a2 j p hj).2⟩
  · have hj : (if j = i then o1 p else pc j p) := hj
    have hl : (if l = i then o1 p else pc l p) := hl
    by_cases c : j = i
    · by_cases d : l = i
      · rw [c, d]
      · rw [if_pos c] at hj; rw [if_neg d] at hl; exact absurd (a2 l p hl).1 (hd p hj)
    · by_cases d : l = i
      · rw [if_neg c] at hj; rw [if_pos d] at hl; exact absurd (a2 j p hj).1 (hd p hl)
      · rw [if_neg c] at hj; rw [if_neg d] at hl; exact a3 j l p hj hl
theorem bo_K {y' : κ} (e : Γ1[i]? = some (.cel p c y)) (e2 : Γ2[i]? = some (.cel p c y')) (n : i ∉ is) (h : BackOk Γ1 Γ2 R w is g) : BackOk Γ1 Γ2 (raV i R) (mwK c w) (i :: is) (y', g) := fun σ B H B' H' vs o hs ⟨v, t, ev, hv, q⟩ ⟨p', t', u, ev', op, hp, k, kw⟩ => by
  rw [ev] at ev'; cases ev'
  obtain ⟨_, e3, _⟩ := hs i _ List.mem_cons_self e
  rw [hv] at e3; cases e3
  obtain ⟨pc, a1, a2, a3⟩ := h σ B H B' H' t _ (fun j s hj ej => hs j s (List.mem_cons_of_mem _ hj) ej) q kw
  exact bo_put n e2 (o1 := fun q => q = p) (fun q z => by rw [z]; exact op) (fun q z => z.1) (fun q z m => m.2 z) ⟨hv, rfl, u, hp, k⟩ a1 a2 a3
theorem bo_T {z' : τ} (e : Γ1[i]? = some (.tre v t z)) (e2 : Γ2[i]? = some (.tre v t z')) (n : i ∉ is) (h : BackOk Γ1 Γ2 R w is g) : BackOk Γ1 Γ2 (raV i R) (mwT t w) (i :: is) (z', g) := fun σ B H B' H' vs o hs ⟨v1, t1, ev, hv, q⟩ ⟨v2, t2, o1, o2, ev', h1, h2, hd, k, kw⟩ => by
  rw [ev] at ev'; cases ev'
  obtain ⟨_, e3, _⟩ := hs i _ List.mem_cons_self e
  rw [hv] at e3; cases e3
  obtain ⟨pc, a1, a2, a3⟩ := h σ B H B' H' t1 _ (fun j s hj ej => hs j s (List.mem_cons_of_mem _ hj) ej) q kw
  exact bo_put n e2 h1 h2 hd ⟨hv, k⟩ a1 a2 a3
def setAll (Γ : List Sl) : List (Nat × Sl) → List Sl
  | [] => Γ
  | (i, s) :: us => setAll (Γ.set i s) us
theorem setAll_len : ∀ (us : List (Nat × Sl)) (Γ : List Sl), (setAll Γ us).length = Γ.length
  | [], _ => rfl
  | (i, s) :: us, Γ => by unfold setAll; rw [setAll_len us, List.length_set]
theorem setAll_off : ∀ (us : List (Nat × Sl)) (Γ : List Sl) (j : Nat), j ∉ us.map (·.1) → (setAll Γ us)[j]? = Γ[j]?
  | [], _, _, _ => rfl
  | (i, s) :: us, Γ, j, h => by
    unfold setAll
    rw [setAll_off us _ j fun z => h (List.mem_cons_of_mem _ z), List.getElem?_set_ne fun z => h (by rw [z]; exact List.mem_cons_self)]
theorem after_callM {σ : L2.St} {H1 B1 H2 B2 : Hp} {ow : Nat → Addr → Prop} {o1 o2 : Addr → Prop} {g' : γ} (F1 : Frm A σ H1 B1 Γ1) (W : Own A σ H1 B1 Γ1 ow) (bo : BackOk Γ1 Γ2 R w is g') (hl : Γ2.length = Γ1.length) (off : ∀ j, j ∉ is → Γ2[j]? = Γ1[j]?) (k1 : R σ B1 vs)
    (P : Post (ambM B1 H1 fun p => ∃ i, i ∈ is ∧ ow i p) H2 B2) (f1 : ∀ p, o1 p → H1 p = none) (ho : ∀ p, o2 p → HotM H1 (fun p => ∃ i, i ∈ is ∧ ow i p) H2 B2 p) (hd : ∀ p, o1 p → ¬ o2 p) (kw : w.own B2 H2 o2 vs g') : ∃ ow2, Own A σ H2 B2 Γ2 ow2 ∧ Post A H2 B2 ∧ ∀ j p, o1 p → ¬ ow2 j p := by
  obtain ⟨pc, a1, a2, a3⟩ := bo σ B1 H1 B2 H2 vs o2 (fun i s _ es => ⟨ow i, W.so i s es⟩) k1 kw
  have no : ∀ j q, j ∉ is → ow j q → ¬ ∃ i, i ∈ is ∧ ow i q := fun j q nj z ⟨i, hi, z2⟩ => nj (by rw [W.dj j i q z z2]; exact hi)
  refine ⟨fun j p => (j ∈ is ∧ pc j p) ∨ (j ∉ is ∧ ow j p), ⟨fun j s ej => ?_, fun j l p hj hl => ?_, fun j p hj => ?_⟩, ⟨P.bh, fun p o e => P.b0 p o (F1.b0 p o e), fun p o nm nt e => P.keep p o (fun ⟨i, _, z⟩ => ?_) nt (F1.keep p o nm nt e), fun p n z => P.out p (F1.alive p n) (F1.out p n z), fun p n => P.alive p (F1.alive p n), F1.sub, F1.mh, A.up _ _ P.b0 F1.ph, P.sz, P.tb⟩, fun j p h1 h => ?_⟩
  · by_cases c : j ∈ is
    · exact slo_mono (a1 j s c ej) rfl (Same.refl _) (fun _ _ _ z => z) fun p z => .inl ⟨c, z⟩
    · rw [off j c] at ej
      exact slo_mono (W.so j s ej) rfl P.b0 (fun p u z hu => P.keep p u (no j p c z) ((W.ht j p z).nt F1.mh) hu) fun p z => .inr ⟨c, z⟩
  · rcases hj with ⟨c, z⟩ | ⟨c, z⟩
    · rcases hl with ⟨d, z2⟩ | ⟨d, z2⟩
      · exact a3 j l p z z2
      · rcases (ho p (a2 j p z).1).2.2 with m | m
        · exact absurd m (W.ht l p z2).2.1
        · exact absurd m (no l p d z2)
    · rcases hl with ⟨d, z2⟩ | ⟨d, z2⟩
      · rcases (ho p (a2 l p z2).1).2.2 with m | m
        · exact absurd m (W.ht j p z).2.1
        · exact absurd m (no j p c z)
      · exact W.dj j l p z z2
  · rcases hj with ⟨c, z⟩ | ⟨c, z⟩
    · obtain ⟨h1, h2, h3⟩ := ho p (a2 j p z).1
      refine ⟨h1, h2, ?_⟩
      rcases h3 with m | ⟨i, _, z3⟩
      · exact .inl (F1.H0none m)
      · exact (W.ht i p z3).2.2
    · have h := W.ht j p z
      exact ⟨P.out p h.2.1 h.1, P.alive p h.2.1, h.2.2⟩
  · rcases (W.ht i p z).2.2 with m | m
    · rw [m] at e; cases e
    · exact nm m
  · rcases h with ⟨c, z⟩ | ⟨c, z⟩
    · exact hd p h1 (a2 j p z).1
    · exact (W.ht j p z).2.1 (f1 p h1)
theorem ev_callM {us : List (Nat × Sl)} {rb : Rp β} {m : γ → α → Option (β × γ)} {b : β} {g' : γ} {E : XK} (h : EvA tr Γ Γ1 R) (co : CallOk Γ1 R w is g a) (bo : BackOk Γ1 (setAll Γ1 us) R w is g') (e : m g a = some (b, g')) (hu : us.map (·.1) = is := by rfl) : EvX rb (tCall (SpM w (tI rb) m) [] E tr) Γ (setAll Γ1 us) b := fun A σ H B F Q q => h A σ H B F _ fun vs H1 B1 F1 s1 k1 => by
  rw [List.append_nil]
  obtain ⟨ow, W⟩ := id F1.own
  obtain ⟨c1, c2⟩ := co A σ H1 B1 ow W vs k1
  refine ⟨B1, _, g, a, (b, g'), F1.szt, F1.bh, fun p ⟨i, _, z⟩ => ⟨(W.ht i p z).1, (W.ht i p z).2.1, (W.ht i p z).nt F1.mh⟩, c1, c2, e, fun H2 B2 v P ⟨o1, o2, h1, h2, hd, kv, kw⟩ => ?_⟩
  obtain ⟨ow2, W2, P2, _⟩ := after_callM F1 W bo (setAll_len _ _) (fun j hj => setAll_off _ _ _ (by rw [hu]; exact hj)) k1 P (o1 := o1) (fun p z => (h1 p z).2) h2 hd kw
  exact q v H2 B2 ⟨P2, by rw [setAll_len]; exact F1.len, ow2, W2⟩ (s1.trans P.b0) kv
theorem ec_callM {us : List (Nat × Sl)} {cb : Cl β} {m : γ → α → Option (β × γ)} {b : β} {g' : γ} {E : XK} (h : EvA tr Γ Γ1 R) (co : CallOk Γ1 R w is g a) (bo : BackOk Γ1 (setAll Γ1 us) R w is g') (e : m g a = some (b, g')) (hu : us.map (·.1) = is := by rfl) : EvC cb (tCall (SpM w (tK cb) m) [] E tr) Γ (setAll Γ1 us) b := fun A σ H B F Q q => h A σ H B F _ fun vs H1 B1 F1 s1 k1 => by
  rw [List.append_nil]
  obtain ⟨ow, W⟩ := id F1.own
  obtain ⟨c1, c2⟩ := co A σ H1 B1 ow W vs k1
  refine ⟨B1, _, g, a, (b, g'), F1.szt, F1.bh, fun p ⟨i, _, z⟩ => ⟨(W.ht i p z).1, (W.ht i p z).2.1, (W.ht i p z).nt F1.mh⟩, c1, c2, e, fun H2 B2 v P ⟨o1, o2, h1, h2, hd, ⟨p, u, ev, op, hp, kc⟩, kw⟩ => ?_⟩
  obtain ⟨ow2, W2, P2, nw⟩ := after_callM F1 W bo (setAll_len _ _) (fun j hj => setAll_off _ _ _ (by rw [hu]; exact hj)) k1 P (o1 := o1) (fun p z => (h1 p z).2) h2 hd kw
  have hn : H1 p = none := (h1 p op).2
  have h0 := F1.H0none hn
  subst ev
  refine q p u H2 B2 ⟨P2.hide h0 hp (h1 p op).1.1, by rw [setAll_len]; exact F1.len, ow2, W2.so, W2.dj, fun j b z => ?_⟩ h0 (s1.trans P.b0) kc
  obtain ⟨z1, z2, z3⟩ := W2.ht j b z
  refine ⟨z1, z2, ?_⟩
  rcases z3 with m | m
  · left
    have : b ≠ p := fun e => nw j p op (by rw [← e]; exact z)
    show upd A.H0 p u b = none
    rw [upd_ne this]; exact m
  · exact .inr m
end
end G
namespace G
variable [TabL]
open PySem PySem.Spec PyProof.Rows L2
section
variable {α β γ δ ρ : Type} {r ra : Rp α} {rx : Rp β} {te ta tj : TE} {A : Amb} {D : Ends} {Γ Γ1 Γ2 : List Sl} {i k : Nat} {K : PySem.W.Frag} {u : TS} {p : Addr} {xs ys : List α} {x0 : List β} {y : α} {j : Int}
def pyPop (xs : List α) (j : Int) : Option (α × List α) := match seqIndex? j xs.length with
  | some n => match xs[n]? with
    | some y => if -(2 ^ 63) ≤ j ∧ j < 2 ^ 63 then some (y, xs.eraseIdx n) else none
    | none => none
  | none => none
theorem ev_popCel (h : EvX rInt te Γ Γ1 j) (hi0 : Γ[i]? = some (.cel p (cLst rx) x0)) (hi : Γ1[i]? = some (.cel p (cLst r) xs)) (e : pyPop xs j = some (y, ys)) : EvX r (tBM K "list" rPopAt (tVar i) (tCons te tNil)) Γ (Γ1.set i (.cel p (cLst r) ys)) y := fun A σ H B F Q q => by
  unfold pyPop at e
  split at e
  · rename_i n hn
    split at e
    · rename_i z hz
      split at e
      · rename_i hb
        cases e
        obtain ⟨e1, vs, hp, kp⟩ := cel_lst F hi0
        refine ⟨_, e1, .inl ⟨rfl, vs, SqL.of hp⟩, h A σ H B F _ fun v H1 B1 F1 s1 k1 => ?_⟩
        obtain ⟨e2, vs2, hp2, kp2⟩ := cel_lst F1 hi
        obtain ⟨o, ho, ko⟩ := Paired.getR kp2 hz
        refine ⟨p, vs2, j, n, o, rfl, by rw [show v = _ from k1], hp2, hb.1, hb.2, by rw [Paired.len kp2]; exact hn, ho, q o _ B1 (F1.write hi (c' := cLst r) (o' := .lst (vs2.eraseIdx n)) ⟨_, rfl, Paired.eraseR n kp2⟩ ?_) s1 ko⟩
        show (vs2.eraseIdx n).length ≤ sizeLine
        exact Nat.le_trans (List.length_eraseIdx_le ..) (F1.sz _ _ hp2)
      · cases e
    · cases e
  · cases e
def rInsC : V → List V → Hp → VK → Prop := fun x vs H Q => ∃ (l : Addr) (xs : List V) (i : Int) (y : V), x = .ref l ∧ vs = [.int i, y] ∧ H l = some (.lst xs) ∧ xs.length < sizeLine ∧ 0 ≤ i ∧ i < 2 ^ 63 ∧
    Q .non (upd H l (.lst (xs.take i.toNat ++ [y] ++ xs.drop i.toNat)))
theorem mt_ins {X : Cx} : MtR X "list.insert" rInsC := mt_insert
def pyIns (xs : List α) (i : Int) (y : α) : Option (List α) := if xs.length < 1000000 ∧ 0 ≤ i ∧ i < 2 ^ 63 then some (xs.take i.toNat ++ [y] ++ xs.drop i.toNat) else none
theorem sq_insCel {tb : TE} (h : EvX rInt te Γ Γ1 j) (hb : EvX r tb Γ1 Γ2 y) (hi0 : Γ[i]? = some (.cel p (cLst rx) x0)) (hi : Γ2[i]? = some (.cel p (cLst r) xs)) (e : pyIns xs j y = some ys) (k : Nx A (u D) (Γ2.set i (.cel p (cLst r) ys))) :
    Nx A (tSeq (tDrop (tBM K "list" rInsC (tVar i) (tCons te (tCons tb tNil)))) u D) Γ := fun σ H B F => by
  unfold pyIns at e
  split at e
  · rename_i hh
    cases e
    obtain ⟨e1, vs, hp, kp⟩ := cel_lst F hi0
    refine ⟨_, e1, .inl ⟨rfl, vs, SqL.of hp⟩, h A σ H B F _ fun v H1 B1 F1 s1 k1 => hb A σ H1 B1 F1 _ fun v2 H2 B2 F2 s2 k2 => ?_⟩
    obtain ⟨e2, vs2, hp2, kp2⟩ := cel_lst F2 hi
    have hz : vs2.length < sizeLine := by rw [Paired.len kp2]; exact Nat.lt_of_lt_of_le hh.1 (by decide)
    refine ⟨p, vs2, j, v2, rfl, by rw [show v = _ from k1], hp2, hz, hh.2.1, hh.2.2, k σ _ B2 (F2.write hi (c' := cLst r) (o' := .lst (vs2.take j.toNat ++ [v2] ++ vs2.drop j.toNat)) ⟨_, rfl, Paired.app (Paired.app (Paired.takeN _ kp2) (.cons k2 .nil)) (Paired.dropN _ kp2)⟩ ?_)⟩
    show (vs2.take j.toNat ++ [v2] ++ vs2.drop j.toNat).length ≤ sizeLine
    rw [List.length_append, List.length_append, List.length_take, List.length_drop, List.length_singleton]
    omega
  · cases e
end
end G
set_option maxHeartbeats 4000000
namespace G
variable [TabL]
open PySem PySem.Spec PyProof.Rows L2
def SpF2 (C : Addr) (n1 n2 : Str) : Sp := fun vs H Q _ => ∃ a v u, vs = [.ref a, v, u] ∧ H a = some (exo a C none) ∧ ∀ dx, H dx = none → dx ≠ a → Q .non (upd (upd (upd H dx (exd dx [(n1, v)])) a (exo a C (some dx))) dx (exd dx [(n2, u), (n1, v)]))
section
variable {P : Program} {w : World} {K : PySem.W.Frag} {mg : Str → Option Value} {base : Heap}
theorem okE2 {f C : Addr} {fd : FuncData} {st : Stmt} {N : List Str} {qual n1 n2 p1 p2 : Str} {pos1 pos2 pos3 pos4 pos5 pos6 pos7 pos8 : Pos} (F : Fun K "__init__" qual st f fd) (S : FnScope N ["self", p1, p2] (defScope st)) (T : OexC K C) (na1 : PySem.W.findIn K (.ref C) n1 = some none) (na2 : PySem.W.findIn K (.ref C) n2 = some none)
    (hb : defBody st = [.Assign [.Attribute (.Name "self" pos1) n1 pos2] (.Name p1 pos3) pos4, .Assign [.Attribute (.Name "self" pos5) n2 pos6] (.Name p2 pos7) pos8]) (h0 : N[0]? = some ("self" : Str)) (h1 : N[1]? = some p1) (h2 : N[2]? = some p2) (v0 : Vis (defScope st) ("self" : Str)) (v1 : Vis (defScope st) p1) (v2 : Vis (defScope st) p2)
    (d0 : (p1 == ("__debug__" : Str)) = false) (d1 : (p1 == ("__classdict__" : Str)) = false) (d2 : (p2 == ("__debug__" : Str)) = false) (d3 : (p2 == ("__classdict__" : Str)) = false) (hl : N.length = 3) : FnOk P w K mg base CX0 1 f fd ["self", p1, p2] (SpF2 C n1 n2) := by
  refine F.ok S (fun vs H Q E h => ?_) (fun cdv A outer s H vs Q E hr h => ?_)
  · obtain ⟨a, v, u, rfl, _⟩ := h; rfl
  · obtain ⟨a, v, u, rfl, ha, k⟩ := h
    rw [hb]
    refine ⟨_, pss_cons (ps_ost (pe_var (i := 0) h0 v0) (pe_var (i := 1) h1 v1 d0 d1)) (pss_cons (ps_ost (pe_var (i := 0) h0 v0) (pe_var (i := 2) h2 v2 d2 d3)) pss_nil), ?_⟩
    have hN : L2.start N [.ref a, v, u] = [some (.ref a), some v, some u] := by
      unfold L2.start; simp [hl]
    rw [hN]
    refine ⟨v, rfl, _, rfl, a, C, rfl, T, na1, .inl ⟨ha, fun dx n ne => ⟨u, rfl, _, rfl, a, C, rfl, T, na2, .inr ⟨dx, [(n1, v)], upd_same, ?_, (by show 1 ≤ 900; decide), k dx n ne⟩⟩⟩⟩
    rw [upd_ne ne, upd_same]
end
theorem del_made2 {H : Hp} {a dx : Addr} {o1 o2 o3 o4 o5 : HO} (ha : H a = none) (ne : dx ≠ a) : upd (del (upd (upd (upd (upd H a o1) dx o2) a o3) dx o4) a) dx o5 = upd H dx o5 := by
  funext c
  by_cases h1 : c = dx
  · rw [h1, upd_same, upd_same]
  · rw [upd_ne h1, upd_ne h1]
    by_cases h2 : c = a
    · rw [h2, del_same, ha]
    · rw [del_ne h2, upd_ne h1, upd_ne h2, upd_ne h1, upd_ne h2]
section
variable {α β γ ρ ς ε : Type} {r : Rp α} {rb : Rp β} {te tb : TE} {Γ Γ1 Γ2 : List Sl} {K : PySem.W.Frag} {a : α} {b : β} {C : Addr} {A : Amb} {D : Ends} {u : TS} {R : ER ε} {E : XK}
theorem sq_raise2 {n1 n2 : Str} {W : WX} {e : ε} (h : EvX r te Γ Γ1 a) (h2 : EvX rb tb Γ1 Γ2 b) (hn : n1 ≠ n2) (k : RtE A R e E) (hR : ∀ B cls d, ErAt B cls d C [n1, n2] (wC r (w1 rb)) (a, b) → R B cls d e) (hW : ∀ cls d σ H, E cls d H → W cls d σ H) :
    Nx A (tSeq (fun _ σ H => tMkO C (SpF2 C n1 n2) [] (tCons te (tCons tb tNil)) σ H fun cls d H' => W cls d σ H') u D) Γ := fun σ H B F => h A σ H B F _ fun v H0 B0 F0 s0 k0 => h2 A σ H0 B0 F0 _ fun v2 H1 B1 F1 s1 k1 => by
  refine ⟨by show 2 ≤ 1000; decide, fun x hx => ⟨x, v, v2, rfl, upd_same, fun dx n ne => ⟨rfl, dx, [(n2, v2), (n1, v)], ?_, upd_same, ?_, ?_⟩⟩⟩
  · rw [upd_ne (Ne.symm ne), upd_same]
  · rw [upd_ne ne] at n; exact n
  · have m1 : H1 dx = none := by rw [upd_ne ne] at n; exact n
    rw [del_made2 hx ne]
    have up : Same B1 (upd B1 dx (.xd [(n2, v2), (n1, v)])) := fun b o q => by rw [upd_ne (ne_of_none (F1.bh b o q) m1)]; exact q
    refine hW _ _ _ _ (k _ _ _ _ (F1.plus (o := .xd [(n2, v2), (n1, v)]) m1 trivial).post (hR _ _ _ ⟨rfl, dx, [(n2, v2), (n1, v)], [v, v2], rfl, upd_same, ⟨v, [v2], rfl, ?_, v2, rfl, ?_⟩, fun j m hj => ?_⟩))
    · exact r.mono (s1.trans up) k0
    · exact rb.mono up k1
    · have e1 : (n1 == n2) = false := by simpa using hn
      cases j with
      | zero => simp at hj; subst hj; simp [List.lookup, e1]
      | succ j => cases j with
        | zero => simp at hj; subst hj; simp [List.lookup]
        | succ j => simp at hj
end
end G
namespace G
variable [TabL]
open PySem PySem.Spec PyProof.Rows L2
section
variable {α β γ : Type} {r : Rp α} {ra : Rp γ} {rb : Rp β} {te : TE} {Γ : List Sl} {b : β}
end
end G
namespace G
variable [TabL]
open PySem PySem.Spec PyProof.Rows L2
def tMx (C : Addr) (m : Str) (sp : Sp) (E : L2.St → XK) (ta : TE) (t : TA) : TE := fun σ H Q => ta σ H fun x H1 => ∃ a dx fs, x = .ref a ∧ H1 a = some (.ins C dx fs) ∧ fs.lookup m = none ∧ t σ H1 fun vs H2 => sp (x :: vs) H2 Q (E σ)
section
variable {X : Cx} {CX : CXT} {k : Nat} {f C : Addr} {fd : FuncData} {ps : List Str} {m : Str} {sp : Sp} {E : L2.St → XK} {o e : Expr} {es : List Expr} {ta : TE} {t : TA} {apos pos : Pos}
theorem pe_methX {pl : Sem Bool} (he : PE X o ta) (c : Cls X.K C) (hm : Meth X.K C m f) (F : FnOk X.prog X.w X.K X.mg X.base CX k f fd ps sp) (hr : Room k X.A) (hb : Binds X.K fd ps []) (hx : ∀ σ, PassesAt CX X σ (E σ)) (ha : PA X (e :: es) t)
    (hst : starEach (e :: es) X.env = (false, eval e X.env) :: starEach es X.env := by rfl) (hpl : (backTo pos (starEach es X.env)).any (·.1) = false := by rfl)
    (ht : eval (.Call (.Attribute o m apos) (e :: es) [] pos) X.env = (do
      let ov ← eval o X.env
      standAt apos.atName
      let (f, first) ← holding [ov] (getMethod ov m pl)
      callWith pos f first (backTo pos (starEach (e :: es) X.env)) (backToKw pos (keywordEach [] X.env))) := by rfl) :
    PE X (.Call (.Attribute o m apos) (e :: es) [] pos) (tMx C m sp E ta t) := by
  refine ⟨fun pins s σ H Q I h => ?_⟩
  refine PySem.W.methodCall_KW (pl := pl) (thn (he.run pins s σ H _ I h) fun u s1 ⟨x, H1, I1, rx, a, dx, fs, ex, ea, l, q⟩ => ?_) ht
  subst ex
  obtain rfl : u = Value.ref a := rx
  refine getmeth_ok I1 ea c hm l ?_
  refine PySem.W.callWith_K (first := [.ref a]) (h₀ := X.base) I.ok.mod.kin hm.kp (thn (ha.run pos pins s1 σ H1 _ I1 q) fun us s2 ⟨vs, H2, I2, r, q2⟩ => ⟨I2.kIn, ?_⟩) hst hpl
  exact run_fnS (us := .ref a :: us) (vs := .ref a :: vs) F hr hb (hx σ) I2 (.cons rfl r) q2
end
section
variable {α β γ ε : Type} {w : Rw α} {w' : Rw β} {rc : Rp γ} {Γ Γ1 Γ2 : List Sl} {te : TE} {ta : TA} {a : α} {b : β} {R : ER ε} {C : Addr} {names : List Str} {nm : Str} {wb : Rw β}
theorem er_meth {m : α × β → Option (Res ε γ)} {x : Res ε γ} (h : EvX (rIns C names w) te Γ Γ1 a) (hb : EvW w' ta Γ1 Γ2 b) (e : m (a, b) = some x) (hn : nm ∉ names) :
    EvR R rc (fun E => tMx C nm (SpX R (wC (rIns C names w) w') rc m) E te ta) Γ Γ2 x := fun A σ H B F E Q qo qe => h A σ H B F _ fun v H1 B1 F1 s1 k1 => by
  obtain ⟨p, dx, vs, rfl, hp, l, kw⟩ := ob_ins F1.bh k1
  refine ⟨p, dx, _, rfl, hp, ins_no hn, hb A σ H1 B1 F1 _ fun us H2 B2 F2 s2 k2 => ?_⟩
  exact ⟨B2, (a, b), x, F2.szt, F2.bh, ⟨_, us, rfl, (rIns C names w).mono s2 k1, k2⟩, e, fun y hy H3 B3 v3 P k3 => qo y hy v3 H3 B3 (F2.after P) ((s1.trans s2).trans P.b0) k3, fun y hy cls d H3 B3 P k3 => qe y hy cls d H3 B3 (F2.after P) ((s1.trans s2).trans P.b0) k3⟩
end
end G
namespace G
variable [TabL]
open PySem PySem.Spec PyProof.Rows L2
section
variable {X : Cx} {a : Expr} {ta te : TE} {Γ Γ1 : List Sl} {b c : Bool}
end
end G
set_option maxHeartbeats 4000000
namespace G
variable [TabL]
open PySem PySem.Spec PyProof.Rows L2
set_option maxHeartbeats 8000000 in
section
variable {α : Type} {r : Rp α} {te : TE} {Γ Γ1 : List Sl} {xs : List α} {K : PySem.W.Frag}
end
end G
set_option maxHeartbeats 4000000
namespace G
variable [TabL]
open PySem PySem.Spec PyProof.Rows L2
abbrev NK := NestedKey
abbrev NE := NK × Addr × V
abbrev KN : List NE → List (NK × Addr × Value) → Prop := Paired fun p q => p.1 = q.1 ∧ p.2.1 = q.2.1 ∧ RelV p.2.2 q.2.2
def RawN (P : Program) (w : World) (a : Addr) (o : Obj) (kvs : List NE) (h : Heap) : Prop :=
  kvs.length ≤ sizeLine ∧ (a == sysModules) = false ∧ (kvs.map (·.1)).Nodup ∧ ∃ xs, KN kvs xs ∧ h.get? a = some o ∧ o.ExactDict ∧ ∃ es ep, o.data = .dict es ep ∧ es.toList = xs.map (entryOfKey (nestedKind P w))
def dNO (P : Program) (w : World) (a : Addr) (o : Obj) (kvs : List NE) : HO := .ext (RawN P w a o kvs)
def valN (kvs : List NE) (k : NK) : Option V := (kvs.find? fun e => decide (e.1 = k)).map (·.2.2)
def putN (kvs : List NE) (k : NK) (b : Addr) (v : V) : List NE := if (kvs.any fun e => decide (e.1 = k)) = true then kvs.map (fun e => if e.1 = k then (e.1, e.2.1, v) else e) else kvs ++ [(k, b, v)]
theorem putN_len (kvs : List NE) (k : NK) (b : Addr) (v : V) : (putN kvs k b v).length ≤ kvs.length + 1 := by
  unfold putN
  split
  · rw [List.length_map]; omega
  · rw [List.length_append, List.length_singleton]; omega
theorem valN_any (k : NK) : ∀ kvs : List NE, (kvs.any fun e => decide (e.1 = k)) = (valN kvs k).isSome
  | [] => rfl
  | e :: r => by
    rw [List.any_cons, valN_any k r]
    unfold valN
    by_cases h : e.1 = k
    · rw [List.find?_cons_of_pos (by simpa using h), decide_eq_true h]; rfl
    · rw [List.find?_cons_of_neg (by simpa using h), decide_eq_false h, Bool.false_or]
theorem KN.val (k : NK) : ∀ {kvs : List NE} {xs : List (NK × Addr × Value)}, KN kvs xs → RelO (valN kvs k) ((atKey xs k).map (·.2))
  | _, _, .nil => True.intro
  | _, _, .cons (a := p) (b := q) (l₁ := ps) (l₂ := qs) h t => by
    have ih := KN.val k t
    unfold valN atKey at ih ⊢
    by_cases e : p.1 = k
    · rw [List.find?_cons_of_pos (by simpa using e), List.find?_cons_of_pos (by simpa using h.1.symm.trans e)]
      exact h.2.2
    · rw [List.find?_cons_of_neg (by simpa using e), List.find?_cons_of_neg (by simpa using fun z => e (h.1.trans z))]
      exact ih
theorem KN.repl (k : NK) {v : V} {u : Value} (r : RelV v u) : ∀ {kvs : List NE} {xs : List (NK × Addr × Value)}, KN kvs xs → KN (kvs.map fun e => if e.1 = k then (e.1, e.2.1, v) else e) (xs.map (putAt k u))
  | _, _, .nil => .nil
  | _, _, .cons (a := p) (b := q) h t => by
    rw [List.map_cons, List.map_cons]
    refine .cons ?_ (KN.repl k r t)
    unfold putAt
    by_cases e : p.1 = k
    · rw [if_pos e, if_pos (h.1.symm.trans e)]; exact ⟨h.1, h.2.1, r⟩
    · rw [if_neg e, if_neg fun z => e (h.1.trans z)]; exact h
theorem KN.put {kvs : List NE} {xs : List (NK × Addr × Value)} (h : KN kvs xs) (k : NK) (b : Addr) {v : V} {u : Value} (r : RelV v u) : KN (putN kvs k b v) (storedH xs k b u) := by
  have e : (kvs.any fun e => decide (e.1 = k)) = (atKey xs k).isSome := by rw [valN_any, (h.val k).isSome_eq, Option.isSome_map]
  unfold putN storedH
  rw [e]
  by_cases q : (atKey xs k).isSome = true
  · rw [if_pos q, if_pos q]; exact h.repl k r
  · rw [if_neg q, if_neg q]; exact Paired.snoc h ⟨rfl, rfl, r⟩
theorem KN.keys : ∀ {kvs : List NE} {xs : List (NK × Addr × Value)}, KN kvs xs → kvs.map (·.1) = xs.map (·.1)
  | _, _, .nil => rfl
  | _, _, .cons h t => by rw [List.map_cons, List.map_cons, h.1, KN.keys t]
def NkOk (P : Program) (w : World) (H : Hp) (b : Addr) (k : NK) : Prop := k.depth ≤ 8 ∧ ∀ h, HOk P w H h → NestedIs h k (.ref b)
def AllK (P : Program) (w : World) (H : Hp) (kvs : List NE) : Prop := ∀ e ∈ kvs, NkOk P w H e.2.1 e.1
section
variable {P : Program} {w : World} {H : Hp} {h : Heap} {a : Addr} {o : Obj} {kvs : List NE}
theorem dn_mk (r : RawN P w a o kvs h) : ObjOk P w H h a (dNO P w a o kvs) := by
  refine ⟨r, ?_, fun h1 h2 r k => ?_⟩
  · obtain ⟨_, _, _, _, _, e, _⟩ := r; exact ⟨o, e⟩
  · obtain ⟨z, y, nd, xs, kn, e, q⟩ := r
    exact ⟨z, y, nd, xs, kn, k o e, q⟩
theorem dn_of (ok : HOk P w H h) (e : H a = some (dNO P w a o kvs)) : RawN P w a o kvs h := (show ObjOk P w H h a (dNO P w a o kvs) from ok a _ e).1
theorem dn_dict (ok : HOk P w H h) (e : H a = some (dNO P w a o kvs)) (ak : AllK P w H kvs) : kvs.length ≤ sizeLine ∧ (a == sysModules) = false ∧ ∃ xs, KN kvs xs ∧ h.DictOfH (nestedKind P w) a xs := by
  obtain ⟨z, y, nd, xs, kn, e1, e2, es, ep, e3, e4⟩ := dn_of ok e
  refine ⟨z, y, xs, kn, o, es, ep, e1, e2, e3, e4, fun x hx => ?_, by rw [← kn.keys]; exact nd⟩
  have all : ∀ {l : List NE} {m : List (NK × Addr × Value)}, KN l m → (∀ e ∈ l, NkOk P w H e.2.1 e.1) → ∀ x ∈ m, (nestedKind P w).is h x.1 x.2.1 := by
    intro l m q
    induction q with
    | nil => intro _ x hx; exact nomatch hx
    | cons hq t ih =>
      intro hk x hx
      rcases List.mem_cons.mp hx with rfl | hx
      · have := hk _ List.mem_cons_self
        rw [hq.1, hq.2.1] at this
        exact ⟨this.2 h ok, this.1⟩
      · exact ih (fun e he => hk e (List.mem_cons_of_mem _ he)) x hx
  exact all kn ak x hx
end
def tDNewN (P : Program) (w : World) : TE := fun _ H Q => ∀ p o, H p = none → Q (.ref p) (upd H p (dNO P w p o []))
def NGet (P : Program) (w : World) (H : Hp) (x y : V) (a : Addr) (r : Option V) : Prop := ∃ o kvs b k, x = .ref a ∧ H a = some (dNO P w a o kvs) ∧ AllK P w H kvs ∧ y = .ref b ∧ NkOk P w H b k ∧ r = valN kvs k
def tNGet (P : Program) (w : World) (td ty : TE) : TE := fun σ H Q => td σ H fun x H1 => ty σ H1 fun y H2 => ∃ a v, NGet P w H2 x y a (some v) ∧ Q v H2
def tNIn (P : Program) (w : World) (ty td : TE) : TE := fun σ H Q => ty σ H fun y H1 => td σ H1 fun x H2 => ∃ a o, NGet P w H2 x y a o ∧ Q (.bl o.isSome) H2
def sNPut (P : Program) (w : World) (td ty tv : TE) : TS := fun D σ H => tv σ H fun v H1 => td σ H1 fun x H2 => ty σ H2 fun y H3 => ∃ a o kvs b k, x = .ref a ∧ H3 a = some (dNO P w a o kvs) ∧ AllK P w H3 kvs ∧ y = .ref b ∧ NkOk P w H3 b k ∧ kvs.length < sizeLine ∧ ∀ o', D.nx σ (upd H3 a (dNO P w a o' (putN kvs k b v)))
section
variable {X : Cx} {o i e value : Expr} {pos pos' tpos apos cpos : Pos} {td ty tv : TE}
theorem pe_dnewN : PE X (.Dict [] [] pos) (tDNewN X.prog X.w) := ⟨fun pins s σ H Q I h =>
  wpAny_Dict_empty ⟨.ref s.heap.objs.size, _, I.laid (a := s.heap.objs.size) (o := dNO X.prog X.w s.heap.objs.size { cls := .type "dict", data := .dict #[] } []) (t' := s.toks) (fun _ _ q => Heap.get?_push_of_some _ q) (Nat.le_refl _)
    (dn_mk ⟨Nat.zero_le _, beq_eq_false_iff_ne.mpr (Ne.symm (Nat.ne_of_lt I.big)), List.nodup_nil, [], .nil, Heap.get?_push_size _ rfl, ⟨rfl, rfl, rfl⟩, #[], 0, rfl, rfl⟩), rfl, h _ _ (I.hok.fresh (Nat.le_refl _))⟩⟩
theorem ng_type {pins : List (Addr × Obj)} {σ : L2.St} {H : Hp} {s : Shared} {a : Addr} {ob : Obj} {kvs : List NE} (I : Inv X pins σ H s) (e : H a = some (dNO X.prog X.w a ob kvs)) : s.TypeIs (.ref a) "dict" ∧ (∀ b, Value.ref a = .ref b → ∃ ob, s.heap.get? b = some ob ∧ ob.dict = none) := by
  obtain ⟨_, _, _, xs, _, e1, e2, _⟩ := dn_of I.hok e
  exact ⟨⟨ob, e1, e2.1⟩, fun b q => by cases q; exact ⟨ob, e1, e2.2.1⟩⟩
theorem pe_nget (hu : X.A.in1.units + 8 < cLine) (ho : PE X o td) (hi : PE X i ty) (hs : NoSl i) : PE X (.Subscript o i pos) (tNGet X.prog X.w td ty) := ⟨fun pins s σ H Q I h => by
  refine subD_of PySem.F.slot_dict_getitem.lookup hs (thn (ho.run pins s σ H _ I h) fun u s1 ⟨x, H1, I1, rx, q1⟩ => thn (hi.run pins s1 σ H1 _ I1 q1) fun iv s2 ⟨y, H2, I2, ry, a, v, g, q2⟩ => ?_)
  obtain ⟨od, kvs, b, k, rfl, hp, ak, rfl, nk, l⟩ := g
  obtain rfl : u = Value.ref a := rx
  obtain rfl : iv = Value.ref b := ry
  obtain ⟨z, hd, xs, kn, dd⟩ := dn_dict I2.hok hp ak
  obtain ⟨w', hw, rw'⟩ := RelO.some_of (v := v) (o := (atKey xs k).map (·.2)) (by rw [l]; exact kn.val k)
  obtain ⟨p, hp1, hp2⟩ := Option.map_eq_some_iff.mp hw
  refine ⟨(ng_type I2 hp).1, wpAny_getItem_heap (knd := nestedKind X.prog X.w) hu ⟨nk.2 _ I2.hok, nk.1⟩ dd hp1 ?_⟩
  rw [hp2]
  exact ⟨v, H2, I2.tok _, rw', q2⟩⟩
theorem pc_nin (hu : X.A.in1.units + 8 < cLine) (hi : PE X i ty) (ho : PE X o td) : PC X .In i o (tNIn X.prog X.w ty td) := ⟨fun pins s σ H Q I h => by
  refine thn (hi.run pins s σ H _ I h) fun iv s1 ⟨y, H1, I1, ry, q1⟩ => thn (ho.run pins s1 σ H1 _ I1 q1) fun u s2 ⟨x, H2, I2, rx, a, ov, g, q2⟩ => ?_
  obtain ⟨od, kvs, b, k, rfl, hp, ak, rfl, nk, rfl⟩ := g
  obtain rfl : u = Value.ref a := rx
  obtain rfl : iv = Value.ref b := ry
  obtain ⟨z, hd, xs, kn, dd⟩ := dn_dict I2.hok hp ak
  refine wpAny_in_heap (knd := nestedKind X.prog X.w) hu ⟨nk.2 _ I2.hok, nk.1⟩ hd dd ?_
  have q := (kn.val k).isSome_eq
  rw [Option.isSome_map] at q
  exact ⟨.bl _, H2, I2.tok _, by show _ = _; rw [q], q2⟩⟩
theorem putN_nodup {kvs : List NE} {k : NK} {b : Addr} {v : V} (h : (kvs.map (·.1)).Nodup) : ((putN kvs k b v).map (·.1)).Nodup := by
  unfold putN
  split
  · rw [List.map_map]
    have : ((fun e : NE => e.1) ∘ fun e : NE => if e.1 = k then (e.1, e.2.1, v) else e) = fun e => e.1 := by
      funext e
      show (if e.1 = k then (e.1, e.2.1, v) else e).1 = e.1
      split <;> rfl
    rw [this]; exact h
  · rename_i hn
    rw [List.map_append]
    refine List.nodup_append.mpr ⟨h, by simp, fun x hx y hy e => ?_⟩
    have hy' : y = k := by simpa using hy
    obtain ⟨z, hz, rfl⟩ := List.mem_map.mp hx
    exact hn (List.any_eq_true.mpr ⟨z, hz, decide_eq_true (e.trans hy')⟩)
theorem ps_nput (hu : X.A.in1.units + 8 < cLine) (ho : PE X o td) (hi : PE X i ty) (hv : PE X value tv) (hs : swapsWith value (some (.Subscript o i pos')) pos.line X.env = pure false) :
    PS X (.Assign [.Subscript o i pos'] value pos) (sNPut X.prog X.w td ty tv) := ⟨fun pins s σ H D I h => by
  refine wpAny_Assign_Subscript (thn (hv.run pins s σ H _ I h) fun r s1 ⟨v, H1, I1, rv, q1⟩ => thn (ho.run pins s1 σ H1 _ I1 q1) fun u s2 ⟨x, H2, I2, rx, q2⟩ => thn (hi.run pins s2 σ H2 _ I2 q2) fun iv s3 ⟨y, H3, I3, ry, a, od, kvs, b, k, ex, hp, ak, ey, nk, hl, q3⟩ => ?_) hs
  subst ex ey
  obtain rfl : u = Value.ref a := rx
  obtain rfl : iv = Value.ref b := ry
  obtain ⟨z, hd, xs, kn, dd⟩ := dn_dict I3.hok hp ak
  have nd := (dn_of I3.hok hp).2.2.1
  refine wpAny_setItem_heap (knd := nestedKind X.prog X.w) (hsz := by rw [← Paired.len kn]; exact z) hu ⟨nk.2 _ I3.hok, nk.1⟩ dd fun h' dd' hs => ?_
  obtain ⟨q, es, ep, hq, h2, h3, h4, _, h5⟩ := dd'
  refine ⟨σ, _, ?_, q3 q⟩
  refine d_write I3 (by rw [hp]; exact True.intro) hs ⟨q, hq⟩ (dn_mk ⟨?_, hd, putN_nodup nd, _, kn.put k b rv, hq, h2, es, ep, h3, h4⟩)
  have := putN_len kvs k b v
  omega⟩
end
end G
set_option maxHeartbeats 4000000
namespace G
variable [TabL]
open PySem PySem.Spec PyProof.Rows L2
structure KyN {κ : Type} [DecidableEq κ] (r : Rp κ) where
  key : κ → NK
  inj : ∀ {a b}, key a = key b → a = b
  dep : ∀ k, (key k).depth ≤ 8
  ref : ∀ {H v k}, r.rel H v k → ∃ b, v = .ref b
  is : ∀ {P w} {H : Hp} {h : Heap} {b : Addr} {k : κ}, HOk P w H h → r.rel H (.ref b) k → NestedIs h (key k) (.ref b)
section
variable {P : Program} {w : World} {κ β α γ : Type} [DecidableEq κ] {rk : Rp κ} {rv : Rp β} {r : Rp α} {te ta tb tk tv : TE} {Γ Γ1 Γ2 : List Sl} {K : PySem.W.Frag}
def NRel (ky : KyN rk) (rv : Rp β) (H : Hp) (e : NE) (x : κ × β) : Prop := e.1 = ky.key x.1 ∧ rk.rel H (.ref e.2.1) x.1 ∧ rv.rel H e.2.2 x.2
theorem NRel.mono {ky : KyN rk} {H H' : Hp} (s : Same H H') {e : NE} {x : κ × β} (h : NRel ky rv H e x) : NRel ky rv H' e x := ⟨h.1, rk.mono s h.2.1, rv.mono s h.2.2⟩
def rDicN (P : Program) (w : World) (ky : KyN rk) (rv : Rp β) : Rp (List (κ × β)) := ⟨fun H v l => ∃ p o kvs, v = .ref p ∧ H p = some (dNO P w p o kvs) ∧ Paired (NRel ky rv H) kvs l, fun s ⟨p, o, kvs, e, h, k⟩ => ⟨p, o, kvs, e, s _ _ h, Paired.imp2 (fun _ _ q => q.mono s) k⟩⟩
def cDicN (P : Program) (w : World) (p : Addr) (ky : KyN rk) (rv : Rp β) : Cl (List (κ × β)) := ⟨fun H o l => ∃ ob kvs, o = dNO P w p ob kvs ∧ Paired (NRel ky rv H) kvs l, fun s ⟨ob, kvs, e, k⟩ => ⟨ob, kvs, e, Paired.imp2 (fun _ _ q => q.mono s) k⟩⟩
theorem nk_ok (ky : KyN rk) {H : Hp} {b : Addr} {k : κ} (h : rk.rel H (.ref b) k) : NkOk P w H b (ky.key k) := ⟨ky.dep k, fun _ ok => ky.is ok h⟩
theorem allKN (ky : KyN rk) {H : Hp} : ∀ {kvs : List NE} {l : List (κ × β)}, Paired (NRel ky rv H) kvs l → AllK P w H kvs
  | _, _, .nil => fun _ z => nomatch z
  | _, _, .cons q t => fun e he => by
    rcases List.mem_cons.mp he with rfl | he
    · have := nk_ok (P := P) (w := w) ky q.2.1
      rw [q.1]; exact this
    · exact allKN ky t e he
theorem any_keyN (ky : KyN rk) {H : Hp} (k : κ) : ∀ {kvs : List NE} {l : List (κ × β)}, Paired (NRel ky rv H) kvs l → (kvs.any fun e => decide (e.1 = ky.key k)) = l.any fun e => decide (e.1 = k)
  | _, _, .nil => rfl
  | _, _, .cons (a := a) (b := b) q t => by
    rw [List.any_cons, List.any_cons, any_keyN ky k t]
    congr 1
    by_cases h : b.1 = k
    · rw [decide_eq_true h, decide_eq_true (by rw [q.1, h])]
    · rw [decide_eq_false h, decide_eq_false fun e => h (ky.inj (by rw [← q.1]; exact e))]
theorem map_pairN (ky : KyN rk) {H : Hp} {k : κ} {v : V} {b : β} (hv : rv.rel H v b) : ∀ {kvs : List NE} {l : List (κ × β)}, Paired (NRel ky rv H) kvs l → Paired (NRel ky rv H) (kvs.map fun e => if e.1 = ky.key k then (e.1, e.2.1, v) else e) (l.map fun e => if e.1 = k then (e.1, b) else e)
  | _, _, .nil => .nil
  | _, _, .cons (a := a) (b := b') q t => by
    rw [List.map_cons, List.map_cons]
    refine .cons ?_ (map_pairN ky hv t)
    by_cases e : b'.1 = k
    · rw [if_pos e, if_pos (by rw [q.1, e])]; exact ⟨q.1, q.2.1, hv⟩
    · rw [if_neg e, if_neg fun z => e (ky.inj (by rw [← q.1]; exact z))]; exact q
theorem put_pairN (ky : KyN rk) {H : Hp} {k : κ} {c : Addr} {v : V} {b : β} (hk : rk.rel H (.ref c) k) (hv : rv.rel H v b) {kvs : List NE} {l : List (κ × β)} (h : Paired (NRel ky rv H) kvs l) : Paired (NRel ky rv H) (putN kvs (ky.key k) c v) (putM l k b) := by
  unfold putN putM
  rw [any_keyN ky k h]
  split
  · exact map_pairN ky hv h
  · exact Paired.app h (.cons ⟨rfl, hk, hv⟩ .nil)
theorem get_pairN (ky : KyN rk) {H : Hp} (k : κ) : ∀ {kvs : List NE} {l : List (κ × β)}, Paired (NRel ky rv H) kvs l → (∀ b, getM l k = some b → ∃ v, valN kvs (ky.key k) = some v ∧ rv.rel H v b) ∧ (getM l k = none → valN kvs (ky.key k) = none)
  | _, _, .nil => ⟨(fun b e => by cases e), fun _ => rfl⟩
  | _, _, .cons (a := a) (b := b) (l₁ := l1) (l₂ := l2) q t => by
    have ih := get_pairN ky k t
    unfold getM valN at ih ⊢
    by_cases h : b.1 = k
    · have h2 : a.1 = ky.key k := by rw [q.1, h]
      rw [List.find?_cons_of_pos (by simpa using h), List.find?_cons_of_pos (by simpa using h2)]
      exact ⟨fun c e => ⟨a.2.2, rfl, by have e' : b.2 = c := Option.some.inj e; exact e' ▸ q.2.2⟩, fun e => by cases e⟩
    · have h2 : ¬ a.1 = ky.key k := fun e => h (ky.inj (by rw [← q.1]; exact e))
      rw [List.find?_cons_of_neg (by simpa using h), List.find?_cons_of_neg (by simpa using h2)]
      exact ih
theorem some_getN (ky : KyN rk) {H : Hp} {k : κ} {kvs : List NE} {l : List (κ × β)} (h : Paired (NRel ky rv H) kvs l) : (valN kvs (ky.key k)).isSome = (getM l k).isSome := by
  obtain ⟨h1, h2⟩ := get_pairN ky k h
  cases q : getM l k with
  | none => rw [h2 q]; rfl
  | some b => obtain ⟨v, e, _⟩ := h1 b q; rw [e]; rfl
theorem ev_nget (ky : KyN rk) {k : κ} {l : List (κ × β)} {b : β} (hd : EvX (rDicN P w ky rv) ta Γ Γ1 l) (hk : EvX rk tk Γ1 Γ2 k) (e : getM l k = some b) : EvX rv (tNGet P w ta tk) Γ Γ2 b := fun A σ H B F Q q =>
  hd A σ H B F _ fun x H1 B1 F1 s1 k1 => hk A σ H1 B1 F1 _ fun y H2 B2 F2 s2 k2 => by
    obtain ⟨p2, o2, kvs2, ex2, hp2, kp2⟩ := (rDicN P w ky rv).mono s2 k1
    obtain ⟨v2, ev2, kv2⟩ := (get_pairN ky k kp2).1 b e
    obtain ⟨c, rfl⟩ := ky.ref k2
    subst ex2
    exact ⟨p2, v2, ⟨o2, kvs2, c, ky.key k, rfl, F2.bh _ _ hp2, allKN ky (Paired.imp2 (fun _ _ q => q.mono F2.bh) kp2), rfl, nk_ok ky (rk.mono F2.bh k2), ev2.symm⟩, q _ _ _ F2 (s1.trans s2) kv2⟩
variable {A : Amb} {D : Ends} {u : TS} {i j : Nat} {p : Addr}
theorem sq_newN (ky : KyN rk) (rv : Rp β) (k : ∀ p, ¬ A.m p → Nx A (u D) (Γ.set i (.cel p (cDicN P w p ky rv) []))) : Nx A (tSeq (tAsg (tDNewN P w) (gName i)) u D) Γ := fun σ H B F => fun p ob hp => by
  have F2 := F.fresh (o := dNO P w p ob []) hp True.intro
  exact k p (fun m => F.mh.al p m (F.H0none hp)) _ _ _ (F2.own1 (F.H0none hp) F.sub F.mh ⟨ob, [], rfl, .nil⟩)
theorem cel_dicN {σ : L2.St} {H B : Hp} {ky : KyN rk} {l : List (κ × β)} (F : Frm A σ H B Γ) (h : Γ[i]? = some (.cel p (cDicN P w p ky rv) l)) : σ[i]? = some (some (V.ref p)) ∧ ∃ ob kvs, H p = some (dNO P w p ob kvs) ∧ Paired (NRel ky rv B) kvs l := by
  obtain ⟨e, o, ho, ob, kvs, rfl, k⟩ := cel_at F h
  exact ⟨e, ob, kvs, ho, k⟩
theorem ng_cel {σ : L2.St} {H B : Hp} {ky : KyN rk} {l : List (κ × β)} {y : V} {k : κ} (F : Frm A σ H B Γ) (h : Γ[i]? = some (.cel p (cDicN P w p ky rv) l)) (hk : rk.rel B y k) : σ[i]? = some (some (V.ref p)) ∧ ∃ kvs, Paired (NRel ky rv B) kvs l ∧ NGet P w H (.ref p) y p (valN kvs (ky.key k)) := by
  obtain ⟨e, ob, kvs, hp, kp⟩ := cel_dicN F h
  obtain ⟨c, rfl⟩ := ky.ref hk
  exact ⟨e, kvs, kp, ob, kvs, c, ky.key k, rfl, hp, allKN ky (Paired.imp2 (fun _ _ q => q.mono F.bh) kp), rfl, nk_ok ky (rk.mono F.bh hk), rfl⟩
theorem ev_ninCelN {ky : KyN rk} {l : List (κ × β)} {k : κ} (hk : EvX rk tk Γ Γ1 k) (h : Γ1[i]? = some (.cel p (cDicN P w p ky rv) l)) : EvX rBool (tNIn P w tk (tVar i)) Γ Γ1 ((getM l k).isSome) := fun A σ H B F Q q =>
  hk A σ H B F _ fun y H1 B1 F1 s1 k1 => by
    obtain ⟨e, kvs, kp, g⟩ := ng_cel F1 h k1
    exact ⟨_, e, p, _, g, q _ _ _ F1 s1 (by show V.bl _ = V.bl _; rw [some_getN ky kp])⟩
def pyPutD {κ β : Type} [DecidableEq κ] (l : List (κ × β)) (k : κ) (v : β) : Option (List (κ × β)) := if l.length < 1000000 then some (putM l k v) else none
theorem sq_nput {ky : KyN rk} {l l' : List (κ × β)} {k : κ} {b : β} (hv : EvX rv tv Γ Γ1 b) (hk : EvX rk tk Γ1 Γ2 k) (h1 : Γ1[i]? = some (.cel p (cDicN P w p ky rv) l)) (h2 : Γ2[i]? = some (.cel p (cDicN P w p ky rv) l)) (e : pyPutD l k b = some l') (n : Nx A (u D) (Γ2.set i (.cel p (cDicN P w p ky rv) l'))) :
    Nx A (tSeq (sNPut P w (tVar i) tk tv) u D) Γ := fun σ H B F => by
  unfold pyPutD at e
  split at e
  · rename_i hl
    cases e
    refine hv A σ H B F _ fun v H1 B1 F1 s1 k1 => ⟨_, (cel_dicN F1 h1).1, hk A σ H1 B1 F1 _ fun y H2 B2 F2 s2 k2 => ?_⟩
    obtain ⟨e2, ob, kvs, hp, kp⟩ := cel_dicN F2 h2
    obtain ⟨c, rfl⟩ := ky.ref k2
    have pw := put_pairN ky k2 (rv.mono s2 k1) kp
    refine ⟨p, ob, kvs, c, ky.key k, rfl, hp, allKN ky (Paired.imp2 (fun _ _ q => q.mono F2.bh) kp), rfl, nk_ok ky (rk.mono F2.bh k2), ?_, fun o' => n _ _ _ (F2.write h2 ⟨o', _, rfl, pw⟩ True.intro)⟩
    rw [Paired.len kp]
    exact Nat.lt_of_lt_of_le hl (by decide)
  · cases e
end
theorem ints_is {h : Heap} : ∀ {is : List Int} {us : List Value}, Vals (is.map V.int) us → NestedAll h (is.map .num) us
  | [], us, r => by cases r; exact .nil
  | i :: is, us, r => by
    cases r with
    | cons q t => obtain ⟨tk, rfl⟩ := q; exact .cons (.int i tk) (ints_is t)
theorem rint_map {H : Hp} : ∀ {vs : List V} {is : List Int}, Paired (rInt.rel H) vs is → vs = is.map V.int
  | _, _, .nil => rfl
  | _, _, .cons q t => by rw [List.map_cons, ← rint_map t, show _ = V.int _ from q]
theorem tup_at {P : Program} {w : World} {H : Hp} {h : Heap} (ok : HOk P w H h) {b : Addr} {vs : List V} (e : H b = some (.tup vs)) : ∃ its : List Value, Vals vs its ∧ ∃ o n, h.get? b = some o ∧ o.cls = .type "tuple" ∧ o.data = .seq its.toArray n := by
  obtain ⟨_, its, r, o, h1, h2, n, h3⟩ := (show ObjOk P w H h b (.tup vs) from ok b _ e)
  exact ⟨its, r, o, n, h1, h2, h3⟩
theorem nums_inj : ∀ {a b : List Int}, a.map NestedKey.num = b.map NestedKey.num → a = b
  | [], [], _ => rfl
  | [], _ :: _, e => by cases e
  | _ :: _, [], e => by cases e
  | x :: a, y :: b, e => by
    injection e with e1 e2
    injection e1 with e1
    rw [e1, nums_inj e2]
theorem dep_nums : ∀ is : List Int, NestedKey.depthAll (is.map .num) = 0
  | [] => by simp [NestedKey.depthAll]
  | i :: is => by rw [List.map_cons]; simp [NestedKey.depthAll, NestedKey.depth, dep_nums is]
end G
set_option maxHeartbeats 4000000
namespace G
variable [TabL]
open PySem PySem.Spec PyProof.Rows L2
section
variable {P : Program} {w : World} {K : PySem.W.Frag} {tg : Expr} {d : Addr} {o : Obj} {es : Array DictEntry} {ep : Nat}
theorem dn_raw {H : Hp} {h : Heap} {kvs : List NE} (ok : HOk P w H h) (e : H d = some (dNO P w d o kvs)) : (d == sysModules) = false ∧ h.get? d = some o ∧ o.ExactDict ∧ ∃ es ep, o.data = .dict es ep ∧ es.size = kvs.length ∧ ∀ (i : Nat) (q : NE), kvs[i]? = some q → ∃ en : DictEntry, es[i]? = some en ∧ en.key = .ref q.2.1 := by
  obtain ⟨z, y, nd, xs, kn, e1, e2, es, ep, e3, e4⟩ := dn_of ok e
  refine ⟨y, e1, e2, es, ep, e3, ?_, fun i q hq => ?_⟩
  · have l1 : es.size = xs.length := size_of_entries e4
    have l2 : kvs.length = xs.length := Paired.len kn
    omega
  · obtain ⟨b, hb, k1, k2, k3⟩ := paired_get kn hq
    have q2 := entry_at e4 i
    rw [hb] at q2
    exact ⟨_, q2, by rw [k2]; rfl⟩
end
section
variable {P : Program} {w : World} {κ β : Type} [DecidableEq κ] {rk : Rp κ} {rv : Rp β} {te : TE} {Γ Γ1 : List Sl} {l : List (κ × β)}
end
end G
set_option maxHeartbeats 4000000
namespace G
open PySem PySem.Spec PyProof.Rows L2
structure Ord (α : Type) where
  lt : α → α → Bool
  irr : ∀ a, lt a a = false
  tr : ∀ {a b c}, lt a b = true → lt b c = true → lt a c = true
  tri : ∀ {a b}, lt a b = false → lt b a = false → a = b
section
variable {α : Type} (O : Ord α)
theorem Ord.not {a b : α} (h : O.lt a b = true) : O.lt b a = false := by
  cases q : O.lt b a with
  | false => rfl
  | true => have := O.tr h q; rw [O.irr] at this; cases this
def Ord.sort (xs : List α) : List α := xs.mergeSort fun a b => !O.lt b a
theorem Ord.tot (a b : α) : ((!O.lt b a) || (!O.lt a b)) = true := by
  cases q : O.lt b a with
  | false => rfl
  | true => rw [O.not q]; rfl
theorem Ord.trn (a b c : α) (h1 : (!O.lt b a) = true) (h2 : (!O.lt c b) = true) : (!O.lt c a) = true := by
  cases q : O.lt c a with
  | false => rfl
  | true =>
    have e1 : O.lt b a = false := by simpa using h1
    have e2 : O.lt c b = false := by simpa using h2
    cases q2 : O.lt a b with
    | true => have := O.tr q q2; rw [e2] at this; cases this
    | false => rw [O.tri q2 e1] at q; rw [q] at e2; cases e2
theorem Ord.sort_perm (xs : List α) : (O.sort xs).Perm xs := List.mergeSort_perm _ _
theorem Ord.sort_asc (xs : List α) : (O.sort xs).Pairwise fun a b => O.lt b a = false :=
  (List.pairwise_mergeSort (le := fun a b => !O.lt b a) (fun a b c h1 h2 => O.trn a b c h1 h2) (fun a b => O.tot a b) xs).imp fun q => by simpa using q
theorem Ord.sort_eq {xs ys : List α} (h1 : ys.Perm xs) (h2 : ys.Pairwise fun a b => O.lt b a = false) : ys = O.sort xs :=
  List.Perm.eq_of_pairwise (fun a b _ _ h1 h2 => O.tri h2 h1) h2 (O.sort_asc xs) (h1.trans (O.sort_perm xs).symm)
def Ord.rk (L : List α) (k : α) : Int := ((L.countP fun j => O.lt j k : Nat) : Int)
theorem countP_strict {p q : α → Bool} (h : ∀ x, p x = true → q x = true) : ∀ {L : List α} {a : α}, a ∈ L → p a = false → q a = true → L.countP p < L.countP q
  | x :: L, a, hm, hp, hq => by
    rw [List.countP_cons, List.countP_cons]
    rcases List.mem_cons.mp hm with rfl | hm
    · have := List.countP_mono_left (l := L) (fun x _ => h x)
      rw [hp, hq]
      simp only [Bool.false_eq_true, if_false, if_true]
      omega
    · have ih := countP_strict h hm hp hq
      cases e : p x with
      | true => rw [h x e]; simp only [if_true]; omega
      | false => simp only [Bool.false_eq_true, if_false]; omega
theorem Ord.rk_lt {L : List α} {a b : α} (h : O.lt a b = true) (hm : a ∈ L) : O.rk L a < O.rk L b := by
  have := countP_strict (p := fun j => O.lt j a) (q := fun j => O.lt j b) (fun x hx => O.tr hx h) hm (O.irr a) h
  unfold Ord.rk
  omega
theorem Ord.rk_le {L : List α} {a b : α} (h : O.lt a b = false) : O.rk L b ≤ O.rk L a := by
  have := List.countP_mono_left (l := L) (p := fun j => O.lt j b) (q := fun j => O.lt j a) (fun x _ hx => by
    cases q : O.lt b a with
    | true => exact O.tr hx q
    | false => rw [O.tri h q]; exact hx)
  unfold Ord.rk
  omega
theorem Ord.rk_iff {L : List α} {a b : α} (hm : a ∈ L) : decide (O.rk L a < O.rk L b) = O.lt a b := by
  cases h : O.lt a b with
  | true => exact decide_eq_true (O.rk_lt h hm)
  | false => exact decide_eq_false (by have := O.rk_le (L := L) h; omega)
end
def ltI : List Int → List Int → Bool
  | [], [] => false
  | [], _ :: _ => true
  | _ :: _, [] => false
  | x :: xs, y :: ys => if x = y then ltI xs ys else decide (x < y)
theorem ltI_irr : ∀ a, ltI a a = false
  | [] => rfl
  | x :: xs => by unfold ltI; rw [if_pos rfl]; exact ltI_irr xs
theorem ltI_tr : ∀ {a b c}, ltI a b = true → ltI b c = true → ltI a c = true
  | [], [], _, h, _ => by cases h
  | [], _ :: _, [], _, h => by cases h
  | [], _ :: _, _ :: _, _, _ => rfl
  | _ :: _, [], _, h, _ => by cases h
  | _ :: _, _ :: _, [], _, h => by cases h
  | x :: xs, y :: ys, z :: zs, h1, h2 => by
    unfold ltI at h1 h2 ⊢
    by_cases e1 : x = y
    · rw [if_pos e1] at h1
      by_cases e2 : y = z
      · rw [if_pos e2] at h2; rw [if_pos (e1.trans e2)]; exact ltI_tr h1 h2
      · rw [if_neg e2] at h2; rw [e1, if_neg e2]; exact h2
    · rw [if_neg e1] at h1
      have q1 := of_decide_eq_true h1
      by_cases e2 : y = z
      · rw [← e2, if_neg e1]; exact h1
      · rw [if_neg e2] at h2
        have q2 := of_decide_eq_true h2
        rw [if_neg (by omega)]; exact decide_eq_true (by omega)
theorem ltI_tri : ∀ {a b}, ltI a b = false → ltI b a = false → a = b
  | [], [], _, _ => rfl
  | [], _ :: _, h, _ => by cases h
  | _ :: _, [], _, h => by cases h
  | x :: xs, y :: ys, h1, h2 => by
    unfold ltI at h1 h2
    by_cases e : x = y
    · rw [if_pos e] at h1; rw [if_pos e.symm] at h2; rw [e, ltI_tri h1 h2]
    · rw [if_neg e] at h1; rw [if_neg (fun z => e z.symm)] at h2
      have q1 := of_decide_eq_false h1; have q2 := of_decide_eq_false h2
      omega
def oI : Ord (List Int) := ⟨ltI, ltI_irr, ltI_tr, ltI_tri⟩
def ltS (a b : Str) : Bool := decide (a.cps.toList < b.cps.toList)
theorem str_ext {a b : Str} (h : a.cps.toList = b.cps.toList) : a = b := by
  cases a; cases b
  congr 1
  exact Array.toList_inj.mp h
theorem ltS_tri {a b : Str} (h1 : ltS a b = false) (h2 : ltS b a = false) : a = b :=
  str_ext (List.le_antisymm (List.not_lt.mp (of_decide_eq_false h2)) (List.not_lt.mp (of_decide_eq_false h1)))
def PlcIn (h : Heap) (v : Value) (k : Str × List Int) : Prop := ∃ (a q : Addr) (t : Tok) (xs : Array Value), v = .ref a ∧ IsTup h a #[.str k.1 t, .ref q] ∧ IsTup h q xs ∧ IntsAre xs.toList k.2
theorem PlcIn.keeps {h h' : Heap} {v : Value} {k : Str × List Int} (x : PlcIn h v k) (kp : ∀ b o, h.get? b = some o → o.cls = .type "tuple" → h'.get? b = some o) : PlcIn h' v k := by
  obtain ⟨a, q, t, xs, e, ⟨o, ho, hc, r⟩, ⟨o2, ho2, hc2, r2⟩, i⟩ := x
  exact ⟨a, q, t, xs, e, ⟨o, kp _ _ ho hc, hc, r⟩, ⟨o2, kp _ _ ho2 hc2, hc2, r2⟩, i⟩
theorem PlcIn.uniq {h : Heap} {v : Value} {k m : Str × List Int} (x : PlcIn h v k) (y : PlcIn h v m) : k = m := by
  obtain ⟨a, q, t, xs, rfl, ⟨o, ho, hc, n, hd⟩, ⟨o2, ho2, hc2, n2, hd2⟩, i⟩ := x
  obtain ⟨a', q', t', xs', e, ⟨o', ho', hc', n', hd'⟩, ⟨o2', ho2', hc2', n2', hd2'⟩, i'⟩ := y
  cases e
  rw [ho] at ho'; cases ho'
  rw [hd] at hd'
  injection hd' with e1 _
  injection e1 with e1
  injection e1 with e2 e3
  injection e2 with e2 _
  injection e3 with e3 _
  injection e3 with e3
  subst e3
  rw [ho2] at ho2'; cases ho2'
  rw [hd2] at hd2'
  injection hd2' with e4 _
  subst e4
  exact Prod.ext e2 (i.nums.symm.trans i'.nums)
theorem ints_at {xs : List Value} {ns : List Int} (i : IntsAre xs ns) : ∀ (j : Nat), j < xs.length → ∃ t, xs[j]? = some (.int (ns.getD j 0) t) := by
  induction i with
  | nil => intro j h; cases h
  | @cons p t xs ns i ih =>
    intro j h
    cases j with
    | zero => exact ⟨t, rfl⟩
    | succ j =>
      obtain ⟨t', e⟩ := ih j (by rw [List.length_cons] at h; omega)
      exact ⟨t', by simpa using e⟩
variable [TabL]
section
variable {prog : Program} {w : World} {A : Around} {E : Value → Shared → Prop} {s : Shared}
end
def PlcV (K : PySem.W.Frag) (H : Hp) (x : V) (k : Str × List Int) : Prop := ∃ b q, x = .ref b ∧ SqT K H b [.str k.1, .ref q] ∧ SqT K H q (k.2.map V.int)
theorem plcV_raw {X : Cx} {pins : List (Addr × Obj)} {σ : L2.St} {H : Hp} {s : Shared} (I : Inv X pins σ H s) {b : Addr} {k : Str × List Int} (h : PlcV X.K H (.ref b) k) : PlcIn s.heap (.ref b) k := by
  obtain ⟨b', q, e, h1, h2⟩ := h
  cases e
  obtain ⟨its, r1, t1, _⟩ := I.tuple h1
  obtain ⟨its2, r2, t2, _⟩ := I.tuple h2
  cases r1 with
  | cons ra rb => cases rb with
    | cons rc rd =>
      cases rd
      obtain ⟨tk, rfl⟩ := ra
      cases (show _ = Value.ref q from rc)
      refine ⟨b, q, tk, its2.toArray, rfl, t1, t2, ?_⟩
      rw [List.toList_toArray]
      exact ints_vals r2
where
  ints_vals : ∀ {ns : List Int} {us : List Value}, Vals (ns.map V.int) us → IntsAre us ns
  | [], us, r => by cases r; exact .nil
  | n :: ns, us, r => by
    cases r with
    | cons q t => obtain ⟨tk, rfl⟩ := q; exact .cons n tk (ints_vals t)
open Classical in
theorem paired_maps {α β γ : Type} {F : β → γ → Prop} {f : α → β} {g : α → γ} : ∀ {l : List α}, (∀ u ∈ l, F (f u) (g u)) → Paired F (l.map f) (l.map g)
  | [], _ => .nil
  | u :: l, h => .cons (h u List.mem_cons_self) (paired_maps fun v hv => h v (List.mem_cons_of_mem _ hv))
section
variable {te : TE} {Γ Γ1 : List Sl} {K : PySem.W.Frag} {xs : List (Str × List Int)}
end
end G
set_option maxHeartbeats 4000000
namespace G
variable [TabL]
open PySem PySem.Spec PyProof.Rows L2
def rListN (P : Program) (w : World) : List V → Hp → VK → Prop := fun xs H Q => ∃ d o kvs, xs = [V.ref d] ∧ H d = some (dNO P w d o kvs) ∧ ∀ p, H p = none → Q (.ref p) (upd H p (.lst (kvs.map fun e => V.ref e.2.1)))
theorem call_listN {X : Cx} (hc : X.calm = true) : CallR X (.type "list") (rListN X.prog X.w) := by
  intro pins s σ H xs us Q I r h
  obtain ⟨d, o, kvs, rfl, hd, q⟩ := h
  obtain ⟨u, rfl, rx⟩ := r.one
  cases rx
  obtain ⟨hs, ho, hx, es, ep, hdt, hsz, ent⟩ := dn_raw I.hok hd
  have z := (dn_of I.hok hd).1
  refine PySem.W.kdl_call (kdl_raw hs hx hdt) (I.ok.hd hc) ho (by omega) fun h' tk acc c' kp e it => ?_
  have eb : acc.toList = (kvs.map fun e => e.2.1).map Value.ref := by
    have hl : acc.toList.length = kvs.length := by rw [Array.length_toList, it.1]; exact hsz
    apply List.ext_getElem?
    intro j
    rw [List.getElem?_map, List.getElem?_map]
    cases hj : acc.toList[j]? with
    | none => rw [List.getElem?_eq_none (by have := List.getElem?_eq_none_iff.mp hj; omega)]; rfl
    | some v =>
      have hjl : j < kvs.length := by rw [← hl]; exact (List.getElem?_eq_some_iff.mp hj).1
      obtain ⟨en, hen, hv⟩ := it.2 j v (by rw [← Array.getElem?_toList]; exact hj)
      obtain ⟨en2, h2, hk⟩ := ent j _ (List.getElem?_eq_getElem hjl)
      rw [hen] at h2; cases h2
      rw [List.getElem?_eq_getElem hjl, hv, hk]; rfl
  have rv : Vals ((kvs.map fun e => e.2.1).map V.ref) acc.toList := by rw [eb]; exact vals_refs _
  have em : (kvs.map fun e => V.ref e.2.1) = (kvs.map fun e => e.2.1).map V.ref := by rw [List.map_map]; rfl
  refine ⟨.ref s.heap.objs.size, _, I.laid (t' := tk) (o := .lst (kvs.map fun e => V.ref e.2.1)) kp (Nat.le_refl _) ?_, rfl, q _ (I.hok.fresh (Nat.le_refl _))⟩
  exact ⟨by rw [List.length_map]; exact z, acc.toList, c', by rw [em]; exact rv, by rw [Array.toArray_toList]; exact e⟩
section
variable {P : Program} {w : World} {κ β : Type} [DecidableEq κ] {rk : Rp κ} {rv : Rp β} {te : TE} {Γ Γ1 : List Sl} {l : List (κ × β)}
theorem ec_listN (ky : KyN rk) (h : EvX (rDicN P w ky rv) te Γ Γ1 l) (hl : l.length ≤ 1000000) : EvC (cLst rk) (tCB (rListN P w) (tCons te tNil)) Γ Γ1 (l.map Prod.fst) := ec_B1 h fun H B u z s k Q q => by
  obtain ⟨p, o, kvs, rfl, hp, kp⟩ := k
  have pk : ∀ {kvs : List NE} {l : List (κ × β)}, Paired (NRel ky rv B) kvs l → Paired (rk.rel B) (kvs.map fun e => V.ref e.2.1) (l.map Prod.fst) := by
    intro kvs l h
    induction h with
    | nil => exact .nil
    | cons a t ih => exact .cons a.2.1 ih
  refine ⟨p, o, kvs, rfl, s _ _ hp, fun l hn => q l _ hn ?_ ⟨_, rfl, pk kp⟩⟩
  show (kvs.map _).length ≤ _
  rw [List.length_map, Paired.len kp]
  exact Nat.le_trans hl (by decide)
end
def pyKeysD {κ β : Type} (l : List (κ × β)) : Option (List κ) := if l.length ≤ 1000000 then some (l.map Prod.fst) else none
section
variable {P : Program} {w : World} {κ β : Type} [DecidableEq κ] {rk : Rp κ} {rv : Rp β} {te : TE} {Γ Γ1 : List Sl} {l : List (κ × β)} {ks : List κ}
theorem ec_listN' (ky : KyN rk) (h : EvX (rDicN P w ky rv) te Γ Γ1 l) (e : pyKeysD l = some ks) : EvC (cLst rk) (tCB (rListN P w) (tCons te tNil)) Γ Γ1 ks := by
  unfold pyKeysD at e; split at e
  · cases e; exact ec_listN ky h (by assumption)
  · cases e
end
end G
set_option maxHeartbeats 4000000
namespace G
variable [TabL]
open PySem PySem.Spec PyProof.Rows L2
theorem _root_.L2.Room.units65 {k : Nat} {A : Around} (r : L2.Room k A) : A.units + 65 < cLine := by have := r.un; omega
theorem _root_.L2.Room.units16 {k : Nat} {A : Around} (r : L2.Room k A) : A.units + 16 < cLine := by have := r.un; omega
theorem _root_.L2.Room.units8 {k : Nat} {A : Around} (r : L2.Room k A) : A.in1.units + 8 < cLine := by have := r.un; show A.units + 1 + 8 < cLine; omega
section
variable {X : Cx} {K : PySem.W.Frag}
theorem inDK (h : X.K = K) (hu : X.A.units + 65 < cLine) : OpR X (compareOp .In) (rInD K) := by subst h; exact op_inD hu
theorem notInDK (h : X.K = K) (hu : X.A.units + 65 < cLine) : OpR X (compareOp .NotIn) (rNotInD K) := by subst h; exact op_notInD hu
theorem catAK (h : X.K = K) : OpR X (binaryOp .Add) (rCatA K) := by subst h; exact op_catA
end
section
variable {α β γ δ : Type} {r : Rp α} {ra : Rp α} {rb : Rp β} {w : Rw β} {w2 : Rw γ} {wa : Rw α} {wd : Rw δ} {f : β → γ} {k : Nat} {K : PySem.W.Frag} {te ta tb tj : TE} {Γ Γ1 Γ2 Γ3 : List Sl} {xs ys : List α} {A : Amb} {D : Ends} {u : TS} {i : Nat} {p : Addr} {a : α}
theorem ob_tplM {B H : Hp} {v : V} {xs : List α} (s : Same B H) (h : (rTpl r).rel B v xs) : ∃ p vs, v = .ref p ∧ H p = some (.tup vs) ∧ B p = some (.tup vs) ∧ Paired (r.rel B) vs xs := by
  obtain ⟨p, o, rfl, hp, vs, rfl, k⟩ := h
  exact ⟨p, vs, rfl, s _ _ hp, hp, k⟩
theorem ev_catA {zs : List α} (ha : EvX (rTpl r) ta Γ Γ1 xs) (hb : EvX (rTpl r) tb Γ1 Γ2 ys) (e : pyCat xs ys = some zs) : EvX (rTpl r) (tOp (rCatA K) ta tb) Γ Γ2 zs := by
  unfold pyCat at e
  split at e
  · rename_i hl
    cases e
    exact fun A σ H B F Q q => ha A σ H B F _ fun v H1 B1 F1 s1 k1 => hb A σ H1 B1 F1 _ fun v2 H2 B2 F2 s2 k2 => by
      have k1' := (rTpl r).mono s2 k1
      obtain ⟨p1, vs, rfl, hp1, hb1, kp1⟩ := ob_tplM F2.bh k1'
      obtain ⟨p2, ws, rfl, hp2, hb2, kp2⟩ := ob_tplM F2.bh k2
      have hz : vs.length + ws.length ≤ sizeLine := by rw [Paired.len kp1, Paired.len kp2]; exact Nat.le_trans hl (by decide)
      have app := Paired.app kp1 kp2
      refine ⟨p1, p2, vs, ws, rfl, rfl, SqT.of hp1, SqT.of hp2, hz, fun e0 => ?_, fun h0 e0 => ?_, fun h0 h1 l hn => ?_⟩
      · subst e0
        exact q _ H2 B2 F2 (s1.trans s2) ⟨p2, _, rfl, hb2, _, rfl, app⟩
      · subst e0
        rw [List.append_nil] at app
        exact q _ H2 B2 F2 (s1.trans s2) ⟨p1, _, rfl, hb1, _, rfl, app⟩
      · exact ev_freshT F2 hn (by show (vs ++ ws).length ≤ _; rw [List.length_append]; exact hz) (s1.trans s2) q app
  · cases e
where
  ev_freshT {A : Amb} {σ : L2.St} {H B B0 : Hp} {Γ : List Sl} {l : Addr} {vs : List V} {zs : List α} {Q : VK} (F : Frm A σ H B Γ) (hn : H l = none) (hz : szO (.tup vs)) (s : Same B0 B) (q : ∀ v H' B', Frm A σ H' B' Γ → Same B0 B' → (rTpl r).rel B' v zs → Q v H') (k : Paired (r.rel B) vs zs) : Q (.ref l) (upd H l (.tup vs)) := by
    have hB : B l = none := by
      cases e : B l with
      | none => rfl
      | some u => have := F.bh l u e; rw [hn] at this; cases this
    have s' : Same B (upd B l (.tup vs)) := fun b u e => by rw [upd_ne (ne_of_none e hB)]; exact e
    exact q _ _ _ (F.plus (o := .tup vs) hn hz) (s.trans s') ⟨l, _, rfl, upd_same, _, rfl, Paired.monoR s' k⟩
def pyInD (d : PyData) (ds : List PyData) : Option Bool := if SeqAt.shaped d = true ∧ SeqAt.shaped (.list ds) = true then some (ds.any fun z => PyData.eqv z d) else none
theorem ev_inD {b : Bool} {x : α} {ys : List β} {f : α → PyData} {g : β → PyData} (da : Da K ra f) (db : Da K rb g) (ha : EvX ra ta Γ Γ1 x) (hb : EvX (rLst rb) tb Γ1 Γ2 ys) (e : pyInD (f x) (ys.map g) = some b) : EvX rBool (tOp (rInD K) ta tb) Γ Γ2 b := by
  unfold pyInD at e
  split at e
  · rename_i hs
    cases e
    exact ev_op ha hb fun H B u v s ku kv Q q => ⟨_, _, dp_mono s _ _ (da _ _ _ ku), dp_mono s _ _ (da_lst db _ _ _ kv), hs.1, hs.2, q _ rfl⟩
  · cases e
theorem ev_ninD {b : Bool} {x : α} {ys : List β} {f : α → PyData} {g : β → PyData} (da : Da K ra f) (db : Da K rb g) (ha : EvX ra ta Γ Γ1 x) (hb : EvX (rLst rb) tb Γ1 Γ2 ys) (e : pyInD (f x) (ys.map g) = some b) : EvX rBool (tOp (rNotInD K) ta tb) Γ Γ2 (!b) := by
  unfold pyInD at e
  split at e
  · rename_i hs
    cases e
    exact ev_op ha hb fun H B u v s ku kv Q q => ⟨_, _, dp_mono s _ _ (da _ _ _ ku), dp_mono s _ _ (da_lst db _ _ _ kv), hs.1, hs.2, q _ rfl⟩
  · cases e
end
end G
set_option maxHeartbeats 4000000
namespace G
variable [TabL]
open PySem PySem.Spec PyProof.Rows L2
section
variable {X : Cx} {P : Program} {w : World} {o i e value : Expr} {pos pos' apos cpos : Pos} {td ty tv : TE} {tg : Expr}
theorem dnewK (hP : X.prog = P) (hw : X.w = w) : PE X (.Dict [] [] pos) (tDNewN P w) := by subst hP hw; exact pe_dnewN
theorem ngetK (hP : X.prog = P) (hw : X.w = w) (hu : X.A.in1.units + 8 < cLine) (ho : PE X o td) (hi : PE X i ty) (hs : NoSl i) : PE X (.Subscript o i pos) (tNGet P w td ty) := by subst hP hw; exact pe_nget hu ho hi hs
theorem ninK (hP : X.prog = P) (hw : X.w = w) (hu : X.A.in1.units + 8 < cLine) (hi : PE X i ty) (ho : PE X o td) : PC X .In i o (tNIn P w ty td) := by subst hP hw; exact pc_nin hu hi ho
theorem nputK (hP : X.prog = P) (hw : X.w = w) (hu : X.A.in1.units + 8 < cLine) (ho : PE X o td) (hi : PE X i ty) (hv : PE X value tv) (hs : swapsWith value (some (.Subscript o i pos')) pos.line X.env = pure false) : PS X (.Assign [.Subscript o i pos'] value pos) (sNPut P w td ty tv) := by subst hP hw; exact ps_nput hu ho hi hv hs
theorem listNK (hP : X.prog = P) (hw : X.w = w) (hc : X.calm = true) : CallR X (.type "list") (rListN P w) := by subst hP hw; exact call_listN hc
theorem ps_never {st : Stmt} : PS X st (fun _ _ _ => False) := ⟨fun _ _ _ _ _ _ h => h.elim⟩
end
end G
set_option maxHeartbeats 4000000
namespace G
variable [TabL]
open PySem PySem.Spec PyProof.Rows L2
section
variable {X : Cx} {CX : CXT} {C f : Addr} {fd : FuncData} {ps : List Str} {n : Nat} {sp : Sp} {E : XK} {K : PySem.W.Frag} {a b : Expr} {ta tb : TE} {pos : Pos}
end
section
variable {α β γ : Type} {r ra : Rp α} {rb : Rp β} {rc : Rp γ} {te ta tb : TE} {Γ Γ1 Γ2 : List Sl} {K : PySem.W.Frag} {w : Rw α} {C : Addr} {names : List Str} {x : α} {y : β} {E : XK}
end
end G
namespace G
variable [TabL]
open PySem PySem.Spec PyProof.Rows L2
section
variable {X : Cx} {CX : CXT} {C f : Addr} {fd : FuncData} {ps : List Str} {n : Nat} {sp : Sp} {E : XK} {P : Program} {w : World} {K : PySem.W.Frag} {mg : Str → Option Value} {base : Heap} {a b : Expr} {ta tb : TE} {pos : Pos}
theorem makeNK {x : Str} {p pos : Pos} {e : Expr} {es : List Expr} {t : TA} {k : Nat} {dvs : List V} {ds : List Value} (h1 : X.prog = P) (h2 : X.w = w) (hK : X.K = K) (h3 : X.mg = mg) (h4 : X.base = base) (M : Mk K C f) (F : FnOk P w K mg base CX k f fd ps sp) (hr : Room (k + 1) X.A) (hg : Gl X x) (hm : mg x = some (.ref C)) (hb : Binds K fd ps ds) (hd : Vals dvs ds) (hx : Passes CX X E)
    (ha : PA X (e :: es) t) (hdb : (x == ("__debug__" : Str)) = false := by decide) (he : starEach (e :: es) X.env = (false, eval e X.env) :: starEach es X.env := by rfl) (hpl : (backTo pos (starEach es X.env)).any (·.1) = false := by rfl) :
    PE X (.Call (.Name x p) (e :: es) [] pos) (tMake C sp dvs E t) := by
  subst h1 h2 hK h3 h4; exact pe_make M F hr hg hm hb hd hx ha hdb he hpl
end
section
variable {κ β : Type} [DecidableEq κ] {rk : Rp κ} {P : Program} {w : World}
theorem paired_noN {ky : KyN rk} {rv : Rp β} [NoL rk] [NoL rv] {B : Hp} {p : Addr} {vs : List V} (hp : B p = some (.lst vs)) : ∀ {kvs : List NE} {l : List (κ × β)}, Paired (NRel ky rv B) kvs l → Paired (NRel ky rv (ers B p)) kvs l
  | _, _, .nil => .nil
  | _, _, .cons h t => .cons ⟨h.1, NoL.no hp h.2.1, NoL.no hp h.2.2⟩ (paired_noN hp t)
instance {ky : KyN rk} {rv : Rp β} [NoL rk] [NoL rv] : NoL (rDicN P w ky rv) := ⟨fun {B p vs v a} hp ⟨q, o, kvs, e, hq, k⟩ => ⟨q, o, kvs, e, by
  rw [ers_ne fun z => by rw [z, hp] at hq; cases hq]; exact hq, paired_noN hp k⟩⟩
end
end G
set_option maxHeartbeats 4000000
namespace G
open PySem PySem.Spec PySem.Calls PyProof.Rows L2
section
variable {prog : Program} {w : World} {A : Around} {s : Shared}
end
end G
set_option maxHeartbeats 4000000
namespace G
open PySem PySem.Spec PySem.Calls PyProof.Rows L2 LamX
section
variable {X : Cx} {pins : List (Addr × Obj)} {σ : L2.St} {H : Hp} {s : Shared}
end
end G
set_option maxHeartbeats 4000000
namespace G
open PySem PySem.Spec PySem.Calls PyProof.Rows L2 LamX
variable [TabL]
section
variable {X : Cx} {pins : List (Addr × Obj)} {σ : L2.St} {H : Hp} {s : Shared} {K : PySem.W.Frag}
end
end G
set_option maxHeartbeats 4000000
namespace G
variable [TabL]
open PySem PySem.Spec PySem.Calls PyProof.Rows L2 LamX
section
variable {X : Cx} {K : PySem.W.Frag} {e : Expr} {te : TE}
end
end G
set_option maxHeartbeats 4000000
namespace G
variable [TabL]
open PySem PySem.Spec PySem.Calls PyProof.Rows L2 LamX
section
variable {A : Amb} {σ : L2.St} {H B : Hp} {Γ Γ1 : List Sl} {P c' : Addr} {q : Str} {ps more : Array Value}
end
section
variable {α : Type} {ra : Rp α} {te : TE} {Γ Γ1 : List Sl} {K : PySem.W.Frag} {P : Addr} {q : Str}
end
end G
set_option maxHeartbeats 4000000
namespace G
variable [TabL]
open PySem PySem.Spec PySem.Calls PyProof.Rows L2 LamX
end G
set_option maxHeartbeats 4000000
namespace G
open PySem PySem.Spec PySem.Calls PyProof.Rows L2 LamX
section
variable [TabL] {H : Hp} {K : PySem.W.Frag} {a : Addr} {xs : List V}
open Classical in
end
end G
set_option maxHeartbeats 4000000
namespace G
variable [TabL]
open PySem PySem.Spec PyProof.Rows L2
structure ContsX {ρ ς ε : Type} (A : Amb) (ψ : ρ → Hp → Hp → V → Prop) (R : ER ε) (E : XK) (D : Ends) (mk : ς → List Sl) (st : Step (Res ε ρ) ς) : Prop where
  nx : ∀ s, st = .nx s → Nx A D.nx (mk s)
  ct : ∀ s, st = .nx s → Nx A D.ct (mk s)
  bk : ∀ s, st = .brk s → Nx A D.bk (mk s)
  rt : ∀ b, st = .ret (.ok b) → Rt A ψ b D.rt
  er : ∀ e, st = .ret (.er e) → RtE A R e E
section
variable {α β γ ρ ς ε : Type} {r : Rp α} {Γ Γ1 Γ2 : List Sl} {xs : List α} {K : PySem.W.Frag} {u : TS}
theorem nx_forX {A : Amb} {ψ : ρ → Hp → Hp → V → Prop} {R : ER ε} {E : XK} {wi : TI} {g : TG} {tb : TS} {D : Ends} {vs : List Nat} (f : α → ς → Option (Step (Res ε ρ) ς)) (mk : ς → List Sl) {Γf : α → ς → List Sl} {s0 : ς} {R0 : Step (Res ε ρ) ς}
    (hi : ItX r wi Γ Γ1 xs) (e : forL f xs s0 = some R0) (h0 : ∀ A' : Amb, A'.m = A.m ∧ A'.H0 = A.H0 → Nx A' (Fin A' (mk s0)) Γ1)
    (hg : ∀ s, TgX g r vs (mk s) (fun x => Γf x s))
    (hb : ∀ (A' : Amb) (D' : Ends) (x : α) (s : ς) (st : Step (Res ε ρ) ς), A'.m = A.m ∧ A'.H0 = A.H0 → f x s = some st → ContsX A' ψ R E D' mk st → Nx A' (tb D') (Γf x s))
    (hr : ∀ b, R0 = .ret (.ok b) → Rt A ψ b D.rt) (he : ∀ b, R0 = .ret (.er b) → RtE A R b E) (hd : ∀ s, R0 = .nx s → Nx A D.nx (mk s)) : Nx A (tFor wi g tb D) Γ := fun σ H B F => by
  refine hi A σ H B F _ fun J H1 B1 F1 s1 Y => ?_
  refine ⟨fun i m σ H => m = xs.length - i ∧ i ≤ xs.length ∧ ∃ B s, Frm (A.and B1) σ H B (mk s) ∧ forL f (xs.drop i) s = some R0, ?_, ?_⟩
  · obtain ⟨B2, F2⟩ := h0 (A.and B1) ⟨rfl, rfl⟩ σ H1 B1 (F1.and (Same.refl _))
    exact ⟨_, rfl, Nat.zero_le _, B2, s0, F2, by rw [List.drop_zero]; exact e⟩
  · rintro i m σ2 H2 ⟨rfl, hi, B2, s2, F2, e2⟩
    by_cases hlt : i < xs.length
    · right
      have hx : xs[i]? = some xs[i] := List.getElem?_eq_getElem hlt
      rw [List.drop_eq_getElem_cons hlt] at e2
      refine ⟨Y.go i H2 B2 F2.ph.2 F2.bh hlt, fun σ3 H3 => ∃ s3, Fin (A.and B1) (mk s3) σ3 H3 ∧ forL f (xs.drop (i + 1)) s3 = some R0, fun σ3 H3 ⟨s3, ⟨B3, F3⟩, e3⟩ => ⟨_, by omega, rfl, by omega, B3, s3, F3, e3⟩, fun v H3 hy => ?_⟩
      obtain ⟨B3, F3, s3, k3⟩ := Y.yld i _ H2 B2 v H3 F2.ph.2 F2.bh hx hy (A.and B1) σ2 (mk s2) F2
      refine hg s2 (A.and B1) σ2 H3 B3 v xs[i] F3 k3 _ fun σ4 F4 _ _ => ?_
      unfold forL at e2
      cases q : f xs[i] s2 with
      | none => rw [q] at e2; cases e2
      | some st =>
        rw [q] at e2
        refine hb (A.and B1) _ xs[i] s2 st ⟨rfl, rfl⟩ q ⟨fun s5 z => ?_, fun s5 z => ?_, fun s5 z => ?_, fun b z => ?_, fun b z => ?_⟩ σ4 H3 B3 F4
        · subst z
          exact fun σ5 H5 B5 F5 => ⟨s5, ⟨B5, F5⟩, e2⟩
        · subst z
          exact fun σ5 H5 B5 F5 => ⟨s5, ⟨B5, F5⟩, e2⟩
        · subst z
          exact fun σ5 H5 B5 F5 => hd s5 (Option.some.inj e2).symm σ5 H5 B5 F5.unand
        · subst z
          exact fun H5 B5 v5 P5 k5 => hr b (Option.some.inj e2).symm H5 B5 v5 P5.unand k5
        · subst z
          exact fun cls d H5 B5 P5 k5 => he b (Option.some.inj e2).symm cls d H5 B5 P5.unand k5
    · left
      have hil : i = xs.length := by omega
      subst hil
      refine ⟨Y.stop H2 B2 F2.ph.2 F2.bh, ?_⟩
      rw [List.drop_length] at e2
      unfold forL at e2
      exact hd s2 (Option.some.inj e2).symm σ2 H2 B2 F2.unand
theorem sq_forX {A : Amb} {ψ : ρ → Hp → Hp → V → Prop} {R : ER ε} {E : XK} {wi : TI} {g : TG} {tb : TS} {D : Ends} {vs : List Nat} (f : α → ς → Option (Step (Res ε ρ) ς)) (mk : ς → List Sl) {Γf : α → ς → List Sl} {s0 : ς} {R0 : Step (Res ε ρ) ς}
    (hi : ItX r wi Γ Γ1 xs) (e : forL f xs s0 = some R0) (h0 : ∀ A' : Amb, A'.m = A.m ∧ A'.H0 = A.H0 → Nx A' (Fin A' (mk s0)) Γ1)
    (hg : ∀ s, TgX g r vs (mk s) (fun x => Γf x s))
    (hb : ∀ (A' : Amb) (D' : Ends) (x : α) (s : ς) (st : Step (Res ε ρ) ς), A'.m = A.m ∧ A'.H0 = A.H0 → f x s = some st → ContsX A' ψ R E D' mk st → Nx A' (tb D') (Γf x s))
    (hr : ∀ b, R0 = .ret (.ok b) → Rt A ψ b D.rt) (he : ∀ b, R0 = .ret (.er b) → RtE A R b E) (hd : ∀ s, R0 = .nx s → Nx A (u D) (mk s)) : Nx A (tSeq (tFor wi g tb) u D) Γ := nx_forX (D := { D with nx := u D }) f mk hi e h0 hg hb hr he hd
end
section
variable {X : Cx} {CX : CXT} {C f : Addr} {fd : FuncData} {ps : List Str} {n : Nat} {sp : Sp} {E : L2.St → XK} {K : PySem.W.Frag} {a b : Expr} {ta tb : TE} {pos : Pos}
end
section
variable {α β γ ε δ : Type} {r ra : Rp α} {rb : Rp β} {rc : Rp γ} {te ta tb : TE} {t : TA} {Γ Γ1 Γ2 : List Sl} {K : PySem.W.Frag} {w : Rw α} {C : Addr} {names : List Str} {R : ER ε} {tf : (L2.St → XK) → TE} {A : Amb} {D : Ends} {u : TS}
theorem er_callX {w : Rw α} {m : α → Option (Res ε β)} {a : α} {x : Res ε β} (h : EvW w t Γ Γ1 a) (e : m a = some x) : EvR R rb (fun E => tCallS (SpX R w rb m) E t) Γ Γ1 x := fun A σ H B F E Q qo qe => h A σ H B F _ fun vs H1 B1 F1 s1 k1 =>
  ⟨B1, a, x, F1.szt, F1.bh, k1, e, fun b hb H2 B2 v P k2 => qo b hb v H2 B2 (F1.after P) (s1.trans P.b0) k2, fun y hy cls d H2 B2 P k2 => qe y hy cls d H2 B2 (F1.after P) (s1.trans P.b0) k2⟩
end
section
variable {α β γ ε δ κ : Type} {r : Rp α} {rb : Rp β} {rc : Rp γ} {ta tb : TE} {t : TA} {Γ Γ1 Γ2 : List Sl} {w : Rw α} {C : Addr} {names : List Str} {R : ER ε} {A : Amb} {D : Ends} {u : TS} {i : Nat}
end
section
variable {α β γ δ : Type} {ra : Rp α} {rb : Rp β} {rc : Rp γ} {te : TE} {Γ Γ1 Γ2 : List Sl} {K : PySem.W.Frag} {w : Rw α} {wb : Rw β} {a : α} {b : β}
def rAlt {α β : Type} (ra : Rp α) (rb : Rp β) : Rp (α ⊕ β) := ⟨fun H v x => match x with
  | .inl a => ra.rel H v a
  | .inr b => rb.rel H v b, fun {H H' v x} s h => by
  cases x with
  | inl a => exact ra.mono s h
  | inr b => exact rb.mono s h⟩
theorem ev_inl (h : EvX ra te Γ Γ1 a) : EvX (rAlt ra rb) te Γ Γ1 (.inl a) := fun A σ H B F Q q => h A σ H B F Q q
theorem ev_inr (h : EvX rb te Γ Γ1 b) : EvX (rAlt ra rb) te Γ Γ1 (.inr b) := fun A σ H B F Q q => h A σ H B F Q q
theorem un_inl (h : EvX (rAlt ra rb) te Γ Γ1 (.inl a)) : EvX ra te Γ Γ1 a := fun A σ H B F Q q => h A σ H B F Q q
theorem un_inr (h : EvX (rAlt ra rb) te Γ Γ1 (.inr b)) : EvX rb te Γ Γ1 b := fun A σ H B F Q q => h A σ H B F Q q
def dAlt {α β : Type} (f : α → PyData) (g : β → PyData) : α ⊕ β → PyData
  | .inl a => f a
  | .inr b => g b
theorem da_alt {f : α → PyData} {g : β → PyData} (h : Da K ra f) (k : Da K rb g) : Da K (rAlt ra rb) (dAlt f g) := fun H v x e => by
  cases x with
  | inl a => exact h H v a e
  | inr b => exact k H v b e
def altO {α β γ : Type} (x : α ⊕ β) (f : α → γ) (g : β → γ) : γ := match x with
  | .inl a => f a
  | .inr b => g b
theorem ev_altO {T : TE → TE} {x : α ⊕ β} {f : α → γ} {g : β → γ} (hl : ∀ a, EvX ra te Γ Γ1 a → EvX rc (T te) Γ Γ1 (f a)) (hr : ∀ b, EvX rb te Γ Γ1 b → EvX rc (T te) Γ Γ1 (g b)) (h : EvX (rAlt ra rb) te Γ Γ1 x) : EvX rc (T te) Γ Γ1 (altO x f g) := by
  cases x with
  | inl a => exact hl a (un_inl h)
  | inr b => exact hr b (un_inr h)
end
end G
set_option maxHeartbeats 4000000
namespace L2
open PySem PySem.Spec PyProof.Rows
inductive HdsAs (X : Cx) : List ExceptHandler → List (Value × Nat × (Addr → Value → Option Addr → TS)) → Prop
  | nil : HdsAs X [] []
  | cons {x n : Str} {c : Value} {i : Nat} {ts : Addr → Value → Option Addr → TS} {b₀ : Stmt} {suite : List Stmt} {np pos' : Pos} {hds : List ExceptHandler} {l : List (Value × Nat × (Addr → Value → Option Addr → TS))}
      (hi : X.N[i]? = some n) (hln : X.env.kindOf n = some .local) (hc : Names X x c)
      (hsu : ∀ (a : Addr) (oe : Obj) (cls : Value) (d : Option Addr) (pn : List (Addr × Obj)), Zc cls d oe → (∃ vs, oe.data = .fields vs) → PSs (X.suite a ((a, oe) :: pn)) (b₀ :: suite) (ts a cls d)) (r : HdsAs X hds l) :
      HdsAs X (.ExceptHandler (some (.Name x np)) (some n) (b₀ :: suite) pos' :: hds) ((c, i, ts) :: l)
section
variable {X : Cx} {body : List Stmt} {h₀ : ExceptHandler} {hds : List ExceptHandler} {l : List (Value × Nat × (Addr → Value → Option Addr → TS))} {pos : Pos} {tb : WX → TS} {Wout : WX}
end
end L2
namespace G
variable [TabL]
open PySem PySem.Spec PyProof.Rows L2
inductive HdsG (X : Cx) : List ExceptHandler → List (Value × Nat × List Stmt) → Prop
  | nil : HdsG X [] []
  | cons {x n : Str} {c : Value} {i : Nat} {b₀ : Stmt} {suite : List Stmt} {np pos' : Pos} {hds : List ExceptHandler} {l : List (Value × Nat × List Stmt)}
      (hi : X.N[i]? = some n) (hln : X.env.kindOf n = some .local) (hc : Names X x c) (r : HdsG X hds l) :
      HdsG X (.ExceptHandler (some (.Name x np)) (some n) (b₀ :: suite) pos' :: hds) ((c, i, b₀ :: suite) :: l)
abbrev suis (X : Cx) (l : List (Value × Nat × List Stmt)) : List (Value × Nat × (Addr → Value → Option Addr → TS)) := l.map fun x => (x.1, x.2.1, tSui X x.2.2)
theorem HdsG.as {X : Cx} : ∀ {hds : List ExceptHandler} {l : List (Value × Nat × List Stmt)}, HdsG X hds l → HdsAs X hds (suis X l)
  | _, _, .nil => .nil
  | _, _, .cons hi hln hc r => .cons hi hln hc (fun a oe cls d pn hz hf' => ⟨fun pins s σ H D I ⟨t, ht, q⟩ => (ht oe pn hz hf').run pins s σ H D I q⟩) r.as
section
variable {α β γ δ ε ε' : Type} {r : Rp α} {rb : Rp β} {rc : Rp γ} {te ta tb : TE} {t : TA} {Γ Γ1 Γ2 : List Sl} {K : PySem.W.Frag} {w : Rw α} {C : Addr} {names : List Str} {R : ER ε} {R1 : ER ε} {R2 : ER ε'} {A : Amb} {D : Ends} {u : TS} {i : Nat}
def sumO {α β γ : Type} (x : α ⊕ β) (f : α → Option γ) (g : β → Option γ) : Option γ := match x with
  | .inl a => f a
  | .inr b => g b
@[simp] theorem sumO_l {α β γ : Type} (a : α) (f : α → Option γ) (g : β → Option γ) : sumO (.inl a) f g = f a := rfl
@[simp] theorem sumO_r {α β γ : Type} (b : β) (f : α → Option γ) (g : β → Option γ) : sumO (.inr b) f g = g b := rfl
theorem nxe_sum {W : WX} {x : ε ⊕ ε'} {f : ε → Option γ} {g : ε' → Option γ} {z : γ} (h : sumO x f g = some z) (k1 : ∀ a, f a = some z → NxE W A Γ R1 a) (k2 : ∀ b, g b = some z → NxE W A Γ R2 b) : NxE W A Γ (erS R1 R2) x := by
  cases x with
  | inl a => exact fun cls d σ H B F he => k1 a h cls d σ H B F he
  | inr b => exact fun cls d σ H B F he => k2 b h cls d σ H B F he
end
section
variable {X : Cx} {CX : CXT} {C f : Addr} {fd : FuncData} {ps : List Str} {n : Nat} {sp : Sp} {E : L2.St → XK} {K : PySem.W.Frag} {a b : Expr} {ta tb : TE} {pos : Pos}
end
section
variable {α β γ δ ε : Type} {ra : Rp α} {rb : Rp β} {rc : Rp γ} {ta tb : TE} {Γ Γ1 Γ2 : List Sl} {K : PySem.W.Frag} {w : Rw α} {C : Addr} {names : List Str} {R : ER ε} {A : Amb} {D : Ends} {u : TS} {i : Nat} {x : α} {y : β}
end
section
variable {prog : Program} {w : World} {A : Around} {E : Value → Shared → Prop} {s : Shared} {K : PySem.W.Frag} {x C f : Addr} {ox : Obj} {odd : Option Obj}
end
section
variable {X : Cx} {CX : CXT} {C f : Addr} {fd : FuncData} {ps : List Str} {n : Nat} {sp : Sp} {E : XK} {K : PySem.W.Frag}
end
section
variable {prog : Program} {w : World} {A : Around} {E : Value → Shared → Prop} {s : Shared} {x : Addr}
end
section
variable {X : Cx} {CX : CXT} {C f : Addr} {fd : FuncData} {ps : List Str} {n : Nat} {sp : Sp} {E : XK} {K : PySem.W.Frag}
end
section
variable {α β γ : Type} {te : TE} {Γ Γ1 : List Sl} {w : Rw α} {C : Addr} {names : List Str} {x : α} {E : XK}
end
end G
namespace G
variable [TabL]
open PySem PySem.Spec PyProof.Rows L2
section
variable {α β γ δ : Type} {ra : Rp α} {rb : Rp β} {rc : Rp γ} {te : TE} {Γ Γ1 : List Sl} {x : α ⊕ β}
theorem nn_alt (h : NN ra) (k : NN rb) : NN (rAlt ra rb) := fun H v a q => by
  cases a with
  | inl a => exact h _ _ _ q
  | inr b => exact k _ _ _ q
instance [NoL ra] [NoL rb] : NoL (rAlt ra rb) := ⟨fun {B p vs v a} hp h => by
  cases a with
  | inl a => exact NoL.no (r := ra) hp h
  | inr b => exact NoL.no (r := rb) hp h⟩
theorem ev_altW {f : α → γ} {g : β → γ} (hl : ∀ a, EvX ra te Γ Γ1 a → EvX rc te Γ Γ1 (f a)) (hr : ∀ b, EvX rb te Γ Γ1 b → EvX rc te Γ Γ1 (g b)) (h : EvX (rAlt ra rb) te Γ Γ1 x) : EvX rc te Γ Γ1 (altO x f g) := ev_altO (T := fun te => te) hl hr h
end
end G
namespace G
variable [TabL]
open PySem PySem.Spec PyProof.Rows L2
section
variable {X : Cx} {a : Expr} {ta : TE} {pos : Pos} {r : V → Hp → (Bool → Hp → Prop) → Prop} {Γ Γ1 : List Sl} {c : Int}
end
end G
set_option maxHeartbeats 4000000
namespace G
variable [TabL]
open PySem PySem.Spec PyProof.Rows L2
section
variable {α β γ δ κ ρ ε : Type} {r : Rp α} {rb : Rp β} {rc : Rp γ} {ta tb : TE} {t : TA} {Γ Γ1 Γ2 : List Sl} {K : PySem.W.Frag} {w : Rw α} {C : Addr} {names : List Str} {R : ER ε} {tf : (L2.St → XK) → TE} {A : Amb} {D : Ends} {u : TS} {i : Nat} {W : WX}
theorem nxe_out {E : XK} {e : ε} (k : RtE A R e E) : NxE (fun cls d _ H => E cls d H) A Γ R e := fun cls d σ H B F he => k cls d H B F.post he
theorem sq_retR {x : Res ε γ} {k : γ → Option δ} {l : ε → Option δ} {z : δ} (h : EvR R rc tf Γ Γ1 x) (e : resX x k l = some z) (ko : ∀ y, k y = some z → Rt A (psi rc) y D.rt) (ke : ∀ y, l y = some z → NxE W A Γ1 R y) : Nx A (tSeq (tRet (tf (WE W))) u D) Γ := fun σ H B F =>
  h A σ H B F (WE W) _ (fun b hb v H' B' F' _ q => ko b (by rw [hb] at e; exact e) H' B' v F'.post q) (fun y hy cls d H' B' F' _ q => ke y (by rw [hy] at e; exact e) _ _ _ _ _ F' q)
theorem sq_fldR {C0 : Addr} {names0 : List Str} {p : Addr} {nm0 : Str} {w0' : Rw β} {w' : Rw ρ} {f : β → γ → ρ} {a0 : β} {x : Res ε γ} {k : γ → Option δ} {l : ε → Option δ} {z : δ} (h : EvR R rc tf Γ Γ1 x) (e : resX x k l = some z)
    (hi : Γ1[i]? = some (.cel p (cIns C0 names0 w0') a0)) (sn : Snoc w0' rc w' f) (nn : nm0 ∉ names0) (hl : names0.length < 900) (c : Cls K C0) (na : NoAttr K C0 nm0)
    (ko : ∀ y, k y = some z → Nx A (u D) (Γ1.set i (.cel p (cIns C0 (names0 ++ [nm0]) w') (f a0 y)))) (ke : ∀ y, l y = some z → NxE W A Γ1 R y) : Nx A (tSeq (sFld K (tVar i) (tf (WE W)) nm0) u D) Γ := fun σ H B F =>
  h A σ H B F (WE W) _ (fun b hb v H1 B1 F1 s1 k1 => by
    obtain ⟨e', o, ho, dx, vs, rfl, l', kw⟩ := cel_at F1 hi
    refine ⟨_, e', p, C0, dx, _, rfl, ho, c, na, by rw [List.length_zip]; omega, ?_⟩
    exact ko b (by rw [hb] at e; exact e) σ _ B1 (F1.write hi (c' := cIns C0 (names0 ++ [nm0]) w') (o' := .ins C0 dx (putF nm0 v (names0.zip vs))) ⟨dx, vs ++ [v], by rw [putF_zip nn l'], by rw [List.length_append, List.length_append, l']; rfl, sn B1 vs a0 v b kw k1⟩ trivial)) (fun y hy cls d H' B' F' _ q => ke y (by rw [hy] at e; exact e) _ _ _ _ _ F' q)
theorem xfCall {C0 : Addr} {names0 : List Str} {p : Addr} {nm0 : Str} {δ0 : Type} {w0' : Rw δ0} {w' : Rw ρ} {f : δ0 → γ → ρ} {a0 : δ0} {wg : Rw κ} {m : κ → Option (Res ε γ)} {a : κ} {x : Res ε γ} (h : EvW wg t Γ Γ1 a) (e : m a = some x) {k : γ → Option δ} {l : ε → Option δ} {z : δ} (q : resX x k l = some z)
    (hi : Γ1[i]? = some (.cel p (cIns C0 names0 w0') a0)) (sn : Snoc w0' rc w' f) (nn : nm0 ∉ names0) (hl : names0.length < 900) (c : Cls K C0) (na : NoAttr K C0 nm0)
    (ko : ∀ y, k y = some z → Nx A (u D) (Γ1.set i (.cel p (cIns C0 (names0 ++ [nm0]) w') (f a0 y)))) (ke : ∀ y, l y = some z → NxE W A Γ1 R y) : Nx A (tSeq (sFld K (tVar i) ((fun E => tCallS (SpX R wg rc m) E t) (WE W)) nm0) u D) Γ := sq_fldR (tf := fun E => tCallS (SpX R wg rc m) E t) (er_callX h e) q hi sn nn hl c na ko ke
theorem xaMake {wg : Rw κ} {wb : Rw γ} {m : κ → Option (Res ε γ)} {a : κ} {x : Res ε γ} (hmono : ∀ {H H' : Hp} {cls d e}, Same H H' → R H cls d e → R H' cls d e) (h : EvW wg t Γ Γ1 a) (e : m a = some x) {k : γ → Option δ} {l : ε → Option δ} {z : δ} (q : resX x k l = some z)
    (ko : ∀ y, k y = some z → Nx A (u D) (Γ1.set i (.imm (rIns C names wb) y))) (ke : ∀ y, l y = some z → NxE W A Γ1 R y) : Nx A (tSeq (tAsg ((fun E => tMakeS C (SpI R C wg (cIns C names wb) m) E t) (WE W)) (gName i)) u D) Γ := sq_asgR (tf := fun E => tMakeS C (SpI R C wg (cIns C names wb) m) E t) (er_make hmono h e) q ko ke
theorem xdMake {wg : Rw κ} {wb : Rw γ} {m : κ → Option (Res ε γ)} {a : κ} {x : Res ε γ} (hmono : ∀ {H H' : Hp} {cls d e}, Same H H' → R H cls d e → R H' cls d e) (h : EvW wg t Γ Γ1 a) (e : m a = some x) {k : γ → Option δ} {l : ε → Option δ} {z : δ} (q : resX x k l = some z)
    (ko : ∀ y, k y = some z → Nx A (u D) Γ1) (ke : ∀ y, l y = some z → NxE W A Γ1 R y) : Nx A (tSeq (tDrop ((fun E => tMakeS C (SpI R C wg (cIns C names wb) m) E t) (WE W))) u D) Γ := sq_dropR (r := (rIns C names wb)) (tf := fun E => tMakeS C (SpI R C wg (cIns C names wb) m) E t) (er_make hmono h e) q ko ke
theorem xaMe {wg : Rw κ} {nm : Str} {m : α × κ → Option (Res ε γ)} {x : Res ε γ} {y1 : α} {a : κ} (h : EvX (rIns C names w) ta Γ Γ1 y1) (h2 : EvW wg t Γ1 Γ2 a) (e : m (y1, a) = some x) (hn : nm ∉ names) {k : γ → Option δ} {l : ε → Option δ} {z : δ} (q : resX x k l = some z)
    (ko : ∀ y, k y = some z → Nx A (u D) (Γ2.set i (.imm rc y))) (ke : ∀ y, l y = some z → NxE W A Γ2 R y) : Nx A (tSeq (tAsg ((fun E => tMx C nm (SpX R (wC (rIns C names w) wg) rc m) E ta t) (WE W)) (gName i)) u D) Γ := sq_asgR (tf := fun E => tMx C nm (SpX R (wC (rIns C names w) wg) rc m) E ta t) (er_meth h h2 e hn) q ko ke
end
theorem binds_nil {K : PySem.W.Frag} {fd : FuncData} {ps : List Str} {ds : List Value} (h : Binds K fd ps ds) (v : Vals [] ds) : Binds K fd ps [] := by
  cases v; exact h
end G
set_option maxHeartbeats 4000000
namespace G
variable [TabL]
open PySem PySem.Spec PyProof.Rows L2
structure FMet (K : PySem.W.Frag) (C : Addr) (mc : Value) (m : Str) (g : Addr) : Prop where
  at_ : PySem.W.findCls K (.ref C) mc m = some (.val (.ref g))
  kp : PySem.W.keepIn K (.ref g) = true
section
variable {X : Cx} {CX : CXT} {k : Nat} {C g : Addr} {mc : Value} {sp : Sp} {E : L2.St → XK} {fd : FuncData} {ps : List Str} {e : Expr} {es : List Expr} {x m : Str} {pos apos px : Pos} {t : TA} {pl : Sem Bool}
end
section
variable {P : Program} {w : World} {K : PySem.W.Frag} {mg : Str → Option Value} {base : Heap}
end
section
variable {α β γ δ κ μ : Type} {r2 : Rp α} {r3 : Rp β} {t2 t3 te : TE} {Γ Γ1 Γ2 : List Sl} {K : PySem.W.Frag} {w : Rw γ} {w' : Rw δ} {w'' : Rw κ} {C : Addr} {names : List Str} {A : Amb} {D : Ends} {u : TS} {i : Nat} {p : Addr} {z : γ} {a2 : α} {a3 : β} {f1 : γ → α → δ} {f2 : δ → β → κ} {n1 n2 : Str} {E : L2.St → XK}
end
section
variable {α β γ : Type} {ra : Rp α} {rb : Rp β} {rc : Rp γ} {te ta tb : TE} {Γ Γ1 Γ2 : List Sl} {x : α ⊕ β} {c : γ}
end
section
variable {X : Cx} {CX : CXT} {f : Addr} {fd : FuncData} {ps : List Str} {n : Nat} {sp : Sp} {E : XK} {K : PySem.W.Frag}
end
section
variable {α β γ : Type} {ra : Rp α} {rb : Rp β} {ta tb : TE} {Γ Γ1 Γ2 : List Sl} {K : PySem.W.Frag} {w : Rw α} {C f : Addr} {nm : Str} {names : List Str} {Cs Ds : List Addr} {ts us : List Value} {x : α} {y : β} {E : XK} {t : Value}
end
section
variable {α β : Type} {r : Rp α} {te ta tb : TE} {Γ Γ1 Γ2 : List Sl} {K : PySem.W.Frag} {xs ys zs : List α} {i : Nat} {p : Addr}
end
end G
set_option maxHeartbeats 4000000
namespace G
variable [TabL]
open PySem PySem.Spec PyProof.Rows L2
abbrev FE := L2.Key × V
def RawF (P : Program) (w : World) (a : Addr) (o : Obj) (kvs : List FE) (h : Heap) : Prop :=
  kvs.length ≤ sizeLine ∧ (a == sysModules) = false ∧ ∃ vs, KV kvs vs ∧ h.get? a = some o ∧ ∃ es ep, o.ExactDict ∧ o.data = .dict es ep ∧ KeysOf (mixKind P w) es ∧ Pairs (mixKind P w) es.toList vs ∧ (vs.map (·.1)).Nodup
def dFO (P : Program) (w : World) (a : Addr) (o : Obj) (kvs : List FE) : HO := .ext (RawF P w a o kvs)
section
variable {P : Program} {w : World} {H : Hp} {h : Heap} {a : Addr} {o : Obj} {kvs : List FE}
theorem df_mk (r : RawF P w a o kvs h) : ObjOk P w H h a (dFO P w a o kvs) := by
  refine ⟨r, ?_, fun h1 h2 r k => ?_⟩
  · obtain ⟨_, _, _, _, e, _⟩ := r; exact ⟨o, e⟩
  · obtain ⟨z, y, vs, kn, e, q⟩ := r
    exact ⟨z, y, vs, kn, k o e, q⟩
theorem df_of (ok : HOk P w H h) (e : H a = some (dFO P w a o kvs)) : RawF P w a o kvs h := (show ObjOk P w H h a (dFO P w a o kvs) from ok a _ e).1
theorem df_dict (ok : HOk P w H h) (e : H a = some (dFO P w a o kvs)) : kvs.length ≤ sizeLine ∧ (a == sysModules) = false ∧ ∃ vs, KV kvs vs ∧ h.DictOf (mixKind P w) a vs := by
  obtain ⟨z, y, vs, kv, e1, es, ep, e2, e3, e4, e5, e6⟩ := df_of ok e
  exact ⟨z, y, vs, kv, o, es, ep, e1, e2, e3, e4, e5, e6⟩
theorem raw_of {vs : List (L2.Key × Value)} (z : kvs.length ≤ sizeLine) (y : (a == sysModules) = false) (kv : KV kvs vs) (dd : h.DictOf (mixKind P w) a vs) : ∃ o, RawF P w a o kvs h := by
  obtain ⟨o, es, ep, e1, e2, e3, e4, e5, e6⟩ := dd
  exact ⟨o, z, y, vs, kv, e1, es, ep, e2, e3, e4, e5, e6⟩
end
def tDNewF (P : Program) (w : World) : TE := fun _ H Q => ∀ p o, H p = none → Q (.ref p) (upd H p (dFO P w p o []))
def FGet (P : Program) (w : World) (H : Hp) (x y : V) (a : Addr) (r : Option V) : Prop := ∃ o kvs k, x = .ref a ∧ H a = some (dFO P w a o kvs) ∧ y = kV k ∧ r = valV kvs k
def tFGet (P : Program) (w : World) (td ty : TE) : TE := fun σ H Q => td σ H fun x H1 => ty σ H1 fun y H2 => ∃ a v, FGet P w H2 x y a (some v) ∧ Q v H2
def tFIn (P : Program) (w : World) (ty td : TE) : TE := fun σ H Q => ty σ H fun y H1 => td σ H1 fun x H2 => ∃ a o, FGet P w H2 x y a o ∧ Q (.bl o.isSome) H2
def tFGet2 (P : Program) (w : World) (td ty tz : TE) : TE := fun σ H Q => td σ H fun x H1 => (∃ a o kvs, x = .ref a ∧ H1 a = some (dFO P w a o kvs)) ∧ ty σ H1 fun y H2 => tz σ H2 fun z H3 => ∃ a o, FGet P w H3 x y a o ∧ Q (o.getD z) H3
def sFPut (P : Program) (w : World) (td ty tv : TE) : TS := fun D σ H => tv σ H fun v H1 => td σ H1 fun x H2 => ty σ H2 fun y H3 => ∃ a o kvs k, x = .ref a ∧ H3 a = some (dFO P w a o kvs) ∧ y = kV k ∧ kvs.length < sizeLine ∧ ∀ o', D.nx σ (upd H3 a (dFO P w a o' (putK kvs k v)))
section
variable {X : Cx} {o i e f value : Expr} {pos pos' tpos apos cpos : Pos} {td ty tz tv : TE}
theorem pe_dnewF : PE X (.Dict [] [] pos) (tDNewF X.prog X.w) := ⟨fun pins s σ H Q I h =>
  wpAny_Dict_empty ⟨.ref s.heap.objs.size, _, I.laid (a := s.heap.objs.size) (o := dFO X.prog X.w s.heap.objs.size { cls := .type "dict", data := .dict #[] } []) (t' := s.toks) (fun _ _ q => Heap.get?_push_of_some _ q) (Nat.le_refl _)
    (df_mk ⟨Nat.zero_le _, beq_eq_false_iff_ne.mpr (Ne.symm (Nat.ne_of_lt I.big)), [], .nil, Heap.get?_push_size _ rfl, #[], 0, ⟨rfl, rfl, rfl⟩, rfl, (fun e h => absurd h (by simp)), .nil, List.nodup_nil⟩), rfl, h _ _ (I.hok.fresh (Nat.le_refl _))⟩⟩
theorem fg_type {pins : List (Addr × Obj)} {σ : L2.St} {H : Hp} {s : Shared} {a : Addr} {ob : Obj} {kvs : List FE} (I : Inv X pins σ H s) (e : H a = some (dFO X.prog X.w a ob kvs)) : s.TypeIs (.ref a) "dict" ∧ (∀ b, Value.ref a = .ref b → ∃ ob, s.heap.get? b = some ob ∧ ob.dict = none) := by
  obtain ⟨_, _, vs, _, e1, es, ep, e2, _⟩ := df_of I.hok e
  exact ⟨⟨ob, e1, e2.1⟩, fun b q => by cases q; exact ⟨ob, e1, e2.2.1⟩⟩
theorem pe_fget (ho : PE X o td) (hi : PE X i ty) (hs : NoSl i) : PE X (.Subscript o i pos) (tFGet X.prog X.w td ty) := ⟨fun pins s σ H Q I h => by
  refine subD_of PySem.F.slot_dict_getitem.lookup hs (thn (ho.run pins s σ H _ I h) fun u s1 ⟨x, H1, I1, rx, q1⟩ => thn (hi.run pins s1 σ H1 _ I1 q1) fun iv s2 ⟨y, H2, I2, ry, a, v, g, q2⟩ => ?_)
  obtain ⟨od, kvs, k, rfl, hp, rfl, l⟩ := g
  obtain rfl : u = Value.ref a := rx
  obtain ⟨z, hd, vs, kv, dd⟩ := df_dict I2.hok hp
  obtain ⟨w', hw, rw'⟩ := RelO.some_of (v := v) (o := valueAt vs k) (by rw [l]; exact kv.val k)
  exact ⟨(fg_type I2 hp).1, wpAny_getItem_of (kV_is ry) dd.mapOf hw ⟨v, H2, I2.tok _, rw', q2⟩⟩⟩
theorem pc_fin (hi : PE X i ty) (ho : PE X o td) : PC X .In i o (tFIn X.prog X.w ty td) := ⟨fun pins s σ H Q I h => by
  refine thn (hi.run pins s σ H _ I h) fun iv s1 ⟨y, H1, I1, ry, q1⟩ => thn (ho.run pins s1 σ H1 _ I1 q1) fun u s2 ⟨x, H2, I2, rx, a, ov, g, q2⟩ => ?_
  obtain ⟨od, kvs, k, rfl, hp, rfl, rfl⟩ := g
  obtain rfl : u = Value.ref a := rx
  obtain ⟨z, hd, vs, kv, dd⟩ := df_dict I2.hok hp
  refine wpAny_in_of (kV_is ry) hd dd.mapOf ?_
  exact ⟨.bl _, H2, I2.tok _, by show _ = _; rw [(kv.val k).isSome_eq], q2⟩⟩
theorem pe_fget2 (ho : PE X o td) (he : PE X e ty) (hf : PE X f tz) (m : M2 X o "get" apos e f cpos) : PE X (.Call (.Attribute o "get" apos) [e, f] [] cpos) (tFGet2 X.prog X.w td ty tz) := ⟨fun pins s σ H Q I h => by
  refine wpAny_Call_method m.base m.few m.line PySem.F.plainAttrs_dict PySem.F.slot_dict_get PySem.F.type_dict_get (thn (ho.run pins s σ H _ I h) fun u s1 ⟨x, H1, I1, rx, q0, q1⟩ => ?_)
  obtain ⟨a0, o0, kvs0, ex0, hp0⟩ := q0
  subst ex0
  obtain rfl : u = Value.ref a0 := rx
  obtain ⟨t1, t2⟩ := fg_type I1 hp0
  refine ⟨t1, t2, ?_⟩
  rw [m.trees]
  refine Calls.callWith_builtin rfl (Calls.evalArgs_plain (Calls.spliced_cons (thn (he.run pins s1 σ H1 _ I1 q1) fun iv s2 ⟨y, H2, I2, ry, q2⟩ =>
    Calls.spliced_cons (thn (hf.run pins s2 σ H2 _ I2 q2) fun fv s3 ⟨z, H3, I3, rz, a, ov, g, q3⟩ => Calls.spliced_nil ?_))))
  obtain ⟨od, kvs, k, ex, hp, rfl, rfl⟩ := g
  cases ex
  obtain ⟨zz, hd, vs, kv, dd⟩ := df_dict I3.hok hp
  exact call_meetsIn PySem.F.slot_dict_get dd.typeIs PySem.F.entry_dict_get (PySem.F.args_dict_get_3 _ _ _) (meets_dict_get_default (mixKind X.prog X.w) a0 (kV_is ry) hd fv) ⟨_, dd.mapOf, _, H3, I3.tok _, (kv.val k).getD rz, q3⟩⟩
theorem ps_fput (ho : PE X o td) (hi : PE X i ty) (hv : PE X value tv) (hs : swapsWith value (some (.Subscript o i pos')) pos.line X.env = pure false) :
    PS X (.Assign [.Subscript o i pos'] value pos) (sFPut X.prog X.w td ty tv) := ⟨fun pins s σ H D I h => by
  refine wpAny_Assign_Subscript (thn (hv.run pins s σ H _ I h) fun r s1 ⟨v, H1, I1, rv, q1⟩ => thn (ho.run pins s1 σ H1 _ I1 q1) fun u s2 ⟨x, H2, I2, rx, q2⟩ => thn (hi.run pins s2 σ H2 _ I2 q2) fun iv s3 ⟨y, H3, I3, ry, a, od, kvs, k, ex, hp, ey, hl, q3⟩ => ?_) hs
  subst ex ey
  obtain rfl : u = Value.ref a := rx
  obtain ⟨z, hd, vs, kv, dd⟩ := df_dict I3.hok hp
  refine wpAny_setItem_pairs (knd := mixKind X.prog X.w) (hsz := by rw [← kv.length]; exact z) (kV_is ry) dd fun h' dd' hs => ?_
  have hl2 : (putK kvs k v).length ≤ sizeLine := by have := length_putK kvs k v; omega
  obtain ⟨q, r⟩ := raw_of (kvs := putK kvs k v) hl2 hd (kv.put k rv) dd'
  have he : ∃ q, h'.get? a = some q := let ⟨q, _, _, hq, _⟩ := dd'; ⟨q, hq⟩
  exact ⟨σ, _, d_write I3 (by rw [hp]; exact True.intro) hs he (df_mk r), q3 q⟩⟩
def tExF (P : Program) (w : World) (t : TE) : TE := fun σ H Q => t σ H fun v H' => ∃ a kvs, v = .ref a ∧ H' a = some (.dK kvs) ∧ ∀ o, Q v (upd H' a (dFO P w a o kvs))
theorem pe_exF {t : TE} (h : PE X e t) : PE X e (tExF X.prog X.w t) := ⟨fun pins s σ H Q I q => by
  refine thn (h.run pins s σ H _ I q) fun u s1 ⟨v, H1, I1, rv, a, kvs, ev, ha, q1⟩ => ?_
  subst ev
  obtain ⟨z, hd, vs, kv, dd⟩ := dk_of I1.hok ha
  obtain ⟨ob, r⟩ := raw_of z hd kv dd
  have he : ∃ q, s1.heap.get? a = some q := let ⟨q, _, _, hq, _⟩ := dd; ⟨q, hq⟩
  exact ⟨.ref a, _, d_write (t' := s1.toks) I1 (by rw [ha]; exact True.intro) ⟨rfl, fun _ _ => rfl⟩ he (df_mk r), rv, q1 ob⟩⟩
end
theorem paired_of {α β : Type} {F : α → β → Prop} : ∀ {l₁ : List α} {l₂ : List β}, l₁.length = l₂.length → (∀ (i : Nat) (a : α) (b : β), l₁[i]? = some a → l₂[i]? = some b → F a b) → Paired F l₁ l₂
  | [], [], _, _ => .nil
  | [], _ :: _, e, _ => by cases e
  | _ :: _, [], e, _ => by cases e
  | a :: l₁, b :: l₂, e, h => .cons (h 0 a b rfl rfl) (paired_of (by simpa using e) fun i x y hx hy => h (i + 1) x y (by simpa using hx) (by simpa using hy))
theorem pairs_at {P : Program} {w : World} {es : List DictEntry} {vs : List (L2.Key × Value)} (h : Pairs (mixKind P w) es vs) : ∀ (i : Nat) (q : L2.Key × Value), vs[i]? = some q → ∃ en, es[i]? = some en ∧ keyIs q.1 en.key = true ∧ en.val = q.2 := by
  induction h with
  | nil => intro i q e; simp at e
  | cons h1 h2 t ih =>
    intro i q e
    cases i with
    | zero => cases e; exact ⟨_, rfl, h1, h2⟩
    | succ i => exact ih i q (by simpa using e)
section
variable {P : Program} {w : World} {K : PySem.W.Frag} {tg : Expr} {d : Addr} {o : Obj} {es : Array DictEntry} {ep : Nat}
theorem df_raw {H : Hp} {h : Heap} {kvs : List FE} (ok : HOk P w H h) (e : H d = some (dFO P w d o kvs)) : (d == sysModules) = false ∧ h.get? d = some o ∧ o.ExactDict ∧ ∃ es ep, o.data = .dict es ep ∧ es.size = kvs.length ∧ ∀ (i : Nat) (q : FE), kvs[i]? = some q → ∃ en : DictEntry, es[i]? = some en ∧ RelV (kV q.1) en.key ∧ RelV q.2 en.val := by
  obtain ⟨z, y, vs, kv, e1, es, ep, e2, e3, e4, e5, e6⟩ := df_of ok e
  refine ⟨y, e1, e2, es, ep, e3, ?_, fun i q hq => ?_⟩
  · have l1 := e5.length
    have l2 : kvs.length = vs.length := kv.length
    rw [Array.length_toList] at l1
    omega
  · obtain ⟨b, hb, k1, k2⟩ := paired_get kv hq
    obtain ⟨en, h1, h2, h3⟩ := pairs_at e5 i b hb
    refine ⟨en, by rw [← Array.getElem?_toList]; exact h1, ?_, by rw [h3]; exact k2⟩
    rw [k1]; exact relV_key h2
end
def rListF (P : Program) (w : World) : List V → Hp → VK → Prop := fun xs H Q => ∃ d o kvs, xs = [V.ref d] ∧ H d = some (dFO P w d o kvs) ∧ ∀ p, H p = none → Q (.ref p) (upd H p (.lst (kvs.map fun e => kV e.1)))
theorem call_listF {X : Cx} (hc : X.calm = true) : CallR X (.type "list") (rListF X.prog X.w) := by
  intro pins s σ H xs us Q I r h
  obtain ⟨d, o, kvs, rfl, hd, q⟩ := h
  obtain ⟨u, rfl, rx⟩ := r.one
  cases rx
  obtain ⟨hs, ho, hx, es, ep, hdt, hsz, ent⟩ := df_raw I.hok hd
  have z := (df_of I.hok hd).1
  refine PySem.W.kdl_call (kdl_raw hs hx hdt) (I.ok.hd hc) ho (by omega) fun h' tk acc c' kp e it => ?_
  have hl : acc.toList.length = kvs.length := by rw [Array.length_toList, it.1]; exact hsz
  have rv : Vals (kvs.map fun e => kV e.1) acc.toList := by
    refine paired_of (by rw [List.length_map, hl]) fun j v u hv hu => ?_
    rw [List.getElem?_map] at hv
    cases hq : kvs[j]? with
    | none => rw [hq] at hv; cases hv
    | some q0 =>
      rw [hq] at hv; cases hv
      obtain ⟨en, hen, hv⟩ := it.2 j u (by rw [← Array.getElem?_toList]; exact hu)
      obtain ⟨en2, h2, hk, _⟩ := ent j _ hq
      rw [hen] at h2; cases h2
      rw [hv]; exact hk
  refine ⟨.ref s.heap.objs.size, _, I.laid (t' := tk) (o := .lst (kvs.map fun e => kV e.1)) kp (Nat.le_refl _) ?_, rfl, q _ (I.hok.fresh (Nat.le_refl _))⟩
  exact ⟨by rw [List.length_map]; exact z, acc.toList, c', rv, by rw [Array.toArray_toList]; exact e⟩
end G
set_option maxHeartbeats 4000000
namespace G
variable [TabL]
open PySem PySem.Spec PyProof.Rows L2
def EvD {α : Type} (c : Addr → Cl α) (t : TE) (Γ Γ' : List Sl) (a : α) : Prop := ∀ (A : Amb) (σ : L2.St) (H B : Hp), Frm A σ H B Γ → ∀ Q : VK, (∀ p o H' B', Frm (A.add p o) σ H' B' Γ' → A.H0 p = none → Same B B' → (c p).ok B' o a → Q (.ref p) H') → t σ H Q
def rOp {α : Type} (c : Addr → Cl α) : Rp α := ⟨fun H v a => ∃ p o, v = .ref p ∧ H p = some o ∧ (c p).ok H o a, fun s ⟨p, o, e, h, k⟩ => ⟨p, o, e, s p o h, (c p).mono s k⟩⟩
section
variable {α β γ : Type} {c : Addr → Cl α} {te : TE} {Γ Γ1 Γ2 : List Sl} {a a' : α} {A : Amb} {D : Ends} {u : TS} {i : Nat}
theorem ed_to (h : EvD c te Γ Γ1 a) (e : a = a') : EvD c te Γ Γ1 a' := e ▸ h
theorem ev_newD (h : EvD c te Γ Γ1 a) : EvX (rOp c) te Γ Γ1 a := fun A σ H B F Q q => h A σ H B F Q fun p o H' B' F' n s k => by
  have hB : B' p = none := F'.hidB n F.sub
  have s' : Same B' (upd B' p o) := fun b u e => by rw [upd_ne (ne_of_none e hB)]; exact e
  exact q _ H' (upd B' p o) (F'.adopt n F.sub F.mh) (s.trans s') ⟨p, o, rfl, upd_same, (c p).mono s' k⟩
theorem sq_asgD (h : EvD c te Γ Γ1 a) (k : ∀ p, ¬ A.m p → Nx A (u D) (Γ1.set i (.cel p (c p) a))) : Nx A (tSeq (tAsg te (gName i)) u D) Γ := fun σ H B F => h A σ H B F _ fun p o H' B' F' n _ q =>
  k p (fun m => F.mh.al p m n) _ _ _ (F'.own1 n F.sub F.mh q)
theorem nn_op : NN (rOp c) := fun _ _ _ ⟨p, _, e, _⟩ e' => by rw [e'] at e; cases e
theorem nx_freezeD {p : Addr} {P : L2.St → Hp → Prop} (i : Nat) (hp : ¬ A.m p) (e : Γ[i]? = some (.cel p (c p) a)) (h : Nx A P (Γ.set i (.imm (rOp c) a))) : Nx A P Γ := fun σ H B F => by
  obtain ⟨e1, n, m, o, ho, k⟩ := F.sl i _ e
  obtain ⟨B', _, F'⟩ := F.freeze hp e
  refine h σ H B' ?_
  have hl : i < Γ.length := (List.getElem?_eq_some_iff.mp e).1
  have := F'.put (σ' := σ) (i := i) (s' := .imm (rOp c) a) rfl (fun _ _ => rfl) fun ow hlt hs => ?_
  · rw [List.set_set] at this; exact this
  · obtain ⟨v, hv, q⟩ := hs _ (by rw [List.getElem?_set_self hl])
    have hv' : σ[i]? = some (some (V.ref p)) := e1
    rw [hv'] at hv
    cases hv
    obtain ⟨p', o', ev, hp', k'⟩ := q
    cases ev
    exact ⟨.ref p, e1, p, o', rfl, hp', k'⟩
end
section
variable {κ β α γ : Type} [DecidableEq κ] {rk : Rp κ} {rv : Rp β} {r : Rp α} {te ta tb tk tv tz : TE} {Γ Γ1 Γ2 Γ3 : List Sl} {P : Program} {w : World} {A : Amb} {D : Ends} {u : TS} {i j : Nat} {p : Addr}
def cDicF (P : Program) (w : World) (ky : Ky rk) (rv : Rp β) (p : Addr) : Cl (List (κ × β)) := ⟨fun H o l => ∃ ob kvs, o = dFO P w p ob kvs ∧ Paired (DRel ky rv H) kvs l, fun s ⟨ob, kvs, e, k⟩ => ⟨ob, kvs, e, Paired.imp2 (fun _ _ q => ⟨q.1, rv.mono s q.2⟩) k⟩⟩
abbrev rDicF (P : Program) (w : World) (ky : Ky rk) (rv : Rp β) : Rp (List (κ × β)) := rOp (cDicF P w ky rv)
theorem ob_dicF (ky : Ky rk) {B H : Hp} {u : V} {l : List (κ × β)} (s : Same B H) (h : (rDicF P w ky rv).rel B u l) : ∃ p o kvs, u = .ref p ∧ H p = some (dFO P w p o kvs) ∧ Paired (DRel ky rv B) kvs l := by
  obtain ⟨p, o, e, hp, ob, kvs, rfl, k⟩ := h
  exact ⟨p, ob, kvs, e, s _ _ hp, k⟩
theorem ed_newF (ky : Ky rk) (rv : Rp β) : EvD (cDicF P w ky rv) (tDNewF P w) Γ Γ [] := fun A σ H B F Q q p o hp =>
  q p _ _ B (F.fresh (o := dFO P w p o []) hp True.intro) (F.H0none hp) (Same.refl _) ⟨o, [], rfl, .nil⟩
theorem ed_exF (ky : Ky rk) {l : List (κ × β)} (h : EvC (cDic ky rv) te Γ Γ1 l) : EvD (cDicF P w ky rv) (tExF P w te) Γ Γ1 l := fun A σ H B F Q q => h A σ H B F _ fun p o H' B' F' n s k => by
  obtain ⟨kvs, rfl, kp⟩ := k
  exact ⟨p, kvs, rfl, F'.hid n F.mh, fun ob => q p _ _ B' (F'.hidset (o' := dFO P w p ob kvs) n F.mh F.sub True.intro) n s ⟨ob, kvs, rfl, kp⟩⟩
theorem ev_fget (ky : Ky rk) {k : κ} {l : List (κ × β)} {b : β} (hd : EvX (rDicF P w ky rv) ta Γ Γ1 l) (hk : EvX rk tk Γ1 Γ2 k) (e : getM l k = some b) : EvX rv (tFGet P w ta tk) Γ Γ2 b := fun A σ H B F Q q =>
  hd A σ H B F _ fun x H1 B1 F1 s1 k1 => hk A σ H1 B1 F1 _ fun y H2 B2 F2 s2 k2 => by
    obtain ⟨p, o, kvs, rfl, hp, kp⟩ := ob_dicF ky F2.bh ((rDicF P w ky rv).mono s2 k1)
    obtain ⟨v, ev, kv⟩ := (get_pair ky k kp).1 b e
    exact ⟨p, v, ⟨o, kvs, ky.key k, rfl, hp, ky.ok k2, ev.symm⟩, q _ _ _ F2 (s1.trans s2) kv⟩
theorem ev_fget2 (ky : Ky rk) {k : κ} {l : List (κ × β)} {z : β} (hd : EvX (rDicF P w ky rv) ta Γ Γ1 l) (hk : EvX rk tk Γ1 Γ2 k) (hz : EvX rv tz Γ2 Γ3 z) : EvX rv (tFGet2 P w ta tk tz) Γ Γ3 ((getM l k).getD z) := fun A σ H B F Q q =>
  hd A σ H B F _ fun x H1 B1 F1 s1 k1 => by
    obtain ⟨p, o, kvs, rfl, hp, kp⟩ := ob_dicF ky (Same.refl _) k1
    refine ⟨⟨p, o, kvs, rfl, F1.bh _ _ hp⟩, hk A σ H1 B1 F1 _ fun y H2 B2 F2 s2 k2 => hz A σ H2 B2 F2 _ fun z2 H3 B3 F3 s3 k3 => ?_⟩
    have kp3 : Paired (DRel ky rv B3) kvs l := Paired.imp2 (fun _ _ q => ⟨q.1, rv.mono (s2.trans s3) q.2⟩) kp
    refine ⟨p, _, ⟨o, kvs, ky.key k, rfl, F3.bh _ _ ((s2.trans s3) _ _ hp), ky.ok k2, rfl⟩, q _ _ _ F3 ((s1.trans s2).trans s3) ?_⟩
    obtain ⟨g1, g2⟩ := get_pair ky k kp3
    cases e : getM l k with
    | none => rw [g2 e]; exact k3
    | some b =>
      obtain ⟨v, ev, kv⟩ := g1 b e
      rw [ev]
      exact kv
theorem cel_dicF {σ : L2.St} {H B : Hp} {ky : Ky rk} {l : List (κ × β)} (F : Frm A σ H B Γ) (h : Γ[i]? = some (.cel p (cDicF P w ky rv p) l)) : σ[i]? = some (some (V.ref p)) ∧ ∃ ob kvs, H p = some (dFO P w p ob kvs) ∧ Paired (DRel ky rv B) kvs l := by
  obtain ⟨e, o, ho, ob, kvs, rfl, k⟩ := cel_at F h
  exact ⟨e, ob, kvs, ho, k⟩
theorem ev_finCel {ky : Ky rk} {l : List (κ × β)} {k : κ} (hk : EvX rk tk Γ Γ1 k) (h : Γ1[i]? = some (.cel p (cDicF P w ky rv p) l)) : EvX rBool (tFIn P w tk (tVar i)) Γ Γ1 ((getM l k).isSome) := fun A σ H B F Q q =>
  hk A σ H B F _ fun y H1 B1 F1 s1 k1 => by
    obtain ⟨e, o, kvs, hp, kp⟩ := cel_dicF F1 h
    exact ⟨_, e, p, _, ⟨o, kvs, ky.key k, rfl, hp, ky.ok k1, rfl⟩, q _ _ _ F1 s1 (by show V.bl _ = V.bl _; rw [some_get ky kp])⟩
theorem sq_fput {ky : Ky rk} {l l' : List (κ × β)} {k : κ} {b : β} (hv : EvX rv tv Γ Γ1 b) (hk : EvX rk tk Γ1 Γ2 k) (h1 : Γ1[i]? = some (.cel p (cDicF P w ky rv p) l)) (h2 : Γ2[i]? = some (.cel p (cDicF P w ky rv p) l)) (e : pyPutD l k b = some l') (n : Nx A (u D) (Γ2.set i (.cel p (cDicF P w ky rv p) l'))) :
    Nx A (tSeq (sFPut P w (tVar i) tk tv) u D) Γ := fun σ H B F => by
  unfold pyPutD at e
  split at e
  · rename_i hl
    cases e
    refine hv A σ H B F _ fun v H1 B1 F1 s1 k1 => ⟨_, (cel_dicF F1 h1).1, hk A σ H1 B1 F1 _ fun y H2 B2 F2 s2 k2 => ?_⟩
    obtain ⟨e2, ob, kvs, hp, kp⟩ := cel_dicF F2 h2
    have pw := put_pair ky (k := k) (rv.mono s2 k1) kp
    refine ⟨p, ob, kvs, ky.key k, rfl, hp, ky.ok k2, ?_, fun o' => n _ _ _ (F2.write h2 ⟨o', _, rfl, pw⟩ True.intro)⟩
    rw [Paired.len kp]
    exact Nat.lt_of_lt_of_le hl (by decide)
  · cases e
theorem ec_listF (ky : Ky rk) {l : List (κ × β)} {ks : List κ} (h : EvX (rDicF P w ky rv) te Γ Γ1 l) (e : pyKeysD l = some ks) : EvC (cLst rk) (tCB (rListF P w) (tCons te tNil)) Γ Γ1 ks := by
  unfold pyKeysD at e
  split at e
  · rename_i hl
    cases e
    refine ec_B1 h fun H B u z s k Q q => ?_
    obtain ⟨p, o, kvs, rfl, hp, kp⟩ := ob_dicF ky s k
    have pk : ∀ {kvs : List FE} {l : List (κ × β)}, Paired (DRel ky rv B) kvs l → Paired (rk.rel B) (kvs.map fun e => kV e.1) (l.map Prod.fst) := by
      intro kvs l h
      induction h with
      | nil => exact .nil
      | cons a t ih => exact .cons (by show rk.rel B (kV _) _; rw [a.1]; exact ky.kn) ih
    refine ⟨p, o, kvs, rfl, hp, fun l hn => q l _ hn ?_ ⟨_, rfl, pk kp⟩⟩
    show (kvs.map _).length ≤ _
    rw [List.length_map, Paired.len kp]
    exact Nat.le_trans hl (by decide)
  · cases e
theorem paired_fn {κ : Type} [DecidableEq κ] {rk : Rp κ} {ky : Ky rk} {rv : Rp β} [NoL rv] {B : Hp} {p : Addr} {vs : List V} (hp : B p = some (.lst vs)) : ∀ {us : List FE} {xs : List (κ × β)}, Paired (DRel ky rv B) us xs → Paired (DRel ky rv (ers B p)) us xs
  | _, _, .nil => .nil
  | _, _, .cons h t => .cons ⟨h.1, NoL.no hp h.2⟩ (paired_fn hp t)
instance {ky : Ky rk} [NoL rv] : NoL (rOp (cDicF P w ky rv)) := ⟨fun {B p vs v a} hp ⟨q, o, e, hq, ob, kvs, eo, k⟩ => ⟨q, o, e, by
  rw [ers_ne fun z => by rw [z, hp] at hq; cases hq; cases eo]; exact hq, ob, kvs, eo, paired_fn hp k⟩⟩
end
section
variable {X : Cx} {P : Program} {w : World} {o i e f value : Expr} {pos pos' apos cpos : Pos} {td ty tz tv t : TE} {tg : Expr}
theorem dnewFK (hP : X.prog = P) (hw : X.w = w) : PE X (.Dict [] [] pos) (tDNewF P w) := by subst hP hw; exact pe_dnewF
theorem fgetK (hP : X.prog = P) (hw : X.w = w) (ho : PE X o td) (hi : PE X i ty) (hs : NoSl i) : PE X (.Subscript o i pos) (tFGet P w td ty) := by subst hP hw; exact pe_fget ho hi hs
theorem finK (hP : X.prog = P) (hw : X.w = w) (hi : PE X i ty) (ho : PE X o td) : PC X .In i o (tFIn P w ty td) := by subst hP hw; exact pc_fin hi ho
theorem fget2K (hP : X.prog = P) (hw : X.w = w) (ho : PE X o td) (he : PE X e ty) (hf : PE X f tz) (m : M2 X o "get" apos e f cpos) : PE X (.Call (.Attribute o "get" apos) [e, f] [] cpos) (tFGet2 P w td ty tz) := by subst hP hw; exact pe_fget2 ho he hf m
theorem fputK (hP : X.prog = P) (hw : X.w = w) (ho : PE X o td) (hi : PE X i ty) (hv : PE X value tv) (hs : swapsWith value (some (.Subscript o i pos')) pos.line X.env = pure false) : PS X (.Assign [.Subscript o i pos'] value pos) (sFPut P w td ty tv) := by subst hP hw; exact ps_fput ho hi hv hs
theorem listFK (hP : X.prog = P) (hw : X.w = w) (hc : X.calm = true) : CallR X (.type "list") (rListF P w) := by subst hP hw; exact call_listF hc
theorem exFK (hP : X.prog = P) (hw : X.w = w) (h : PE X e t) : PE X e (tExF P w t) := by subst hP hw; exact pe_exF h
end
end G
set_option maxHeartbeats 4000000
namespace G
variable [TabL]
open PySem PySem.Spec PyProof.Rows L2
section
variable {X : Cx}
end
end G
set_option maxHeartbeats 4000000
namespace G
variable [TabL]
open PySem PySem.Spec PyProof.Rows L2
section
variable {α β γ δ ε ρ τ : Type} {r : Rp α} {rb : Rp β} {rc : Rp γ} {t : Tr τ} {wg : Rw β} {te tj : TE} {tr ta : TA} {Γ Γ1 Γ2 : List Sl} {K : PySem.W.Frag} {A : Amb} {D : Ends} {u : TS} {i j : Nat} {p : Addr} {v : V} {x : β} {xs ys : List α} {z : Str}
section
variable {κ : Type} {w : Mw δ κ} {vs : List V} {g : δ} {n : Nat} {H0 : Hp} {mo : Addr → Prop} {bb : (β ⊕ τ) × δ}
end
end
def EvRC {ε α : Type} (R : ER ε) (c : Cl α) (te : (L2.St → XK) → TE) (Γ Γ' : List Sl) (x : Res ε α) : Prop := ∀ (A : Amb) (σ : L2.St) (H B : Hp), Frm A σ H B Γ → ∀ (E : L2.St → XK) (Q : VK),
  (∀ b, x = .ok b → ∀ p o H' B', Frm (A.add p o) σ H' B' Γ' → A.H0 p = none → Same B B' → c.ok B' o b → Q (.ref p) H') → (∀ e, x = .er e → ∀ cls d H' B', Frm A σ H' B' Γ' → Same B B' → R B' cls d e → E σ cls d H') → te E σ H Q
section
variable {α β γ δ ε : Type} {R : ER ε} {c : Cl α} {te : (L2.St → XK) → TE} {Γ Γ1 : List Sl} {x : Res ε α} {b : α} {A : Amb} {D : Ends} {u : TS} {i : Nat}
theorem ec_ok (h : EvRC R c te Γ Γ1 x) (e : x = .ok b) (E : L2.St → XK) : EvC c (te E) Γ Γ1 b := fun A σ H B F Q q =>
  h A σ H B F E Q (fun y hy p o H' B' F' n s k => by rw [e] at hy; cases hy; exact q p o H' B' F' n s k) fun y hy => by rw [e] at hy; cases hy
end
section
variable {X : Cx} {CX : CXT} {k n : Nat} {f C : Addr} {fd : FuncData} {ps ks : List Str} {m : Str} {sp : Sp} {E : L2.St → XK} {o e : Expr} {es : List Expr} {kws : List Keyword} {ta : TE} {t tk : TA} {apos pos : Pos} {g : List Value → List Value → List Value} {gV : List V → List V → List V} {dvs : List V} {ds : List Value}
end
section
variable {α β γ δ κ ε : Type} {w : Rw α} {w' : Rw β} {wk : Rw κ} {c : Cl γ} {Γ Γ1 Γ2 Γ3 : List Sl} {te : TE} {ta tk : TA} {a : α} {b : β} {y : κ} {R : ER ε} {C : Addr} {names : List Str} {nm : Str} {dvs : List V} {n : Nat}
end
end G
namespace G
variable [TabL]
open PySem PySem.Spec PyProof.Rows L2
end G
set_option maxHeartbeats 4000000
namespace G
variable [TabL]
open PySem PySem.Spec PyProof.Rows L2
abbrev rTi : Rp (List Int) := rOb (cTpl rInt)
def keyTpl (k : List Int) : NK := .tup (k.map .num)
def kyTpl : KyN rTi where
  key := keyTpl
  inj := fun {a b} e => by injection e with e; exact nums_inj e
  dep := fun k => by unfold keyTpl; simp [NestedKey.depth, dep_nums]
  ref := fun ⟨p, o, e, _⟩ => ⟨p, e⟩
  is := fun {P w H h b k} ok ⟨p, o, e, hp, vs, ho, kk⟩ => by
    cases e
    subst ho
    rw [rint_map kk] at hp
    obtain ⟨its, r, ob, n, g1, g2, g3⟩ := tup_at ok hp
    exact .tup g1 g2 g3 (ints_is r)
def tDcN (P : Program) (w : World) (wi : TI) (g : TG) (tt : TT) (tk tv : TE) (vs : List Nat) : TE := fun σ H Q => wi σ H fun J H1 => ∀ D od, H1 D = none → ∃ W : Nat → Nat → Hp → Prop, (∃ m, W 0 m (upd H1 D (dNO P w D od []))) ∧ ∀ i m H, W i m H →
  (J.stop i H ∧ Q (.ref D) H) ∨ (J.go i H ∧ ∃ Nx : Hp → Prop, (∀ H', Nx H' → ∃ m', m' < m ∧ W (i + 1) m' H') ∧ ∀ x H', J.yld i H x H' → g x (wipe σ vs) H' fun σ2 H2 => wipe σ2 vs = wipe σ vs ∧ tt σ2 H2 fun b H3 =>
    if b = true then tk σ2 H3 fun y H4 => tv σ2 H4 fun z H5 => ∃ b od kvs k, y = .ref b ∧ NkOk P w H5 b k ∧ H5 D = some (dNO P w D od kvs) ∧ AllK P w H5 kvs ∧ kvs.length < sizeLine ∧ ∀ od', Nx (upd H5 D (dNO P w D od' (putN kvs k b z))) else Nx H3)
section
variable {X : Cx} {pins : List (Addr × Obj)} {σ : L2.St}
theorem dset_N {H : Hp} {sh : Shared} {Er : Value → Shared → Prop} {D b : Addr} {od : Obj} {kvs : List NE} {k : NK} {v : V} {r : Value} {Q : Unit → Shared → Prop} (hu : X.A.units + 65 < cLine) (I : Inv X pins σ H sh) (hD : H D = some (dNO X.prog X.w D od kvs)) (ak : AllK X.prog X.w H kvs) (nk : NkOk X.prog X.w H b k) (hl : kvs.length < sizeLine)
    (rv : RelV v r) (done : ∀ od' st, Inv X pins σ (upd H D (dNO X.prog X.w D od' (putN kvs k b v))) st → Q () st) : wpAny (model X.prog X.w) X.A (dictSet D (.ref b) r) Q Er sh := by
  obtain ⟨z, hd, xs, kn, dd⟩ := dn_dict I.hok hD ak
  have nd := (dn_of I.hok hD).2.2.1
  refine wpAny_dictSet_heap (knd := nestedKind X.prog X.w) (hsz := by rw [← Paired.len kn]; exact z) (Nat.lt_of_le_of_lt (Nat.add_le_add_left (by decide) _) hu) ⟨nk.2 _ I.hok, nk.1⟩ dd fun h' dd' hs => ?_
  obtain ⟨q, es, ep, hq, h2, h3, h4, _, h5⟩ := dd'
  refine done q _ (d_write I (by rw [hD]; exact True.intro) hs ⟨q, hq⟩ (dn_mk ⟨?_, hd, putN_nodup nd, _, kn.put k b rv, hq, h2, es, ep, h3, h4⟩))
  have := putN_len kvs k b v
  omega
theorem dcN_run {sh : Shared} {H : Hp} {Q : VK} {kx vx tg iter : Expr} {ifs : List Expr} {blk : Scope} {own : List (Str × Nat)} {pos pos' : Pos} {wi : TI} {g : TG} {tt : TT} {tk tv : TE} {use : Option (Value → Sem Unit)} {Qf : Value → Shared → Prop}
    (hu : X.A.units + 65 < cLine) (hc : X.calm = true) (hN : X.N.Nodup) (I : Inv X pins σ H sh) (hi : PI X tg iter wi) (ok : BlkOk X.N X.env.scope blk own)
    (hg : ∀ (a1 : Shared) (a2 : Hp) (a3 : Addr) (a4 : List (Str × Addr)) (a5 : List Addr), PG (X.blk a1 a2 blk (compEnvC blk a4 a3 X.env) a5) tg g) (ht : ∀ (a1 : Shared) (a2 : Hp) (a3 : Addr) (a4 : List (Str × Addr)) (a5 : List Addr), PTs (X.blk a1 a2 blk (compEnvC blk a4 a3 X.env) a5) ifs tt)
    (hk : ∀ (a1 : Shared) (a2 : Hp) (a3 : Addr) (a4 : List (Str × Addr)) (a5 : List Addr), PE (X.blk a1 a2 blk (compEnvC blk a4 a3 X.env) a5) kx tk)
    (he : ∀ (a1 : Shared) (a2 : Hp) (a3 : Addr) (a4 : List (Str × Addr)) (a5 : List Addr), PE (X.blk a1 a2 blk (compEnvC blk a4 a3 X.env) a5) vx tv) (hs : ∀ x, foldedSetIterable iter X.env x = pure x)
    (main : tDcN X.prog X.w wi g tt tk tv (own.map (·.2)) σ H Q)
    (after : ∀ D C st m Hz, Inv X pins σ Hz st → Q (.ref D) Hz → st.heap.Ns C m → FpOk X pins Hz C → compPost (model X.prog X.w) X.A X.xe use Qf (.ref D) C (.ok .next) st) :
    wpAny (model X.prog X.w) X.A (comprehension (.DictComp kx vx [⟨tg, iter, ifs, 0⟩] blk pos) blk X.env pos' newDict false (eval iter X.env) use) Qf X.xe sh := by
  have captured : ∀ y ∈ blk.names, y.2 = .free → ∃ c, X.env.cells.lookup y.1 = some c := fun y hy e => (ok.free y hy e).elim (fun k => I.ok.has _ (.inl k)) fun k => I.ok.has _ (.inr k)
  refine wpAny_comprehension_free (use := use) rfl hs (closure_ok captured) ok.kind (fun y hy e => by rw [ok.uniq y hy, e]) (thn (hi.run pins sh σ H _ I main) fun xv sa hx => thn hx fun itv sb hsb => ?_)
  obtain ⟨it, fp, tn, J, Hb, e, Ib, T, stb, fb, q⟩ := hsb
  subst e
  refine wpAny_newObj_type (newEnv_comp ?_)
  generalize hD : sb.heap.objs.size = D
  have free0 : Hb D = none := Ib.hok.fresh (Nat.le_of_eq hD)
  obtain ⟨W, ⟨m0, w0⟩, turn⟩ := q D { cls := .type "dict", data := .dict #[] } free0
  generalize hsc : ({ sb with heap := sb.heap.push { cls := .type "dict", data := .dict #[] } } : Shared) = sc
  have Ic : Inv X pins σ (upd Hb D (dNO X.prog X.w D { cls := .type "dict", data := .dict #[] } [])) sc := by
    rw [← hsc]
    refine Ib.laid (t' := sb.toks) (fun _ _ q => Heap.get?_push_of_some _ q) (Nat.le_of_eq hD) ?_
    rw [← hD]
    exact dn_mk ⟨Nat.zero_le _, beq_eq_false_iff_ne.mpr (Ne.symm (Nat.ne_of_lt Ib.big)), List.nodup_nil, [], .nil, Heap.get?_push_size _ rfl, ⟨rfl, rfl, rfl⟩, #[], 0, rfl, rfl⟩
  have heapc : sc.heap = sb.heap.push { cls := .type "dict", data := .dict #[] } := by rw [← hsc]
  have below : ∀ b ∈ fp, b < sb.heap.objs.size := fun b hb => let ⟨_, e, _⟩ := T.obj _ _ stb b hb; Heap.lt_size e
  have fc : ∀ b ∈ fp, FpOk X pins (upd Hb D (dNO X.prog X.w D { cls := .type "dict", data := .dict #[] } [])) b ∧ b < sc.heap.objs.size := fun b hb =>
    ⟨⟨by rw [upd_ne (by rw [← hD]; exact Nat.ne_of_lt (below b hb))]; exact (fb b hb).1, (fb b hb).2⟩, by rw [heapc, Heap.size_push]; exact Nat.lt_succ_of_lt (below b hb)⟩
  have stc : tn 0 sc.heap := T.keep _ _ _ stb fun b _ o e => by rw [heapc]; exact Heap.get?_push_of_some _ e
  have Id := block_start Ic ok hN fc
  have rg := hg sc (upd Hb D (dNO X.prog X.w D { cls := .type "dict", data := .dict #[] } [])) sc.heap.objs.size (cellsFrom (sc.heap.objs.size + 1) blk.names (cloFrom X.env.cells blk.names [])) fp
  have rt := ht sc (upd Hb D (dNO X.prog X.w D { cls := .type "dict", data := .dict #[] } [])) sc.heap.objs.size (cellsFrom (sc.heap.objs.size + 1) blk.names (cloFrom X.env.cells blk.names [])) fp
  have rk := hk sc (upd Hb D (dNO X.prog X.w D { cls := .type "dict", data := .dict #[] } [])) sc.heap.objs.size (cellsFrom (sc.heap.objs.size + 1) blk.names (cloFrom X.env.cells blk.names [])) fp
  have rv := he sc (upd Hb D (dNO X.prog X.w D { cls := .type "dict", data := .dict #[] } [])) sc.heap.objs.size (cellsFrom (sc.heap.objs.size + 1) blk.names (cloFrom X.env.cells blk.names [])) fp
  show codeAny _ _ (.compStart (.DictComp kx vx [⟨tg, iter, ifs, 0⟩] blk pos) 0 (.ref it) (.ref D) (compEnvC blk (cellsFrom (sc.heap.objs.size + 1) blk.names (cloFrom X.env.cells blk.names [])) sc.heap.objs.size X.env)) (compPost (model X.prog X.w) X.A X.xe use Qf (.ref D) sc.heap.objs.size) { sc with heap := pushCells (sc.heap.push { cls := .type "dict", data := .dict #[] }) blk.names }
  have nfp : ∀ b ∈ fp, (upd Hb D (dNO X.prog X.w D { cls := .type "dict", data := .dict #[] } [])) b = none := fun b hb => (fc b hb).1.1
  generalize hce : compEnvC blk (cellsFrom (sc.heap.objs.size + 1) blk.names (cloFrom X.env.cells blk.names [])) sc.heap.objs.size X.env = ce at Id rg rt rk rv ⊢
  have cL : ce.locals = sc.heap.objs.size := by subst hce; rfl
  generalize hHc : upd Hb D (dNO X.prog X.w D { cls := .type "dict", data := .dict #[] } []) = Hc at Ic Id rg rt rk rv w0 nfp fc
  generalize hsd : ({ sc with heap := pushCells (sc.heap.push { cls := .type "dict", data := .dict #[] }) blk.names } : Shared) = sd at Id ⊢
  have std : tn 0 sd.heap := T.keep _ _ _ stc fun b _ o e => by rw [← hsd]; exact pushCells_keeps _ _ _ _ (Heap.get?_push_of_some _ e)
  have apart : ∀ {σx : L2.St} {Hx : Hp} {sx : Shared}, Inv (X.blk sc Hc blk ce fp) [] σx Hx sx → (∀ b ∈ fp, Hx b = none) → ∀ b ∈ fp, FpOk (X.blk sc Hc blk ce fp) [] Hx b := fun {σx Hx sx} Ix hn b hb =>
    ⟨hn b hb, (Ix.ok.exf b hb).1, Ix.ok.exfs b hb, .inl hb, fun x c e => (Ix.ok.exf b hb).2 x c e, fun p hp => absurd (show p ∈ ([] : List (Addr × Obj)) ++ [] from hp) (by simp)⟩
  have loop : codeAny (model X.prog X.w) X.A (.compLoop (.DictComp kx vx [⟨tg, iter, ifs, 0⟩] blk pos) 0 (.ref it) (.ref D) ce) (compPost (model X.prog X.w) X.A X.xe use Qf (.ref D) sc.heap.objs.size) sd := by
    refine compLoop_anyD (fun n sx => ∃ i Hx, Inv (X.blk sc Hc blk ce fp) [] (wipe σ (own.map (·.2))) Hx sx ∧ tn i sx.heap ∧ (∀ b ∈ fp, Hx b = none) ∧ W i n Hx) ?_ m0 ⟨0, Hc, Id, std, nfp, w0⟩
    rintro n se ⟨i, He, Ie, ste, ne, we⟩
    rcases turn i n He we with ⟨stop, qq⟩ | ⟨go, Nx, toNx, step⟩
    · refine thnF (T.done (X.blk sc Hc blk ce fp) rfl rfl rfl hc i [] se _ He (fun _ _ => False) Ie (apart Ie ne) ste stop) fun r sf ⟨hr, If⟩ => ?_
      subst hr
      have Ig : Inv X pins σ He sf := Ic.call' (ch := fp) If.os If.base If.hok If.bare fun b hb => ⟨(fc b hb).1.2.2.2.1, (fc b hb).1.2.1, (fc b hb).1.2.2.2.2.1, (fc b hb).1.2.2.2.2.2⟩
      have nC : He sc.heap.objs.size = none := by have z : He ce.locals = none := If.free; rwa [cL] at z
      obtain ⟨m, hn, _⟩ := If.loc
      have hn : sf.heap.Ns ce.locals m := hn
      rw [cL] at hn
      exact after D sc.heap.objs.size sf m He Ig qq hn (Ic.fpOk (Nat.le_refl _) nC)
    · refine thnF (T.item (X.blk sc Hc blk ce fp) rfl rfl rfl hc i [] se _ He (fun _ _ => False) Ie (apart Ie ne) ste go) fun r sf ⟨u, hr, hf⟩ => ?_
      subst hr
      refine thnF hf fun _ sg ⟨x, Hg, Ig, rg', yg, stg, ng⟩ => ?_
      have Ig' := Ig.pinned (apart Ig ng) (T.obj _ _ stg)
      refine thnF (rg.run _ sg _ Hg x u _ Ig' rg' (step x Hg yg)) fun _ sh8 ⟨σ8, H8, I8, hw8, q8⟩ => ?_
      refine thnF (rt.run _ sh8 σ8 H8 _ I8 q8) fun b sh9 ⟨H9, I9, q9⟩ => ?_
      have fin : ∀ {sx : Shared} {Hx : Hp}, Inv (X.blk sc Hc blk ce fp) ([] ++ pinsAt fp sg.heap) σ8 Hx sx → Nx Hx → ∃ m, m < n ∧ ∃ i Hx, Inv (X.blk sc Hc blk ce fp) [] (wipe σ (own.map (·.2))) Hx sx ∧ tn i sx.heap ∧ (∀ b ∈ fp, Hx b = none) ∧ W i m Hx := fun {sx Hx} Ix nx => by
        obtain ⟨m', hm, w'⟩ := toNx Hx nx
        have stays : ∀ b ∈ fp, ∀ o, sg.heap.get? b = some o → sx.heap.get? b = some o ∧ Hx b = none := fun b hb o e => let z := Ix.pin (b, o) (List.mem_append_right _ (List.mem_append_right _ (mem_pinsAt hb e))); ⟨z.1, z.2.1⟩
        have hl : (wipe σ (own.map (·.2))).length = σ8.length := by rw [← hw8, wipe_length]
        refine ⟨m', hm, i + 1, Hx, (Ix.unpinned (pins := [])).weak hl (fun j v e => by rw [← hw8] at e; exact (wipe_some e).1), T.keep _ _ _ stg fun b hb o e => (stays b hb o e).1, fun b hb => ?_, w'⟩
        obtain ⟨o, e, _⟩ := T.obj _ _ stg b hb
        exact (stays b hb o e).2
      cases b with
      | false => exact fin I9 q9
      | true =>
        refine thnF (rk.run _ sh9 σ8 H9 _ I9 q9) fun z sj ⟨yk, Hj, Ij, rj, qj⟩ => thnF (rv.run _ sj σ8 Hj _ Ij qj) fun z2 sk ⟨yv, Hk, Ik, rvk, bk, od, kvs, k, ek, nk, hDk, ak, hlk, nx⟩ => ?_
        subst ek
        obtain rfl : z = Value.ref bk := rj
        exact dset_N (X := X.blk sc Hc blk ce fp) hu Ik hDk ak nk hlk rvk fun od' sl Il => fin Il (nx od')
  exact codeAny_compStart_dict loop (T.self X.A 0 _ _ _ std loop)
theorem pe_dcN {P : Program} {w : World} (hP : X.prog = P) (hw : X.w = w) (hu : X.A.units + 65 < cLine) {kx vx tg iter : Expr} {ifs : List Expr} {blk : Scope} {own : List (Str × Nat)} {pos : Pos} {wi : TI} {g : TG} {tt : TT} {tk tv : TE} (hc : X.calm = true) (hN : X.N.Nodup) (hi : PI X tg iter wi) (ok : BlkOk X.N X.env.scope blk own)
    (hg : ∀ (a1 : Shared) (a2 : Hp) (a3 : Addr) (a4 : List (Str × Addr)) (a5 : List Addr), PG (X.blk a1 a2 blk (compEnvC blk a4 a3 X.env) a5) tg g) (ht : ∀ (a1 : Shared) (a2 : Hp) (a3 : Addr) (a4 : List (Str × Addr)) (a5 : List Addr), PTs (X.blk a1 a2 blk (compEnvC blk a4 a3 X.env) a5) ifs tt)
    (hk : ∀ (a1 : Shared) (a2 : Hp) (a3 : Addr) (a4 : List (Str × Addr)) (a5 : List Addr), PE (X.blk a1 a2 blk (compEnvC blk a4 a3 X.env) a5) kx tk)
    (he : ∀ (a1 : Shared) (a2 : Hp) (a3 : Addr) (a4 : List (Str × Addr)) (a5 : List Addr), PE (X.blk a1 a2 blk (compEnvC blk a4 a3 X.env) a5) vx tv) (hs : ∀ x, foldedSetIterable iter X.env x = pure x := by intro _; rfl) :
    PE X (.DictComp kx vx [⟨tg, iter, ifs, 0⟩] blk pos) (tDcN P w wi g tt tk tv (own.map (·.2))) := by
  subst hP hw
  refine ⟨fun pins sh σ H Q I main => ?_⟩
  rw [arm_eval_DictComp]
  refine dcN_run hu hc hN I hi ok hg ht hk he hs main fun D C st m Hz Iz q hn f => ⟨m, hn, fun hp sb => ?_⟩
  obtain ⟨f0, f1, f2, f3, f4, f5⟩ := f
  exact ⟨.ref D, Hz, Iz.turned (t' := st.toks) (fun b o hb e => (sb.2 b hb).trans e) f0 f1 f3 f4 f5, rfl, q⟩
end
section
variable {α κ β : Type} [DecidableEq κ] {rk : Rp κ} {rv : Rp β} {r : Rp α} {tt : TT} {tk tv te : TE} {Γ Γ1 : List Sl} {xs : List α} {P : Program} {w : World}
theorem NRel.up {ky : KyN rk} {H H' : Hp} (s : Same H H') {us : List NE} {l : List (κ × β)} (h : Paired (NRel ky rv H) us l) : Paired (NRel ky rv H') us l := Paired.imp2 (fun _ _ q => q.mono s) h
theorem ed_dcN (ky : KyN rk) {wi : TI} {g : TG} {ws vs : List Nat} (f : α → Option (Option (κ × β))) {Γf : α → List Sl} {ys : List (κ × β)} (hi : ItX r wi Γ Γ1 xs) (e : compD f xs [] = some ys) (hg : TgX g r ws Γ1 Γf) (hw : ∀ k, k ∈ ws → k ∈ vs) (hv : wipeG Γ1 vs = Γ1) (hm : ∀ x, wipeG (Γf x) vs = Γ1)
    (hb : ∀ (x : α) (o : Option (κ × β)), f x = some o → EvT tt (Γf x) (Γf x) o.isSome ∧ ∀ y, o = some y → EvX rk tk (Γf x) (Γf x) y.1 ∧ EvX rv tv (Γf x) (Γf x) y.2) : EvD (fun p => cDicN P w p ky rv) (tDcN P w wi g tt tk tv vs) Γ Γ1 ys := fun A σ H B F Q q => by
  refine hi A σ H B F _ fun J H1 B1 F1 sB1 Y => fun D od hD => ?_
  have h0D : A.H0 D = none := F1.H0none hD
  have Fw := (F1.and (Bx := B1) (Same.refl _)).wipe vs
  rw [hv] at Fw
  have F4 := Fw.fresh (o := dNO P w D od []) hD True.intro
  refine ⟨fun i m H => m = xs.length - i ∧ i ≤ xs.length ∧ ∃ B od acc l, Frm ((A.and B1).add D (dNO P w D od acc)) (L2.wipe σ vs) H B Γ1 ∧ Paired (NRel ky rv B) acc l ∧ acc.length ≤ i ∧ compD f (xs.drop i) l = some ys, ⟨_, rfl, Nat.zero_le _, B1, od, [], [], F4, .nil, Nat.le_refl _, by rw [List.drop_zero]; exact e⟩, ?_⟩
  rintro i m H2 ⟨rfl, hil, B3, od3, acc, l, F5, pa, hacc, e2⟩
  by_cases hlt : i < xs.length
  · right
    have hx : xs[i]? = some xs[i] := List.getElem?_eq_getElem hlt
    rw [List.drop_eq_getElem_cons hlt] at e2
    refine ⟨Y.go i H2 B3 F5.ph.2 F5.bh hlt, fun H3 => ∃ B od acc l, Frm ((A.and B1).add D (dNO P w D od acc)) (L2.wipe σ vs) H3 B Γ1 ∧ Paired (NRel ky rv B) acc l ∧ acc.length ≤ i + 1 ∧ compD f (xs.drop (i + 1)) l = some ys, fun H3 h3 => ⟨_, by omega, rfl, by omega, h3⟩, fun v H3 hy => ?_⟩
    obtain ⟨B4, F6, sB4, k4⟩ := Y.yld i _ H2 B3 v H3 F5.ph.2 F5.bh hx hy _ _ _ F5
    refine hg _ _ H3 B4 v xs[i] F6 k4 _ fun σ4 F7 hl4 d4 => ⟨wipe_wipe hl4 fun k hk => d4 k fun z => hk (hw k z), ?_⟩
    have hwp := wipe_wipe hl4 fun k hk => d4 k fun z => hk (hw k z)
    unfold compD at e2
    cases q2 : f xs[i] with
    | none => rw [q2] at e2; cases e2
    | some o =>
      rw [q2] at e2
      obtain ⟨hT, hE⟩ := hb _ _ q2
      refine hT _ _ _ _ F7 _ fun H5 B5 F8 sB5 => ?_
      cases o with
      | none =>
        have F9 := F8.wipe vs
        rw [hm, hwp] at F9
        exact ⟨B5, od3, acc, l, F9, NRel.up (sB4.trans sB5) pa, by omega, e2⟩
      | some y =>
        obtain ⟨hK, hV⟩ := hE y rfl
        refine hK _ _ _ _ F8 _ fun u H6 B6 F9 sB6 k6 => hV _ _ _ _ F9 _ fun u2 H7 B7 F10 sB7 k7 => ?_
        have k6' := rk.mono sB7 k6
        obtain ⟨c, rfl⟩ := ky.ref k6
        have pa7 := NRel.up (((sB4.trans sB5).trans sB6).trans sB7) pa
        have pa2 := put_pairN ky k6' k7 pa7
        refine ⟨c, od3, acc, ky.key y.1, rfl, nk_ok ky (rk.mono F10.bh k6'), F10.hid (A := A.and B1) h0D F.mh.and, allKN ky (NRel.up F10.bh pa7), Nat.lt_of_lt_of_le (Nat.lt_of_le_of_lt hacc hlt) Y.len, fun od' => ?_⟩
        have F11 := F10.wipe vs
        rw [hm, hwp] at F11
        have len2 : (putN acc (ky.key y.1) c u2).length ≤ i + 1 := Nat.le_trans (putN_len _ _ _ _) (Nat.succ_le_succ hacc)
        exact ⟨B7, od', _, _, F11.hidset (A := A.and B1) (o' := dNO P w D od' (putN acc (ky.key y.1) c u2)) h0D F.mh.and F.sub True.intro, pa2, len2, e2⟩
  · left
    have hil : i = xs.length := by omega
    subst hil
    refine ⟨Y.stop H2 B3 F5.ph.2 F5.bh, ?_⟩
    rw [List.drop_length] at e2
    unfold compD at e2
    cases e2
    have F7 : Frm ((A.add D (dNO P w D od3 acc)).and B1) σ H2 B3 _ := F5.unwipe hv
    exact q D (dNO P w D od3 acc) H2 B3 F7.unand h0D (sB1.trans F5.ph.2) ⟨od3, acc, rfl, pa⟩
theorem rOp_dicN (ky : KyN rk) {H : Hp} {v : V} {l : List (κ × β)} (h : (rOp fun p => cDicN P w p ky rv).rel H v l) : (rDicN P w ky rv).rel H v l := by
  obtain ⟨p, o, e, hp, ob, kvs, rfl, k⟩ := h
  exact ⟨p, ob, kvs, e, hp, k⟩
theorem ev_newN (ky : KyN rk) {l : List (κ × β)} (h : EvD (fun p => cDicN P w p ky rv) te Γ Γ1 l) : EvX (rDicN P w ky rv) te Γ Γ1 l := fun A σ H B F Q q => ev_newD h A σ H B F Q fun v H' B' F' s k => q v H' B' F' s (rOp_dicN ky k)
theorem nx_freezeN (ky : KyN rk) {A : Amb} {l : List (κ × β)} {p : Addr} {R : L2.St → Hp → Prop} (i : Nat) (hp : ¬ A.m p) (e : Γ[i]? = some (.cel p (cDicN P w p ky rv) l)) (h : Nx A R (Γ.set i (.imm (rDicN P w ky rv) l))) : Nx A R Γ := nx_freezeD (c := fun p => cDicN P w p ky rv) i hp e fun σ H B F => h σ H B (by
  have hl : i < Γ.length := (List.getElem?_eq_some_iff.mp e).1
  have := F.put (σ' := σ) (i := i) (s' := .imm (rDicN P w ky rv) l) rfl (fun _ _ => rfl) fun ow hlt hs => by
    obtain ⟨v, hv, q⟩ := hs _ (by rw [List.getElem?_set_self hl])
    exact ⟨v, hv, rOp_dicN ky q⟩
  rw [List.set_set] at this; exact this)
end
end G
set_option maxHeartbeats 4000000
namespace G
variable [TabL]
open PySem PySem.Spec PyProof.Rows L2
section
variable {X : Cx} {o e f : Expr} {es : List Expr} {pos p apos cpos : Pos} {td ty tz te : TE} {t : TA} {P : Program} {w : World}
theorem dn_ents {H : Hp} {h : Heap} {d : Addr} {ob : Obj} {kvs : List NE} (ok : HOk P w H h) (eH : H d = some (dNO P w d ob kvs)) : (d == sysModules) = false ∧ h.get? d = some ob ∧ ob.ExactDict ∧ ∃ es ep, ob.data = .dict es ep ∧ es.size = kvs.length ∧ ∀ (i : Nat) (q : NE), kvs[i]? = some q → ∃ en : DictEntry, es[i]? = some en ∧ en.key = .ref q.2.1 ∧ RelV q.2.2 en.val := by
  obtain ⟨z, y, nd, xs, kn, e1, e2, es, ep, e3, e4⟩ := dn_of ok eH
  refine ⟨y, e1, e2, es, ep, e3, ?_, fun i q hq => ?_⟩
  · have l1 : es.size = xs.length := size_of_entries e4
    have l2 : kvs.length = xs.length := Paired.len kn
    omega
  · obtain ⟨b, hb, k1, k2, k3⟩ := paired_get kn hq
    have q2 := entry_at e4 i
    rw [hb] at q2
    exact ⟨_, q2, by rw [k2]; rfl, k3⟩
end
section
variable {P : Program} {w : World} {κ β : Type} [DecidableEq κ] {rk : Rp κ} {rv : Rp β} {te ta tk tz : TE} {tr : TA} {Γ Γ1 Γ2 Γ3 : List Sl} {l : List (κ × β)}
end
end G
set_option maxHeartbeats 4000000
namespace G
variable [TabL]
open PySem PySem.Spec PyProof.Rows L2
def ItuIn (h : Heap) (v : Value) (k : List Int) : Prop := k ≠ [] ∧ ∃ (a : Addr) (xs : Array Value), v = .ref a ∧ IsTup h a xs ∧ IntsAre xs.toList k
theorem ItuIn.keeps {h h' : Heap} {v : Value} {k : List Int} (x : ItuIn h v k) (kp : ∀ b o, h.get? b = some o → o.cls = .type "tuple" → h'.get? b = some o) : ItuIn h' v k := by
  obtain ⟨ne, a, xs, e, ⟨o, ho, hc, r⟩, i⟩ := x
  exact ⟨ne, a, xs, e, ⟨o, kp _ _ ho hc, hc, r⟩, i⟩
theorem ItuIn.uniq {h : Heap} {v : Value} {k m : List Int} (x : ItuIn h v k) (y : ItuIn h v m) : k = m := by
  obtain ⟨_, a, xs, rfl, ⟨o, ho, hc, n, hd⟩, i⟩ := x
  obtain ⟨_, a', xs', e, ⟨o', ho', hc', n', hd'⟩, i'⟩ := y
  cases e
  rw [ho] at ho'; cases ho'
  rw [hd] at hd'
  injection hd' with e1 _
  subst e1
  exact i.nums.symm.trans i'.nums
section
variable {prog : Program} {w : World} {A : Around} {E : Value → Shared → Prop} {s : Shared}
theorem itu_firsts {h : Heap} : ∀ vs : List Value, (∀ v ∈ vs, ∃ k, ItuIn h v k) → ∃ fs, PySem.W.KatTups h vs fs ∧ fs.length = vs.length ∧ ∀ f ∈ fs, ∃ x t, f = Value.int x t
  | [], _ => ⟨[], PySem.W.KatTups.nil, rfl, fun f hf => by simp at hf⟩
  | v :: vs, x => by
    obtain ⟨fs, k, hl, hi⟩ := itu_firsts vs fun u hu => x u (List.mem_cons_of_mem _ hu)
    obtain ⟨ky, ne, a, xs, rfl, ⟨o, ho, hc, n, hd⟩, i⟩ := x v List.mem_cons_self
    have hl0 : 0 < xs.toList.length := by rw [i.length]; exact List.length_pos_iff.mpr ne
    obtain ⟨t, e⟩ := ints_at i 0 hl0
    refine ⟨.int (ky.getD 0 0) t :: fs, PySem.W.KatTups.cons ho hc hd (by rw [← Array.getElem?_toList]; exact e) k, by simp [hl], fun f hf => ?_⟩
    rcases List.mem_cons.mp hf with rfl | hf
    · exact ⟨_, t, rfl⟩
    · exact hi f hf
theorem itu_lex {fin : Bool} {Q : Bool → Shared → Prop} : ∀ {xs ys : List Value} {ns ms : List Int} (i : Nat), IntsAre xs ns → IntsAre ys ms → fin = decide (ns.length < ms.length) → Q (ltI ns ms) s → PySem.W.KatLex prog w A true fin Q (xs.zip ys) i s
  | [], [], _, _, i, .nil, .nil, hf, h => PySem.W.kat_nil (by rw [hf]; exact h)
  | [], _ :: _, _, _, i, .nil, .cons _ _ _, hf, h => PySem.W.kat_nil (by rw [hf]; exact h)
  | _ :: _, [], _, _, i, .cons _ _ _, .nil, hf, h => PySem.W.kat_nil (by rw [hf]; exact h)
  | _ :: xs, _ :: ys, _, _, i, .cons (ns := ns) p t i1, .cons (ns := ms) q u i2, hf, h => by
    rw [List.zip_cons_cons]
    refine PySem.W.kat_cons (wpAny_eqBool_int ?_)
    unfold ltI at h
    refine PySem.W.kat_go (fun e => ?_) (fun e => ?_)
    · have e : p = q := of_decide_eq_true e
      rw [if_pos e] at h
      refine PySem.W.kat_yes (itu_lex (i + 1) i1 i2 ?_ h)
      rw [hf]; simp only [List.length_cons, Nat.add_lt_add_iff_right]
    · have e : ¬ p = q := of_decide_eq_false e
      rw [if_neg e] at h
      refine PySem.W.kat_no ?_
      cases hi : (true && i == 0) with
      | true => exact PyProof.Rows.oneLt_int h
      | false => exact PySem.W.kat_one (E := fun _ _ => False) _ _ (PyProof.Rows.lt_int h)
theorem itu_kind {vs : List Value} {r : Value → Int} (h2 : 2 ≤ vs.length) (hu : A.units + 4 < cLine) (x : ∀ v ∈ vs, ∃ k, ItuIn s.heap v k) (hr : ∀ u ∈ vs, ∀ v ∈ vs, ∀ k m, ItuIn s.heap u k → ItuIn s.heap v m → decide (r u < r v) = ltI k m) (Q : SortKind → Shared → Prop)
    (h : ∀ κ, TS.Cmp prog w A s κ (pairsOf vs) r → Q κ s) : wpAny (model prog w) A (keyKind' vs.toArray) Q E s := by
  obtain ⟨fs, k, hl, hi⟩ := itu_firsts vs x
  refine PySem.W.kat_kind (T := Value.type "int") k (by omega) (fun f hf => ?_) rfl (h _ ?_)
  · obtain ⟨n, t, rfl⟩ := hi f hf
    exact PySem.W.Looks.of_pure rfl
  · intro p q hp hq Q' E' hQ
    rw [pairsOf_toList] at hp hq
    have mp := (mem_zip_self hp).2
    have mq := (mem_zip_self hq).2
    obtain ⟨k1, n1, a, xs, e1, ⟨o, ho, hc, n, hd⟩, ia⟩ := x _ mp
    obtain ⟨k2, n2, b, ys, e2, ⟨o', ho', hc', n', hd'⟩, ib⟩ := x _ mq
    have hQ' : Q' (ltI k1 k2) s := by
      have z := hr _ mp _ mq k1 k2 ⟨n1, a, xs, e1, ⟨o, ho, hc, n, hd⟩, ia⟩ ⟨n2, b, ys, e2, ⟨o', ho', hc', n', hd'⟩, ib⟩
      rw [← z]; exact hQ
    rw [e1, e2]
    refine PySem.W.kat_lt ho hd ho' hd' (itu_lex 0 ia ib ?_ hQ')
    have l1 := ia.length
    have l2 := ib.length
    rw [Array.length_toList] at l1 l2
    rw [l1, l2]
theorem itu_mid {h h' : Heap} {vs : List Value} {r : Value → Int} (kp : ∀ b o, h.get? b = some o → o.cls = .type "tuple" → h'.get? b = some o) (x : ∀ v ∈ vs, ∃ k, ItuIn h v k) (hr : ∀ u ∈ vs, ∀ v ∈ vs, ∀ k m, ItuIn h u k → ItuIn h v m → decide (r u < r v) = ltI k m) :
    (∀ v ∈ vs, ∃ k, ItuIn h' v k) ∧ ∀ u ∈ vs, ∀ v ∈ vs, ∀ k m, ItuIn h' u k → ItuIn h' v m → decide (r u < r v) = ltI k m := by
  refine ⟨fun v hv => let ⟨k, y⟩ := x v hv; ⟨k, y.keeps kp⟩, fun u hu v hv k m yk ym => ?_⟩
  obtain ⟨k0, y0⟩ := x u hu
  obtain ⟨m0, z0⟩ := x v hv
  rw [yk.uniq (y0.keeps kp), ym.uniq (z0.keeps kp)]
  exact hr u hu v hv k0 m0 y0 z0
theorem itu_sort {a : Addr} {vs : List Value} {n : Nat} {R : PySem.Fin → Shared → Prop} {r : Value → Int} (ho : s.heap.get? a = some (seqObj "list" vs.toArray n)) (h64 : vs.length < 64) (hu : A.units + 4 < cLine) (x : ∀ v ∈ vs, ∃ k, ItuIn s.heap v k)
    (hr : ∀ u ∈ vs, ∀ v ∈ vs, ∀ k m, ItuIn s.heap u k → ItuIn s.heap v m → decide (r u < r v) = ltI k m)
    (h : ∀ out : Array Value, out.toList.Perm vs → (out.toList.Pairwise fun u v => r u ≤ r v) → R (.done (.ret .none)) { s with heap := sortedHeap s.heap a vs out }) : wpAny (model prog w) A (Builtin.«list.sort» ⟨[.ref a], []⟩) R E s := by
  have kp : ∀ b o, s.heap.get? b = some o → o.cls = .type "tuple" → (TS.midHeap s.heap a vs).get? b = some o := fun b o e hc => TS.midHeap_old (by
    rintro rfl
    rw [ho] at e; cases e
    exact absurd (by injection hc) (show ¬ ("list" : String) = "tuple" by decide)) e
  obtain ⟨x2, hr2⟩ := itu_mid kp x hr
  exact SK.plain_sort (r := r) ho h64 (fun h2 Q hQ => itu_kind (s := { s with heap := TS.midHeap s.heap a vs }) h2 hu x2 hr2 Q hQ) fun ps out h1 h2 h3 => (fun z => h out z.1 z.2) (TS.out_rank h1 h2 h3)
theorem itu_sorted {l : Addr} {vs : List Value} {r : Value → Int} {Q : Value → Shared → Prop} (hl : s.heap.IsList l vs.toArray) (h64 : vs.length < 64) (hu : A.units + 16 < cLine) (x : ∀ v ∈ vs, ∃ k, ItuIn s.heap v k)
    (hr : ∀ u ∈ vs, ∀ v ∈ vs, ∀ k m, ItuIn s.heap u k → ItuIn s.heap v m → decide (r u < r v) = ltI k m)
    (h : ∀ out : Array Value, out.toList.Perm vs → (out.toList.Pairwise fun u v => r u ≤ r v) → Q (.ref (s.heap.objs.size + 1)) { s with heap := sortedAll s.heap vs out }) : wpAny (model prog w) A (call (.builtin "sorted") [.ref l]) Q E s := by
  refine Calls.call_function_entry (kind_sorted) (plain_sorted) (entry_sorted) (args_sorted1 _) ?_
  unfold Builtin.«sorted»
  refine wpAny_bind (m := (checkCount "sorted" 1 1 _)) (wpAny_pure ?_)
  have hz : vs.length ≤ sizeLine := Nat.le_of_lt (Nat.lt_of_lt_of_le h64 (by decide))
  refine wpAny_bind (collect_list hl ?_ (by rw [sizeLine_eq]; omega))
  refine wpAny_bind (wpAny_newList ?_ (by rw [sizeLine_eq]; omega))
  have sz : ((s.heap.push (seqObj "list" #[] 0)).update s.heap.objs.size (Obj.mapSeq (· ++ vs.toArray))).objs.size = s.heap.objs.size + 1 := by rw [Heap.size_update, size_push']
  generalize hg : (s.heap.push (seqObj "list" #[] 0)).update s.heap.objs.size (Obj.mapSeq (· ++ vs.toArray)) = g at sz
  have gl : (g.push (seqObj "list" vs.toArray 0)).get? (s.heap.objs.size + 1) = some (seqObj "list" vs.toArray 0) := by rw [← sz]; exact Heap.get?_push_size _ rfl
  have kp : ∀ b o, s.heap.get? b = some o → o.cls = .type "tuple" → (g.push (seqObj "list" vs.toArray 0)).get? b = some o := fun b o q _ => by
    have lt : b < s.heap.objs.size := Heap.lt_size q
    rw [Heap.get?_push_ne _ _ _ (by rw [sz]; exact Nat.ne_of_lt (Nat.lt_succ_of_lt lt)), ← hg, Heap.get?_update_ne _ _ _ _ (Nat.ne_of_lt lt), Heap.get?_push_ne _ _ _ (Nat.ne_of_lt lt)]
    exact q
  obtain ⟨x2, hr2⟩ := itu_mid kp x hr
  show wpAny _ _ _ _ _ { s with heap := g.push (seqObj "list" vs.toArray 0) }
  rw [sz]
  refine wpAny_bind (wpAny_holding (wpAny_call_entry slot_list_sort ⟨_, gl, rfl⟩ entry_list_sort (itu_sort (r := r) gl h64 (by show A.units + 1 + 1 + 4 < cLine; omega) x2 hr2 fun out a1 a2 => ⟨_, rfl, ?_⟩) (args_list_sort _)))
  exact wpAny_pure ⟨_, rfl, by have := h out a1 a2; unfold sortedAll at this; rw [hg] at this; exact this⟩
end
def ItuV (K : PySem.W.Frag) (H : Hp) (x : V) (k : List Int) : Prop := k ≠ [] ∧ ∃ b, x = .ref b ∧ SqT K H b (k.map V.int)
theorem ituV_raw {X : Cx} {pins : List (Addr × Obj)} {σ : L2.St} {H : Hp} {s : Shared} (I : Inv X pins σ H s) {b : Addr} {k : List Int} (h : ItuV X.K H (.ref b) k) : ItuIn s.heap (.ref b) k := by
  obtain ⟨ne, b', e, h1⟩ := h
  cases e
  obtain ⟨its, r1, t1, _⟩ := I.tuple h1
  refine ⟨ne, b, its.toArray, rfl, t1, ?_⟩
  rw [List.toList_toArray]
  exact plcV_raw.ints_vals r1
def rSortU2 (K : PySem.W.Frag) : List V → Hp → VK → Prop := fun vs H Q => ∃ (a : Addr) (xs : List V) (ks : List (List Int)) (F : V → List Int → Prop), vs = [V.ref a] ∧ SqL K H a xs ∧ xs.length < 64 ∧ Paired F xs ks ∧ (∀ x k, F x k → ItuV K H x k) ∧
  ∀ (ys : List V) (p : Addr), Paired F ys (oI.sort ks) → H p = none → Q (.ref p) (upd H p (.lst ys))
open Classical in
noncomputable def ituOf (h : Heap) (u : Value) : List Int := if e : ∃ k, ItuIn h u k then choose e else []
theorem ituOf_eq {h : Heap} {u : Value} {k : List Int} (e : ItuIn h u k) : ituOf h u = k := by
  unfold ituOf
  rw [dif_pos ⟨k, e⟩]
  exact (Classical.choose_spec (⟨k, e⟩ : ∃ k, ItuIn h u k)).uniq e
theorem ibk {F : V → List Int → Prop} {f : Value → List Int} : ∀ {its : List Value} {ks : List (List Int)}, Paired F (its.map bkV) ks → (∀ u ∈ its, ∀ k, F (bkV u) k → f u = k) → its.map f = ks ∧ ∀ u ∈ its, F (bkV u) (f u)
  | [], _, h, _ => by cases h; exact ⟨rfl, fun _ z => nomatch z⟩
  | u :: its, ks, h, g => by
    cases h with
    | cons q t =>
      obtain ⟨e1, e2⟩ := ibk t fun u hu => g u (List.mem_cons_of_mem _ hu)
      have e := g u List.mem_cons_self _ q
      refine ⟨by rw [List.map_cons, e, e1], fun v hv => ?_⟩
      rcases List.mem_cons.mp hv with rfl | hv
      · rw [e]; exact q
      · exact e2 v hv
theorem cr_sortU2 {X : Cx} (hu : X.A.units + 16 < cLine) : CallR X (.builtin "sorted") (rSortU2 X.K) := by
  intro pins s σ H vs us Q I rr h
  obtain ⟨a, xs, ks, F, rfl, hs, h64, pk, hF, q⟩ := h
  obtain ⟨its, rv, hl, hz⟩ := I.list hs
  rw [Vals.ref1 rr]
  have isr : ∀ x ∈ xs, ∃ t, x = V.ref t := fun x hx => by
    obtain ⟨j, hj⟩ := List.mem_iff_getElem?.mp hx
    obtain ⟨k, _, hk⟩ := Paired.getL pk hj
    obtain ⟨_, b, e, _⟩ := hF _ _ hk
    exact ⟨b, e⟩
  obtain ⟨e1, e2⟩ := bkV_refs rv isr
  rw [e1] at pk
  have un : ∀ u ∈ its, ∀ k, F (bkV u) k → ItuIn s.heap u k := fun u hu k hk => by
    obtain ⟨b, rfl⟩ := e2 u hu
    exact ituV_raw I (hF _ _ hk)
  obtain ⟨e3, e4⟩ := ibk (f := ituOf s.heap) pk fun u hu k hk => ituOf_eq (un u hu k hk)
  have inn : ∀ u ∈ its, ItuIn s.heap u (ituOf s.heap u) := fun u hu => un u hu _ (e4 u hu)
  have hk : ∀ u ∈ its, ituOf s.heap u ∈ ks := fun u hu => by rw [← e3]; exact List.mem_map_of_mem hu
  refine itu_sorted (r := fun u => oI.rk ks (ituOf s.heap u)) hl.isList (by rw [← rv.length]; exact h64) hu (fun v hv => ⟨_, inn v hv⟩) (fun u hu v hv k m yk ym => ?_) fun out h1 h2 => ?_
  · rw [ituOf_eq yk, ituOf_eq ym]
    have := hk u hu
    rw [ituOf_eq yk] at this
    exact oI.rk_iff this
  · obtain ⟨ep, he⟩ := PyProof.Rows.sortedAll_at s.heap its out
    have mem : ∀ u ∈ out.toList, u ∈ its := fun u hu => h1.mem_iff.mp hu
    have h3 : ∀ u ∈ out.toList, ∃ a, u = Value.ref a := fun u hu => e2 u (mem u hu)
    have srt : out.toList.map (ituOf s.heap) = oI.sort ks := oI.sort_eq (by rw [← e3]; exact h1.map _) (by
      rw [List.pairwise_map]
      refine h2.imp_of_mem fun {u v} hu hv hle => ?_
      have z := oI.rk_iff (L := ks) (a := ituOf s.heap v) (b := ituOf s.heap u) (hk v (mem v hv))
      rw [← z]
      exact decide_eq_false (by omega))
    have hp : Paired F (out.toList.map bkV) (oI.sort ks) := by
      rw [← srt]
      exact paired_maps fun u hu => e4 u (mem u hu)
    have hlen : (out.toList.map bkV).length ≤ sizeLine := by
      rw [List.length_map, h1.length_eq, ← rv.length]; exact hz
    exact ⟨.ref _, upd H (s.heap.objs.size + 1) (.lst (out.toList.map bkV)), I.laid (t' := s.toks) (fun _ _ => PyProof.Rows.sortedAll_old) (Nat.le_succ _) ⟨hlen, out.toList, ep, bkV_vals h3, he⟩, rfl, q _ _ hp (I.hok.fresh (Nat.le_succ _))⟩
section
variable {te : TE} {Γ Γ1 : List Sl} {K : PySem.W.Frag} {xs : List (List Int)}
def pySortU (xs : List (List Int)) : Option (List (List Int)) := if xs.length < 64 ∧ (xs.all fun k => !k.isEmpty) = true then some (oI.sort xs) else none
theorem itu_pair {F : V → List Int → Prop} : ∀ {vs : List V} {xs : List (List Int)}, (∀ k ∈ xs, k ≠ []) → Paired F vs xs → Paired (fun v k => k ≠ [] ∧ F v k) vs xs
  | _, _, _, .nil => .nil
  | _, _, h, .cons q t => .cons ⟨h _ List.mem_cons_self, q⟩ (itu_pair (fun k hk => h k (List.mem_cons_of_mem _ hk)) t)
theorem itu_rel {B H : Hp} (s : Same B H) {v : V} {k : List Int} (ne : k ≠ []) (h : (rOb (cTpl rInt)).rel B v k) : ItuV K H v k := by
  obtain ⟨p, o, rfl, hp, vs, rfl, kk⟩ := h
  rw [rint_map kk] at hp
  exact ⟨ne, p, rfl, SqT.of (s _ _ hp)⟩
theorem ec_sortU {ys : List (List Int)} (h : EvX (rLst (rOb (cTpl rInt))) te Γ Γ1 xs) (e : pySortU xs = some ys) : EvC (cLst (rOb (cTpl rInt))) (tCB (rSortU2 K) (tCons te tNil)) Γ Γ1 ys := by
  unfold pySortU at e
  split at e
  · rename_i hl
    cases e
    exact ec_B1 h fun H B u z s k Q q => by
      obtain ⟨p, vs, rfl, hp, kv⟩ := ob_lst s k
      have ne : ∀ k ∈ xs, k ≠ [] := fun k hk e => by
        have := List.all_eq_true.mp hl.2 k hk
        rw [e] at this; cases this
      refine ⟨p, vs, xs, fun v k => k ≠ [] ∧ (rOb (cTpl rInt)).rel B v k, rfl, SqL.of hp, by rw [Paired.len kv]; exact hl.1, ?_, fun x k hk => itu_rel s hk.1 hk.2, fun ws l pk hn => ?_⟩
      · exact itu_pair ne kv
      · refine q l _ hn ?_ ⟨ws, rfl, Paired.imp2 (fun _ _ z => z.2) pk⟩
        show ws.length ≤ _
        rw [Paired.len pk, (oI.sort_perm xs).length_eq]
        exact Nat.le_of_lt (Nat.lt_of_lt_of_le hl.1 (by decide))
  · cases e
end
end G
set_option maxHeartbeats 4000000
namespace G
variable [TabL]
open PySem PySem.Spec PyProof.Rows L2
def cTX {α : Type} (r : Rp α) : Cl (List α) := ⟨fun H o xs => ∃ ob vs, o = .frz ob (.tup vs) ∧ ob.dict = none ∧ vs.length ≤ sizeLine ∧ Paired (r.rel H) vs xs, fun s ⟨ob, vs, e, d, l, k⟩ => ⟨ob, vs, e, d, l, Paired.monoR s k⟩⟩
def rTupX (K : PySem.W.Frag) : List V → Hp → VK → Prop := fun xs H Q => ∃ p ys, xs = [.ref p] ∧ SqL K H p ys ∧ ∀ l ob, H l = none → ob.dict = none → Q (.ref l) (upd H l (.frz ob (.tup ys)))
section
variable {X : Cx} {K : PySem.W.Frag} {o e : Expr} {apos cpos : Pos} {to te : TE}
theorem tupXK (hK : X.K = K) : CallR X (.type "tuple") (rTupX K) := by
  subst hK
  intro pins s σ H xs us Q I r h
  obtain ⟨p, ys, rfl, hq, q⟩ := h
  obtain ⟨u, rfl, rx⟩ := r.one
  cases rx
  obtain ⟨its, r', pl, hz⟩ := I.list hq
  have hlen := r'.length
  refine call_tuple_list pl.isList (fun h' kp => ?_) (by simp only [List.size_toArray] <;> omega)
  have I1 : Inv X pins σ H { s with heap := h' } := I.kept (t' := s.toks) kp
  refine ⟨.ref h'.objs.size, _, I1.laid (t' := s.toks) (o := .frz { cls := .type "tuple", data := .seq its.toArray } (.tup ys)) (fun _ _ e => Heap.get?_push_of_some _ e) (Nat.le_refl _) ⟨Heap.get?_push_size _ rfl, hz, its, r', IsTup.new _ _⟩, rfl, q _ _ (I1.hok.fresh (Nat.le_refl _)) rfl⟩
end
section
variable {α : Type} {r : Rp α} {te ta tb : TE} {Γ Γ1 Γ2 : List Sl} {K : PySem.W.Frag} {xs : List α} {a : α}
theorem ec_tupX (h : EvX (rLst r) ta Γ Γ1 xs) : EvC (cTX r) (tCB (rTupX K) (tCons ta tNil)) Γ Γ1 xs := fun A σ H B F Q q => h A σ H B F _ fun v H1 B1 F1 s1 k1 => by
  obtain ⟨p, vs, rfl, hp, k⟩ := ob_lst F1.bh k1
  refine ⟨p, vs, rfl, SqL.of hp, fun l ob hl hd => ?_⟩
  have z : vs.length ≤ sizeLine := F1.sz _ _ hp
  exact q l _ _ B1 (F1.fresh (o := .frz ob (.tup vs)) hl True.intro) (F1.H0none hl) s1 ⟨ob, vs, rfl, hd, z, k⟩
end
end G
set_option maxHeartbeats 4000000
namespace GV
open PySem PySem.SeqAt
open AutoSeq1 (wpAny_loadPart')
open MeetsSeq MeetsSeq2 MeetsSeq3 SeqRoads2
section
variable {prog : Program} {w : World} {A : Around} {R : Result → Shared → Prop}
end
section
variable {prog : Program} {w : World} {A : Around} {E : Value → Shared → Prop} {sh : Shared}
end
end GV
set_option maxHeartbeats 4000000
namespace G
variable [TabL]
open PySem PySem.Spec PyProof.Rows L2
abbrev TQ := V → V → Hp → (Bool → Hp → Prop) → Prop
section
variable {X : Cx} {CX : CXT} {C f : Addr} {fd : FuncData} {ps : List Str} {n : Nat} {sp : Sp} {E : XK} {K : PySem.W.Frag} {t : TQ}
end
section
variable {X : Cx} {n : Nat} {P : Program} {w : World} {t : TQ}
end
end G
set_option maxHeartbeats 4000000
namespace G
variable [TabL]
open PySem PySem.Spec PyProof.Rows L2
class FunR {α : Type} (P : Program) (W : World) (r : Rp α) : Prop where
  fn : ∀ {H : Hp} {h : Heap} {v : V} {a b : α}, HOk P W H h → r.rel H v a → r.rel H v b → a = b
class FunW {α : Type} (P : Program) (W : World) (w : Rw α) : Prop where
  fn : ∀ {H : Hp} {h : Heap} {v : List V} {a b : α}, HOk P W H h → w.rel H v a → w.rel H v b → a = b
class FunC {α : Type} (P : Program) (W : World) (c : Cl α) : Prop where
  fn : ∀ {H : Hp} {h : Heap} {o : HO} {a b : α}, HOk P W H h → c.ok H o a → c.ok H o b → a = b
def unV : Value → Option V
  | .none => some .non
  | .bool b => some (.bl b)
  | .int i _ => some (.int i)
  | .str x _ => some (.str x)
  | .bytes b _ => some (.byt b)
  | .float b _ => some (.flt b)
  | .ref a => some (.ref a)
  | .type n => some (.ty n)
  | _ => none
theorem unV_of : ∀ {x : V} {u : Value}, L2.RelV x u → unV u = some x
  | .non, _, h => by rw [show _ = Value.none from h]; rfl
  | .bl b, _, h => by rw [show _ = Value.bool b from h]; rfl
  | .int i, _, ⟨t, h⟩ => by rw [h]; rfl
  | .str i, _, ⟨t, h⟩ => by rw [h]; rfl
  | .byt i, _, ⟨t, h⟩ => by rw [h]; rfl
  | .flt i, _, ⟨t, h⟩ => by rw [h]; rfl
  | .ref a, _, h => by rw [show _ = Value.ref a from h]; rfl
  | .ty n, _, h => by rw [show _ = Value.type n from h]; rfl
theorem relV_inj {x y : V} {u : Value} (h : L2.RelV x u) (k : L2.RelV y u) : x = y := Option.some.inj ((unV_of h).symm.trans (unV_of k))
section
variable {α β κ : Type} {r ra : Rp α} {rb : Rp β} {w : Rw α} {wb : Rw β} {K : PySem.W.Frag} {P : Program} {W : World}
theorem paired_fun [FunR P W r] {H : Hp} {h : Heap} (ok : HOk P W H h) : ∀ {vs : List V} {xs ys : List α}, Paired (r.rel H) vs xs → Paired (r.rel H) vs ys → xs = ys
  | _, _, _, .nil, .nil => rfl
  | _, _, _, .cons a t, .cons b s => by rw [FunR.fn ok a b, paired_fun ok t s]
instance : FunR P W rInt := ⟨fun _ h k => by cases (show V.int _ = V.int _ from (show _ = _ from h).symm.trans k); rfl⟩
instance : FunR P W rStr := ⟨fun _ h k => by cases (show V.str _ = V.str _ from (show _ = _ from h).symm.trans k); rfl⟩
instance : FunR P W rBool := ⟨fun _ h k => by cases (show V.bl _ = V.bl _ from (show _ = _ from h).symm.trans k); rfl⟩
instance : FunR P W rNon := ⟨fun _ _ _ => rfl⟩
instance [FunR P W r] : FunR P W (rOpt r) := ⟨fun {H hp v a b} ok h k => by
  cases a with
  | none => cases b with
    | none => rfl
    | some b => exact absurd (show v = V.non from h) k.2
  | some a => cases b with
    | none => exact absurd (show v = V.non from k) h.2
    | some b => rw [FunR.fn ok h.1 k.1]⟩
instance {c : Cl α} [FunC P W c] : FunR P W (rOb c) := ⟨fun ok ⟨p, o, e, hp, h⟩ ⟨p2, o2, e2, hp2, h2⟩ => by
  subst e; cases e2; rw [hp] at hp2; cases hp2; exact FunC.fn ok h h2⟩
instance [FunR P W r] : FunC P W (cTpl r) := ⟨fun ok ⟨vs, e, h⟩ ⟨ws, e2, h2⟩ => by subst e; cases e2; exact paired_fun ok h h2⟩
instance [FunR P W r] : FunC P W (cLst r) := ⟨fun ok ⟨vs, e, h⟩ ⟨ws, e2, h2⟩ => by subst e; cases e2; exact paired_fun ok h h2⟩
instance [FunW P W w] : FunC P W (cTup w) := ⟨fun ok ⟨vs, e, h⟩ ⟨ws, e2, h2⟩ => by subst e; cases e2; exact FunW.fn ok h h2⟩
instance [FunR P W r] : FunC P W (cTX r) := ⟨fun ok ⟨ob, vs, e, _, _, h⟩ ⟨ob2, ws, e2, _, _, h2⟩ => by subst e; cases e2; exact paired_fun ok h h2⟩
instance : FunW P W w0 := ⟨fun _ _ _ => rfl⟩
instance [FunR P W r] : FunW P W (w1 r) := ⟨fun ok ⟨v, e, h⟩ ⟨v2, e2, h2⟩ => by subst e; cases e2; exact FunR.fn ok h h2⟩
instance [FunR P W ra] [FunW P W wb] : FunW P W (wC ra wb) := ⟨fun {H hp v a b} ok ⟨x, t, e, h, k⟩ ⟨x2, t2, e2, h2, k2⟩ => by subst e; cases e2; exact Prod.ext (FunR.fn ok h h2) (FunW.fn ok k k2)⟩
theorem zip_inj : ∀ {ns : List Str} {xs ys : List V}, xs.length = ns.length → ys.length = ns.length → ns.zip xs = ns.zip ys → xs = ys
  | [], [], [], _, _, _ => rfl
  | _ :: ns, x :: xs, y :: ys, h, k, e => by
    rw [List.zip_cons_cons, List.zip_cons_cons] at e
    injection e with e1 e2
    injection e1 with _ e1
    rw [e1, zip_inj (by simpa using h) (by simpa using k) e2]
instance {C : Addr} {names : List Str} [FunW P W w] : FunC P W (cIns C names w) := ⟨fun ok ⟨dx, vs, e, l, h⟩ ⟨dx2, ws, e2, l2, h2⟩ => by
  subst e
  injection e2 with _ _ e3
  cases zip_inj l l2 e3
  exact FunW.fn ok h h2⟩
instance {C : Addr} {names : List Str} [FunW P W w] : FunR P W (rIns C names w) := inferInstanceAs (FunR P W (rOb (cIns C names w)))
theorem paired_funN [DecidableEq κ] {rk : Rp κ} {ky : KyN rk} [FunR P W rk] [FunR P W rb] {H : Hp} {h : Heap} (ok : HOk P W H h) : ∀ {vs ws : List NE} {xs ys : List (κ × β)}, vs.map (·.2) = ws.map (·.2) → Paired (NRel ky rb H) vs xs → Paired (NRel ky rb H) ws ys → xs = ys
  | _, _, _, _, _, .nil, .nil => rfl
  | _, _, _, _, e, .nil, .cons b s => by cases e
  | _, _, _, _, e, .cons a t, .nil => by cases e
  | _, _, _, _, e, .cons a t, .cons b s => by
    rw [List.map_cons, List.map_cons] at e
    injection e with e1 e2
    have k1 := b.2.1
    have k2 := b.2.2
    rw [← e1] at k1 k2
    rw [Prod.ext (FunR.fn ok a.2.1 k1) (FunR.fn ok a.2.2 k2), paired_funN ok e2 t s]
instance [DecidableEq κ] {rk : Rp κ} {ky : KyN rk} [FunR P W rk] [FunR P W rb] : FunR P W (rDicN P W ky rb) := ⟨fun {H hp v a b} ok ⟨p, o, vs, e, hv, h⟩ ⟨p2, o2, ws, e2, hw, h2⟩ => by
  subst e; cases e2
  obtain ⟨_, g1, _, es, ep, d1, z1, t1⟩ := dn_ents ok hv
  obtain ⟨_, g2, _, fs, fp, d2, z2, t2⟩ := dn_ents ok hw
  rw [g1] at g2; cases g2
  rw [d1] at d2; cases d2
  refine paired_funN ok ?_ h h2
  apply List.ext_getElem?
  intro i
  rw [List.getElem?_map, List.getElem?_map]
  by_cases hi : i < vs.length
  · have hj : i < ws.length := by omega
    rw [List.getElem?_eq_getElem hi, List.getElem?_eq_getElem hj]
    obtain ⟨en, e1, k1, v1⟩ := t1 i _ (List.getElem?_eq_getElem hi)
    obtain ⟨en2, e2, k2, v2⟩ := t2 i _ (List.getElem?_eq_getElem hj)
    rw [e1] at e2; cases e2
    rw [k1] at k2
    injection k2 with k2
    show some (vs[i].2.1, vs[i].2.2) = some (ws[i].2.1, ws[i].2.2)
    rw [k2, relV_inj v1 v2]
  · rw [List.getElem?_eq_none (by omega), List.getElem?_eq_none (by omega)]⟩
theorem paired_funF [DecidableEq κ] {rk : Rp κ} {ky : Ky rk} [FunR P W rb] {H : Hp} {h : Heap} (ok : HOk P W H h) : ∀ {vs : List FE} {xs ys : List (κ × β)}, Paired (DRel ky rb H) vs xs → Paired (DRel ky rb H) vs ys → xs = ys
  | _, _, _, .nil, .nil => rfl
  | _, _, _, .cons a t, .cons b s => by rw [Prod.ext (ky.inj (a.1.symm.trans b.1)) (FunR.fn ok a.2 b.2), paired_funF ok t s]
theorem kV_inj : ∀ {a b : L2.Key}, kV a = kV b → a = b
  | .inl _, .inl _, e => by cases e; rfl
  | .inr _, .inr _, e => by cases e; rfl
  | .inl _, .inr _, e => by cases e
  | .inr _, .inl _, e => by cases e
instance [DecidableEq κ] {rk : Rp κ} {ky : Ky rk} [FunR P W rb] : FunR P W (rDicF P W ky rb) := ⟨fun {H hp v a b} ok h h2 => by
  obtain ⟨p, o, vs, rfl, hv, h⟩ := ob_dicF ky (Same.refl _) h
  obtain ⟨p2, o2, ws, e2, hw, h2⟩ := ob_dicF ky (Same.refl _) h2
  cases e2
  obtain ⟨_, g1, _, es, ep, d1, z1, t1⟩ := df_raw ok hv
  obtain ⟨_, g2, _, fs, fp, d2, z2, t2⟩ := df_raw ok hw
  rw [g1] at g2; cases g2
  rw [d1] at d2; cases d2
  have e : vs = ws := by
    apply List.ext_getElem?
    intro i
    by_cases hi : i < vs.length
    · have hj : i < ws.length := by omega
      rw [List.getElem?_eq_getElem hi, List.getElem?_eq_getElem hj]
      obtain ⟨en, e1, k1, v1⟩ := t1 i _ (List.getElem?_eq_getElem hi)
      obtain ⟨en2, e2, k2, v2⟩ := t2 i _ (List.getElem?_eq_getElem hj)
      rw [e1] at e2; cases e2
      rw [Prod.ext (kV_inj (relV_inj k1 k2)) (relV_inj v1 v2)]
    · rw [List.getElem?_eq_none (by omega), List.getElem?_eq_none (by omega)]
  subst e
  exact paired_funF ok h h2⟩
end
section
variable {α β κ : Type} {r ra : Rp α} {rb : Rp β} {w : Rw α} {K : PySem.W.Frag} {P : Program} {W : World} {C : Addr} {names : List Str} {E : XK} {t : TQ} {Γ Γ1 Γ2 : List Sl} {ta tb : TE}
end
end G
set_option maxHeartbeats 4000000
namespace G
variable [TabL]
open PySem PySem.Spec PyProof.Rows L2
def oS : Ord Str where
  lt := ltS
  irr := fun a => decide_eq_false (List.lt_irrefl _)
  tr := fun {a b c} h1 h2 => decide_eq_true (List.lt_trans (of_decide_eq_true h1) (of_decide_eq_true h2))
  tri := fun {a b} h1 h2 => ltS_tri h1 h2
theorem ltCps_eq : ∀ (a b : List Nat), ltCps a b = decide (a < b)
  | [], [] => by simp [ltCps]
  | [], _ :: _ => by simp [ltCps]
  | _ :: _, [] => by simp [ltCps]
  | x :: a, y :: b => by
    have ih := ltCps_eq a b
    unfold ltCps
    rw [ih]
    by_cases h : x < y
    · simp [h, List.cons_lt_cons_iff]
    · by_cases h2 : x = y
      · subst h2; simp [List.cons_lt_cons_iff]
      · simp [h, h2, List.cons_lt_cons_iff]
theorem rising_pw : ∀ (l : List Str) (p : Str), risingS p l = true → (∀ x ∈ l, ltS x p = false) ∧ l.Pairwise fun a b => ltS b a = false
  | [], _, _ => ⟨fun _ z => (nomatch z), .nil⟩
  | x :: r, p, h => by
    unfold risingS at h
    rw [Bool.and_eq_true, Bool.not_eq_true', ltCps_eq] at h
    obtain ⟨h1, h2⟩ := h
    obtain ⟨i1, i2⟩ := rising_pw r x h2
    have hx : ltS x p = false := h1
    refine ⟨fun y hy => ?_, List.pairwise_cons.mpr ⟨i1, i2⟩⟩
    rcases List.mem_cons.mp hy with rfl | hy
    · exact hx
    · have q := i1 y hy
      cases e : ltS y p with
      | false => rfl
      | true =>
        cases e2 : ltS p x with
        | true => exact absurd (oS.tr (a := y) (b := p) (c := x) e e2) (by show ¬ ltS y x = true; rw [q]; decide)
        | false => have := oS.tri hx e2; subst this; rw [e] at q; cases q
theorem sortedS_pw {l : List Str} (h : sortedS l = true) : l.Pairwise fun a b => ltS b a = false := by
  cases l with
  | nil => exact .nil
  | cons x r =>
    obtain ⟨h1, h2⟩ := rising_pw r x h
    exact List.pairwise_cons.mpr ⟨h1, h2⟩
def pySortS (xs : List Str) : Option (List Str) := if xs.length < 64 then some (oS.sort xs) else none
section
variable {te tb : TE} {Γ Γ1 Γ2 : List Sl} {K : PySem.W.Frag} {xs ys : List Str} {x : Str}
theorem str_map {H : Hp} : ∀ {vs : List V} {xs : List Str}, Paired (rStr.rel H) vs xs → vs = xs.map V.str
  | _, _, .nil => rfl
  | _, _, .cons h t => by rw [show _ = V.str _ from h, str_map t]; rfl
theorem paired_strs (l : List Str) (B : Hp) : Paired (rStr.rel B) (l.map V.str) l := Paired.ofMap (F := rStr.rel B) (f := V.str) (fun _ => rfl) l
theorem ec_sortS (h : EvX (rLst rStr) te Γ Γ1 xs) (e : pySortS xs = some ys) : EvC (cLst rStr) (tCB (rSortedS K) (tCons te tNil)) Γ Γ1 ys := by
  unfold pySortS at e
  split at e
  · rename_i hl
    cases e
    exact ec_B1 h fun H B u z s k Q q => by
      obtain ⟨p, vs, rfl, hp, kv⟩ := ob_lst s k
      rw [str_map kv] at hp
      refine ⟨p, xs, rfl, SqL.of hp, hl, fun zs l pm srt hn => ?_⟩
      have e : zs = oS.sort xs := oS.sort_eq pm (sortedS_pw srt)
      subst e
      refine q l _ hn ?_ ⟨_, rfl, paired_strs _ _⟩
      show ((oS.sort xs).map V.str).length ≤ _
      rw [List.length_map, (oS.sort_perm xs).length_eq]
      exact Nat.le_of_lt (Nat.lt_of_lt_of_le hl (by decide))
  · cases e
end
end G
set_option maxHeartbeats 8000000
namespace G
variable [TabL]
open PySem PySem.Spec PyProof.Rows L2
def txtOf (e : Int × Value) : Str := match e.2 with | .str x _ => x | _ => ⟨#[]⟩
def TxtE (P : Program) (w : World) (e : Int × Value) : Prop := ∃ x t, e.2 = Value.str x t ∧ e.1 = (PySem.strKind P w).hash x
def SetT (P : Program) (w : World) (h : Heap) (a : Addr) (M : Str → Bool) (n : Nat) : Prop :=
  ∃ o es ep t, h.get? a = some o ∧ o.ExactSet ∧ o.data = .set es ep t ∧ (∀ e ∈ es.toList, TxtE P w e) ∧ (es.toList.map txtOf).Nodup ∧ (∀ x, M x = true ↔ x ∈ es.toList.map txtOf) ∧
    es.size < scanBound ∧ t.fits es.size = true ∧ es.size = n ∧ Ris t.place.toList ∧ (w.params.followText "set-order" = true ∨ t.led = true)
section
variable {P : Program} {w : World} {h h' : Heap} {a : Addr} {M : Str → Bool} {n : Nat}
theorem SetT.at (R : SetT P w h a M n) (k : ∀ o, h.get? a = some o → h'.get? a = some o) : SetT P w h' a M n := let ⟨o, es, ep, t, ho, r⟩ := R; ⟨o, es, ep, t, k o ho, r⟩
theorem SetT.congr {M' : Str → Bool} (R : SetT P w h a M n) (e : ∀ x, M' x = M x) : SetT P w h a M' n := (show M' = M from funext e) ▸ R
end
section
variable {P : Program} {w : World} {A : Around} {E : Value → Shared → Prop} {z : Shared} {a : Addr} {M : Str → Bool} {n : Nat}
end
section
variable {P : Program} {w : World} {A : Around} {R : Result → Shared → Prop} {it : Addr} {fp wr : List Addr} {Gg : Array GenState → Array GenState → Prop} {n : Nat} {Pv : Nat → Value → Prop} {St : Nat → Shared → Prop}
end
section
variable {prog : Program} {w : World} {A : Around} {E : Value → Shared → Prop} {z : Shared}
end
section
variable {te : TE} {Γ Γ1 : List Sl} {K : PySem.W.Frag} {P : Program} {w : World} {xs ys : List Str}
end
end G
set_option maxHeartbeats 4000000
namespace G
variable [TabL]
open PySem PySem.Spec PyProof.Rows L2
section
variable {κ β α γ : Type} [DecidableEq κ] {rk : Rp κ} {rv : Rp β} {r : Rp α} {te ta tb tk tv tz : TE} {Γ Γ1 Γ2 Γ3 : List Sl} {P : Program} {w : World} {K : PySem.W.Frag}
def EvPs (ky : Ky rk) (rv : Rp β) (t : List (TE × TE)) (Γ Γ' : List Sl) (l : List (κ × β)) : Prop := ∀ (A : Amb) (σ : L2.St) (H B : Hp), Frm A σ H B Γ → ∀ Q : List (V × V) → Hp → Prop, (∀ kvs H' B', Frm A σ H' B' Γ' → Same B B' → Paired (DRel ky rv B') kvs l → Q (kvs.map fun kv => (kV kv.1, kv.2)) H') → tPairs t σ H Q
theorem ep_0 {ky : Ky rk} : EvPs ky rv [] Γ Γ ([] : List (κ × β)) := fun A σ H B F Q q => q [] H B F (Same.refl _) .nil
theorem ep_C {ky : Ky rk} {tr : List (TE × TE)} {k : κ} {b : β} {l : List (κ × β)} (hk : EvX rk tk Γ Γ1 k) (hv : EvX rv tv Γ1 Γ2 b) (hr : EvPs ky rv tr Γ2 Γ3 l) : EvPs ky rv ((tk, tv) :: tr) Γ Γ3 ((k, b) :: l) := fun A σ H B F Q q =>
  hk A σ H B F _ fun x H1 B1 F1 s1 k1 => hv A σ H1 B1 F1 _ fun y H2 B2 F2 s2 k2 => hr A σ H2 B2 F2 _ fun kvs H3 B3 F3 s3 k3 => by
    have := q ((ky.key k, y) :: kvs) H3 B3 F3 ((s1.trans s2).trans s3) (.cons ⟨rfl, rv.mono s3 k2⟩ k3)
    rw [List.map_cons] at this
    rw [show x = kV (ky.key k) from ky.ok k1]
    exact this
theorem mergeK_nd : ∀ (l acc : List (L2.Key × V)), (acc.map Prod.fst ++ l.map Prod.fst).Nodup → mergeK acc l = acc ++ l
  | [], acc, _ => by rw [List.append_nil]; rfl
  | x :: l, acc, h => by
    have e : putK acc x.1 x.2 = acc ++ [x] := by
      unfold putK
      rw [if_neg]
      simp only [List.any_eq_true, decide_eq_true_eq, not_exists, not_and]
      intro y hy e
      rw [List.map_cons] at h
      have h2 := List.nodup_append.mp h
      exact h2.2.2 _ (List.mem_map.mpr ⟨y, hy, rfl⟩) _ (List.mem_cons_self) e
    show mergeK (putK acc x.1 x.2) l = _
    rw [e, mergeK_nd l (acc ++ [x]) (by rw [List.map_append]; simpa [List.append_assoc] using h), List.append_assoc]; rfl
theorem keys_of {ky : Ky rk} {B : Hp} : ∀ {kvs : List (L2.Key × V)} {l : List (κ × β)}, Paired (DRel ky rv B) kvs l → kvs.map Prod.fst = (l.map Prod.fst).map ky.key
  | _, _, .nil => rfl
  | _, _, .cons q t => by rw [List.map_cons, List.map_cons, List.map_cons, keys_of t, q.1]
theorem ec_disp (ky : Ky rk) {trs : List (TE × TE)} {l : List (κ × β)} (ks : List κ) (h : EvPs ky rv trs Γ Γ1 l) (hk : l.map Prod.fst = ks) (hn : ks.Nodup) (h15 : l.length ≤ 15) : EvC (cDic ky rv) (tDisp trs) Γ Γ1 l := fun A σ H B F Q q p hp => by
  have h0 := F.H0none hp
  refine h (A.add p (.dK [])) σ _ B (F.fresh (o := .dK []) hp (Nat.zero_le _)) _ fun kvs H' B' F' s k => ⟨F'.hid h0 F.mh, kvs, rfl, by rw [Paired.len k]; exact h15, ?_⟩
  have nd : (kvs.map Prod.fst).Nodup := by
    rw [keys_of k, hk]
    exact List.Pairwise.map _ (fun a b ne e => ne (ky.inj e)) hn
  rw [mergeK_nd kvs [] (by simpa using nd), List.nil_append]
  have hl : kvs.length ≤ sizeLine := by rw [Paired.len k]; exact Nat.le_trans h15 (by decide)
  exact q p _ _ B' (F'.hidset (o' := .dK kvs) h0 F.mh F.sub hl) h0 s ⟨kvs, rfl, k⟩
theorem ev_slA {xs : List α} {lo hi : Option Int} {tl th : TO} (h : EvX (rOb (cTpl r)) te Γ Γ1 xs) (hl : EvO tl Γ1 Γ2 lo) (hh : EvO th Γ2 Γ3 hi) : EvX (rOb (cTpl r)) (L2.tSl (rSlA K) te tl th) Γ Γ3 (cut xs lo hi) :=
  fun A σ H B F Q q => h A σ H B F _ fun v H1 B1 F1 s1 k1 => hl A σ H1 B1 F1 _ fun H2 B2 F2 s2 => hh A σ H2 B2 F2 _ fun H3 B3 F3 s3 => by
    have k3 := (rOb (cTpl r)).mono (s2.trans s3) k1
    obtain ⟨a, vs, rfl, ha, pv⟩ := ob_tpl F3.bh k3
    have hlen := Paired.len pv
    refine ⟨a, vs, rfl, SqT.of ha, fun hw => ?_, fun hw p hp => ?_⟩
    · refine q _ H3 B3 F3 ((s1.trans s2).trans s3) ?_
      have : cut xs lo hi = xs := by
        unfold cut
        rw [← hlen, hw.1, hw.2, List.drop_zero, hlen]
        simp
      rw [this]; exact k3
    · have h0 := F3.H0none hp
      have ho : szO (.tup (cutV vs lo hi)) := Nat.le_trans (cut_len lo hi vs) (F3.sz _ _ ha)
      have F4 := F3.fresh (o := .tup (cutV vs lo hi)) hp ho
      have hB := F4.hidB h0 F3.sub
      have s' : Same B3 (upd B3 p (.tup (cutV vs lo hi))) := fun b u e => by rw [upd_ne (ne_of_none e hB)]; exact e
      exact q _ _ _ (F4.adopt h0 F3.sub F3.mh) (((s1.trans s2).trans s3).trans s') ⟨p, _, rfl, upd_same, _, rfl, Paired.monoR s' (paired_cut pv)⟩
theorem ev_fget2H (ky : Ky rk) {k : κ} {l : List (κ × β)} {b : β} {rz : Rp γ} {z : γ} (hd : EvX (rDicF P w ky rv) ta Γ Γ1 l) (hk : EvX rk tk Γ1 Γ2 k) (hz : EvX rz tz Γ2 Γ3 z) (e : getM l k = some b) : EvX rv (tFGet2 P w ta tk tz) Γ Γ3 b := fun A σ H B F Q q =>
  hd A σ H B F _ fun x H1 B1 F1 s1 k1 => by
    obtain ⟨p, o, kvs, rfl, hp, kp⟩ := ob_dicF ky (Same.refl _) k1
    refine ⟨⟨p, o, kvs, rfl, F1.bh _ _ hp⟩, hk A σ H1 B1 F1 _ fun y H2 B2 F2 s2 k2 => hz A σ H2 B2 F2 _ fun z2 H3 B3 F3 s3 k3 => ?_⟩
    have kp3 : Paired (DRel ky rv B3) kvs l := Paired.imp2 (fun _ _ q => ⟨q.1, rv.mono (s2.trans s3) q.2⟩) kp
    refine ⟨p, _, ⟨o, kvs, ky.key k, rfl, F3.bh _ _ ((s2.trans s3) _ _ hp), ky.ok k2, rfl⟩, q _ _ _ F3 ((s1.trans s2).trans s3) ?_⟩
    obtain ⟨v, ev, kv⟩ := (get_pair ky k kp3).1 b e
    rw [ev]
    exact kv
theorem ev_fget2M (ky : Ky rk) {k : κ} {l : List (κ × β)} {rz : Rp γ} {z : γ} (hd : EvX (rDicF P w ky rv) ta Γ Γ1 l) (hk : EvX rk tk Γ1 Γ2 k) (hz : EvX rz tz Γ2 Γ3 z) (e : getM l k = none) : EvX rz (tFGet2 P w ta tk tz) Γ Γ3 z := fun A σ H B F Q q =>
  hd A σ H B F _ fun x H1 B1 F1 s1 k1 => by
    obtain ⟨p, o, kvs, rfl, hp, kp⟩ := ob_dicF ky (Same.refl _) k1
    refine ⟨⟨p, o, kvs, rfl, F1.bh _ _ hp⟩, hk A σ H1 B1 F1 _ fun y H2 B2 F2 s2 k2 => hz A σ H2 B2 F2 _ fun z2 H3 B3 F3 s3 k3 => ?_⟩
    have kp3 : Paired (DRel ky rv B3) kvs l := Paired.imp2 (fun _ _ q => ⟨q.1, rv.mono (s2.trans s3) q.2⟩) kp
    refine ⟨p, _, ⟨o, kvs, ky.key k, rfl, F3.bh _ _ ((s2.trans s3) _ _ hp), ky.ok k2, rfl⟩, q _ _ _ F3 ((s1.trans s2).trans s3) ?_⟩
    rw [(get_pair ky k kp3).2 e]
    exact k3
end
section
variable {X : Cx} {K : PySem.W.Frag}
theorem sl_tupAK (h : X.K = K) : SlR X (rSlA K) := by subst h; exact sl_tupA
theorem sortUK (h : X.K = K) (hu : X.A.units + 16 < cLine) : CallR X (.builtin "sorted") (rSortU2 K) := by subst h; exact cr_sortU2 hu
theorem sortSK (h : X.K = K) : CallR X (.builtin "sorted") (rSortedS K) := by subst h; exact cr_sortedS
end
theorem ev_tupE {α : Type} {r : Rp α} {te : TE} {Γ Γ1 : List Sl} {a : Unit} (h : EvX (rOb (cTup w0)) te Γ Γ1 a) : EvX (rTpl r) te Γ Γ1 [] := fun A σ H B F Q q => h A σ H B F Q fun v H' B' F' s ⟨p, o, e, hp, vs, ho, k⟩ => q v H' B' F' s ⟨p, o, e, hp, [], by rw [ho, show vs = [] from k], .nil⟩
end G
set_option maxHeartbeats 4000000
namespace PySem.W
open Lean Elab Tactic Meta PySem PySem.Calls PyProof.Rows
end PySem.W
namespace G
variable [TabL]
open PySem PySem.Spec PyProof.Rows L2
structure TwoC (K : PySem.W.Frag) (C D g : Addr) (nm : String) : Prop where
  hd : PySem.W.selfFirst K D = true
  hr : PySem.W.findIn K (.ref C) (dunderR nm) = some none
  hs2 : PySem.W.findIn K (.ref D) (PySem.dunder nm) = some (some (.ref g))
  hr2 : PySem.W.findIn K (.ref D) (dunderR nm) = some none
  hsub : PySem.W.subIn K (.ref D) (.ref C) = some false
  hself : PySem.W.subIn K (.ref C) (.ref C) = some true
section
variable {X : Cx} {CX : CXT} {C D f g : Addr} {fd : FuncData} {ps : List Str} {n : Nat} {sp : Sp} {E : XK} {Eσ : L2.St → XK} {K : PySem.W.Frag} {a b : Expr} {ta tb : TE} {pos : Pos}
end
section
variable {α β γ ε δ : Type} {rc : Rp γ} {ta tb : TE} {Γ Γ1 Γ2 : List Sl} {K : PySem.W.Frag} {w : Rw α} {w2 : Rw β} {C D : Addr} {names names2 : List Str} {R : ER ε} {E : XK} {x : α} {y : β}
end
end G
set_option maxHeartbeats 4000000
namespace G
variable [TabL]
open PySem PySem.Spec PyProof.Rows L2
section
variable {α β γ ρ ς : Type} {r : Rp α} {tt : TT} {t u : TS} {D : Ends} {A : Amb} {Γ Γ1 : List Sl} {xs : List α} {ψ : ρ → Hp → Hp → V → Prop}
structure ContsE {ρ ς : Type} (A : Amb) (ψ : ρ → Hp → Hp → V → Prop) (D : Ends) (mk : Addr → ς → List Sl) (st : Step ρ ς) : Prop where
  nx : ∀ p s, ¬ A.m p → st = .nx s → Nx A D.nx (mk p s)
  ct : ∀ p s, ¬ A.m p → st = .nx s → Nx A D.ct (mk p s)
  bk : ∀ p s, ¬ A.m p → st = .brk s → Nx A D.bk (mk p s)
  rt : ∀ b, st = .ret b → Rt A ψ b D.rt
end
end G
set_option maxHeartbeats 4000000
namespace G
variable [TabL]
open PySem PySem.Spec PyProof.Rows L2
section
variable {κ β α γ : Type} {r rx : Rp α} {te ta tb : TE} {Γ Γ1 Γ2 : List Sl} {K : PySem.W.Frag} {xs ys x0 : List α} {i : Nat} {p : Addr} {y : α}
end
end G
set_option maxHeartbeats 4000000
namespace G
variable [TabL]
open PySem PySem.Spec PyProof.Rows L2
section
variable {α β γ ε : Type} {r : Rp α} {rb : Rp β} {R : ER ε} {Γ Γ1 Γ2 : List Sl} {A : Amb} {D : Ends} {u : TS}
end
section
variable {α : Type} {r : Rp α} {f : α → PyData} {K : PySem.W.Frag}
end
section
variable {α β γ δ ε : Type} {w : Rw α} {w2 : Rw β} {rc : Rp γ} {R : ER ε} {Γ Γ1 Γ2 : List Sl} {ta tb : TE} {C D2 : Addr} {names names2 : List Str} {A : Amb} {D : Ends} {u : TS} {i : Nat} {W : WX}
end
section
variable {α β γ δ : Type} {ra : Rp α} {rb : Rp β} {rc : Rp γ} {rd : Rp δ} {te : TE} {Γ Γ1 : List Sl}
end
end G
set_option maxHeartbeats 4000000
namespace G
variable [TabL]
open PySem PySem.Spec PyProof.Rows L2
def rQ : Rp Addr := ⟨fun _ v q => v = .ref q, fun _ h => h⟩
section
variable {κ δ : Type} [DecidableEq κ] {rk : Rp κ}
def LsR (rd : Rp δ) (B H : Hp) (o : Addr → Prop) (x0 : κ × Addr) (x : κ × List δ) : Prop := x0.1 = x.1 ∧ o x0.2 ∧ ∃ us, H x0.2 = some (.lst us) ∧ Paired (rd.rel B) us x.2
structure DLs (ky : Ky rk) (rd : Rp δ) (B H : Hp) (o : Addr → Prop) (kvs : List FE) (l0 : List (κ × Addr)) (l : List (κ × List δ)) : Prop where
  dr : Paired (DRel ky rQ B) kvs l0
  ls : Paired (LsR rd B H o) l0 l
  nq : (l0.map Prod.snd).Nodup
  nk : (l0.map Prod.fst).Nodup
theorem LsR.mono {rd : Rp δ} {B B' H H' : Hp} {o o' : Addr → Prop} (b : Same B B') (k : ∀ p u, o p → H p = some u → H' p = some u) (n : ∀ p, o p → o' p) {x0 : κ × Addr} {x : κ × List δ} (h : LsR rd B H o x0 x) : LsR rd B' H' o' x0 x := by
  obtain ⟨e, oq, us, hu, q⟩ := h
  exact ⟨e, n _ oq, us, k _ _ oq hu, Paired.monoR b q⟩
theorem DLs.mono {ky : Ky rk} {rd : Rp δ} {B B' H H' : Hp} {o o' : Addr → Prop} {kvs : List FE} {l0 : List (κ × Addr)} {l : List (κ × List δ)} (b : Same B B') (k : ∀ p u, o p → H p = some u → H' p = some u) (n : ∀ p, o p → o' p) (h : DLs ky rd B H o kvs l0 l) : DLs ky rd B' H' o' kvs l0 l := ⟨Paired.imp2 (fun _ _ q => ⟨q.1, q.2⟩) h.dr, Paired.imp2 (fun _ _ q => q.mono b k n) h.ls, h.nq, h.nk⟩
def tDL (P : Program) (w : World) (ky : Ky rk) (rd : Rp δ) : Tr (List (κ × List δ)) := ⟨fun B H o v l => ∃ p ob kvs l0, v = .ref p ∧ o p ∧ H p = some (dFO P w p ob kvs) ∧ DLs ky rd B H (fun q => o q ∧ q ≠ p) kvs l0 l,
  fun b k n ⟨p, ob, kvs, l0, e, op, hp, D⟩ => ⟨p, ob, kvs, l0, e, n p op, k p _ op hp, D.mono b (fun q u z => k q u z.1) fun q z => ⟨n q z.1, z.2⟩⟩⟩
def tDB (P : Program) (w : World) (ky : Ky rk) (rd : Rp δ) (l0 : List (κ × Addr)) : Tr (List (κ × List δ)) := ⟨fun B H o v l => ∃ p ob kvs, v = .ref p ∧ B p = some (dFO P w p ob kvs) ∧ DLs ky rd B H o kvs l0 l,
  fun b k n ⟨p, ob, kvs, e, hp, D⟩ => ⟨p, ob, kvs, e, b p _ hp, D.mono b k n⟩⟩
theorem getM_key {β : Type} {l : List (κ × β)} {k : κ} {b : β} (h : getM l k = some b) : ∃ x ∈ l, x.1 = k ∧ x.2 = b := by
  unfold getM at h
  cases q : l.find? fun x => decide (x.1 = k) with
  | none => rw [q] at h; cases h
  | some x => rw [q] at h; cases h; exact ⟨x, List.mem_of_find?_eq_some q, of_decide_eq_true (List.find?_some (p := fun x : κ × β => decide (x.1 = k)) q), rfl⟩
theorem getM_consG {β : Type} (x : κ × β) (l : List (κ × β)) (k : κ) : getM (x :: l) k = if x.1 = k then some x.2 else getM l k := by
  unfold getM
  by_cases h : x.1 = k
  · rw [List.find?_cons_of_pos (by simpa using h), if_pos h]; rfl
  · rw [List.find?_cons_of_neg (by simpa using h), if_neg h]
theorem ls_any {rd : Rp δ} {B H : Hp} {o : Addr → Prop} {k : κ} : ∀ {l0 : List (κ × Addr)} {l : List (κ × List δ)}, Paired (LsR rd B H o) l0 l → (l0.any fun e => decide (e.1 = k)) = l.any fun e => decide (e.1 = k)
  | _, _, .nil => rfl
  | _, _, .cons hd tl => by rw [List.any_cons, List.any_cons, ls_any tl, hd.1]
theorem ls_map {rd : Rp δ} {B H : Hp} {o : Addr → Prop} {k : κ} {q : Addr} {xs : List δ} (hq : LsR rd B H o (k, q) (k, xs)) : ∀ {l0 : List (κ × Addr)} {l : List (κ × List δ)}, Paired (LsR rd B H o) l0 l → Paired (LsR rd B H o) (l0.map fun e => if e.1 = k then (e.1, q) else e) (l.map fun e => if e.1 = k then (e.1, xs) else e)
  | _, _, .nil => .nil
  | _, _, .cons (a := a) (b := b) hd tl => by
    rw [List.map_cons, List.map_cons]
    refine .cons ?_ (ls_map hq tl)
    by_cases z : b.1 = k
    · rw [if_pos z, if_pos (hd.1.trans z)]; exact ⟨hd.1, hq.2⟩
    · rw [if_neg z, if_neg (fun w => z (hd.1.symm.trans w))]; exact hd
theorem ls_put {rd : Rp δ} {B H : Hp} {o : Addr → Prop} {k : κ} {q : Addr} {xs : List δ} (hq : LsR rd B H o (k, q) (k, xs)) {l0 : List (κ × Addr)} {l : List (κ × List δ)} (h : Paired (LsR rd B H o) l0 l) : Paired (LsR rd B H o) (putM l0 k q) (putM l k xs) := by
  unfold putM
  rw [ls_any h]
  split
  · exact ls_map hq h
  · exact Paired.app h (.cons hq .nil)
theorem putM_nk {β : Type} {l : List (κ × β)} {k : κ} {b : β} (h : (l.map Prod.fst).Nodup) : ((putM l k b).map Prod.fst).Nodup := by
  unfold putM
  split
  · rw [List.map_map, show (l.map (Prod.fst ∘ fun e => if e.1 = k then (e.1, b) else e)) = l.map Prod.fst from List.map_congr_left fun e _ => by
      show (if e.1 = k then (e.1, b) else e).1 = e.1
      split <;> rfl]
    exact h
  · rename_i hn
    rw [List.map_append, List.nodup_append]
    refine ⟨h, List.nodup_cons.mpr ⟨(fun z => nomatch z), .nil⟩, fun x hx y hy e => ?_⟩
    have hy : y = k := List.mem_singleton.mp hy
    subst e hy
    obtain ⟨z, hz, rfl⟩ := List.mem_map.mp hx
    exact hn (List.any_eq_true.mpr ⟨z, hz, decide_eq_true rfl⟩)
theorem mapP_nq {k : κ} {q : Addr} : ∀ {l : List (κ × Addr)}, (l.map Prod.fst).Nodup → (l.map Prod.snd).Nodup → q ∉ l.map Prod.snd → ((l.map fun e => if e.1 = k then (e.1, q) else e).map Prod.snd).Nodup ∧ ∀ x ∈ (l.map fun e => if e.1 = k then (e.1, q) else e).map Prod.snd, x = q ∨ x ∈ l.map Prod.snd
  | [], _, _, _ => ⟨.nil, fun _ z => nomatch z⟩
  | a :: l, h1, h2, h3 => by
    rw [List.map_cons, List.nodup_cons] at h1 h2
    rw [List.map_cons, List.mem_cons, not_or] at h3
    obtain ⟨n, m⟩ := mapP_nq (k := k) (q := q) h1.2 h2.2 h3.2
    rw [List.map_cons, List.map_cons, List.nodup_cons]
    by_cases z : a.1 = k
    · rw [if_pos z]
      have same : (l.map fun e => if e.1 = k then (e.1, q) else e) = l := by
        have : (l.map fun e => if e.1 = k then (e.1, q) else e) = l.map id := List.map_congr_left fun e he => by
          show (if e.1 = k then (e.1, q) else e) = e
          rw [if_neg (fun w => h1.1 (List.mem_map.mpr ⟨e, he, w.trans z.symm⟩))]
        rw [this, List.map_id]
      rw [same]
      refine ⟨⟨h3.2, h2.2⟩, fun x hx => ?_⟩
      rcases List.mem_cons.mp hx with rfl | hx
      · exact .inl rfl
      · exact .inr (List.mem_cons_of_mem _ hx)
    · rw [if_neg z]
      refine ⟨⟨fun w => ?_, n⟩, fun x hx => ?_⟩
      · rcases m _ w with e | e
        · exact h3.1 e.symm
        · exact h2.1 e
      · rcases List.mem_cons.mp hx with rfl | hx
        · exact .inr List.mem_cons_self
        · rcases m _ hx with e | e
          · exact .inl e
          · exact .inr (List.mem_cons_of_mem _ e)
theorem putM_nq {l : List (κ × Addr)} {k : κ} {q : Addr} (h1 : (l.map Prod.fst).Nodup) (h2 : (l.map Prod.snd).Nodup) (h3 : q ∉ l.map Prod.snd) : ((putM l k q).map Prod.snd).Nodup := by
  unfold putM
  split
  · exact (mapP_nq h1 h2 h3).1
  · rw [List.map_append, List.nodup_append]
    refine ⟨h2, List.nodup_cons.mpr ⟨(fun z => nomatch z), .nil⟩, fun x hx y hy e => ?_⟩
    have hy : y = q := List.mem_singleton.mp hy
    subst e hy
    exact h3 hx
theorem ls_all {rd : Rp δ} {B H : Hp} {o : Addr → Prop} : ∀ {l0 : List (κ × Addr)} {l : List (κ × List δ)}, Paired (LsR rd B H o) l0 l → ∀ q ∈ l0.map Prod.snd, o q ∧ ∃ us, H q = some (.lst us)
  | _, _, .nil, q, h => nomatch h
  | _, _, .cons hd tl, q, h => by
    rw [List.map_cons] at h
    rcases List.mem_cons.mp h with rfl | h
    · obtain ⟨_, oq, us, hu, _⟩ := hd
      exact ⟨oq, us, hu⟩
    · exact ls_all tl q h
end
theorem Own.chg {A A' : Amb} {σ : L2.St} {H H' B B' : Hp} {Γ : List Sl} {i : Nat} {s' : Sl} {ow : Nat → Addr → Prop} (W : Own A σ H B Γ ow) (len : σ.length = Γ.length) (P : Post A' H' B') (bb : Same B B') (o' : Addr → Prop) (k1 : ∀ q, o' q → ow i q ∨ ¬ Hot A H B q) (k2 : ∀ q, o' q → Hot A' H' B' q)
    (k3 : ∀ q, Hot A H B q → ¬ ow i q → Hot A' H' B' q ∧ ∀ u, H q = some u → H' q = some u) (k4 : i < Γ.length → SlO σ H' B' o' i s') : Frm A' σ H' B' (Γ.set i s') := by
  have nq : ∀ j q, i ≠ j → ow j q → ¬ ow i q := fun j q ne h z => ne (W.dj i j q z h)
  refine ⟨P, by rw [List.length_set]; exact len, fun j => if j = i then o' else ow j, fun j s ej => ?_, fun j l q hj hl => ?_, fun j q hj => ?_⟩
  · rcases getset ej with ⟨rfl, rfl, hl⟩ | ⟨ne, ej⟩
    · rw [if_pos rfl]; exact k4 hl
    · rw [if_neg (Ne.symm ne)]
      exact slo_mono (W.so j s ej) rfl bb (fun q u oq => (k3 q (W.ht j q oq) (nq j q ne oq)).2 u) fun _ z => z
  · by_cases h1 : j = i
    · by_cases h2 : l = i
      · rw [h1, h2]
      · rw [if_pos h1] at hj
        rw [if_neg h2] at hl
        rcases k1 q hj with z | z
        · exact absurd (W.dj i l q z hl).symm h2
        · exact absurd (W.ht l q hl) z
    · rw [if_neg h1] at hj
      by_cases h2 : l = i
      · rw [if_pos h2] at hl
        rcases k1 q hl with z | z
        · exact absurd (W.dj j i q hj z) h1
        · exact absurd (W.ht j q hj) z
      · rw [if_neg h2] at hl
        exact W.dj j l q hj hl
  · by_cases h1 : j = i
    · rw [if_pos h1] at hj; exact k2 q hj
    · rw [if_neg h1] at hj
      exact (k3 q (W.ht j q hj) (nq j q (Ne.symm h1) hj)).1
section
variable {κ δ α : Type} [DecidableEq κ] {rk : Rp κ} {rd : Rp δ} {ky : Ky rk} {P : Program} {w : World} {A : Amb} {D : Ends} {u : TS} {i j : Nat} {p : Addr} {v : V} {Γ Γ1 Γ2 : List Sl} {te tk tv : TE}
theorem nx_toDL {β : Type} {rv : Rp β} {Q : L2.St → Hp → Prop} (i : Nat) (rd : Rp δ) (e : Γ[i]? = some (.cel p (cDicF P w ky rv p) [])) (h : Nx A Q (Γ.set i (.tre (.ref p) (tDL P w ky rd) []))) : Nx A Q Γ := fun σ H B F => h σ H B (F.put rfl (fun _ _ => rfl) fun o hl hs => by
  obtain ⟨e1, op, u, hu, ob, kvs, rfl, k⟩ := hs _ e
  cases k
  exact ⟨e1, p, ob, [], [], rfl, op, hu, .nil, .nil, .nil, .nil⟩)
theorem dl_var {σ : L2.St} {H B : Hp} {l : List (κ × List δ)} (F : Frm A σ H B Γ) (h : Γ[i]? = some (.tre (.ref p) (tDL P w ky rd) l)) : σ[i]? = some (some (.ref p)) := (F.sl i _ h).1
theorem sq_putDL {l l' : List (κ × List δ)} {k : κ} {xs : List δ} (hv : EvC (cLst rd) tv Γ Γ1 xs) (hk : EvX rk tk Γ1 Γ2 k) (h1 : Γ1[i]? = some (.tre (.ref p) (tDL P w ky rd) l)) (h2 : Γ2[i]? = some (.tre (.ref p) (tDL P w ky rd) l)) (e : pyPutD l k xs = some l') (n : Nx A (u D) (Γ2.set i (.tre (.ref p) (tDL P w ky rd) l'))) :
    Nx A (tSeq (sFPut P w (tVar i) tk tv) u D) Γ := fun σ H B F => by
  unfold pyPutD at e
  split at e
  · rename_i hl
    cases e
    refine hv A σ H B F _ fun q o H1 B1 F1 n1 s1 k1 => ?_
    obtain ⟨us, rfl, kp⟩ := k1
    refine ⟨_, dl_var F1 h1, hk _ σ H1 B1 F1 _ fun y H2 B2 F2 s2 k2 => ?_⟩
    obtain ⟨ow, W⟩ := F2.own
    obtain ⟨e1, p2, ob, kvs, l0, e4, op, hp, D2⟩ := W.so i _ h2
    cases e4
    have hm : ¬ A.m q := fun m => F.mh.al q m n1
    have hHq := F2.hid n1 F.mh
    have hBq := F2.hidB n1 F.sub
    have hh := W.ht i
    have hpA := hh p op
    have pq : p ≠ q := hpA.ne hm
    have hpm : A.H0 p = none ∨ A.m p := hpA.base n1
    have Dp := (F2.drop n1 F.sub F.mh).post
    refine ⟨p, ob, kvs, ky.key k, rfl, hp, ky.ok k2, ?_, fun o' => n _ _ B2 ?_⟩
    · rw [Paired.len D2.dr, Paired.len D2.ls]; exact Nat.lt_of_lt_of_le hl (by decide)
    · have hHq' : upd H2 p (dFO P w p o' (putK kvs (ky.key k) (V.ref q))) q = some (.lst us) := by rw [upd_ne (Ne.symm pq)]; exact hHq
      refine W.chg F2.len ⟨fun b u z => ?_, Dp.b0, fun b u nm nt z => ?_, Dp.out, fun b n => ?_, F.sub, F.mh, Dp.ph, Dp.sz.upd True.intro, Dp.tb.upd (Hot.nt hpA F2.mh)⟩ (Same.refl _) (fun a => ow i a ∨ a = q) (fun a z => ?_) (fun a z => ?_) (fun a h nq => ?_) fun _ => ⟨e1, p, o', _, putM l0 k q, rfl, .inl op, upd_same, ?_⟩
      · have hb : b ≠ p := fun z2 => by rw [z2, hpA.1] at z; cases z
        rw [upd_ne hb]; exact Dp.bh b u z
      · have hb : b ≠ p := fun z2 => by
          rcases hpm with m | m
          · rw [z2, m] at z; cases z
          · rw [z2] at nm; exact nm m
        rw [upd_ne hb]; exact Dp.keep b u nm nt z
      · by_cases hb : b = p
        · rw [hb, upd_same]; simp
        · rw [upd_ne hb]; exact Dp.alive b n
      · rcases z with z | z
        · exact .inl z
        · exact .inr fun h => h.ne hm z
      · rcases z with z | z
        · have h := hh a z
          refine ⟨h.1, ?_, h.base n1⟩
          by_cases hb : a = p
          · rw [hb, upd_same]; simp
          · rw [upd_ne hb]; exact h.2.1
        · subst z
          exact ⟨hBq, by rw [hHq']; simp, .inl n1⟩
      · have hb : a ≠ p := fun z => nq (by rw [z]; exact op)
        exact ⟨⟨h.1, by rw [upd_ne hb]; exact h.2.1, h.base n1⟩, fun u hu => by rw [upd_ne hb]; exact hu⟩
      · have D3 : DLs ky rd B2 (upd H2 p (dFO P w p o' (putK kvs (ky.key k) (V.ref q)))) (fun a => (ow i a ∨ a = q) ∧ a ≠ p) kvs l0 l := D2.mono (Same.refl _) (fun a u z hu => by rw [upd_ne z.2]; exact hu) fun a z => ⟨.inl z.1, z.2⟩
        have hql : q ∉ l0.map Prod.snd := fun z => (hh q (ls_all D2.ls q z).1.1).ne hm rfl
        exact ⟨put_pair ky (rv := rQ) (k := k) (v := .ref q) (b := q) rfl D3.dr, ls_put ⟨rfl, ⟨.inr rfl, Ne.symm pq⟩, us, hHq', Paired.monoR s2 kp⟩ D3.ls, putM_nq D3.nk D3.nq hql, putM_nk D3.nk⟩
  · cases e
theorem nx_fixDL {l : List (κ × List δ)} {Q : L2.St → Hp → Prop} (i : Nat) (hm : ¬ A.m p) (e : Γ[i]? = some (.tre (.ref p) (tDL P w ky rd) l)) (h : ∀ l0 : List (κ × Addr), Nx A Q (Γ.set i (.tre (.ref p) (tDB P w ky rd l0) l))) : Nx A Q Γ := fun σ H B F => by
  obtain ⟨ow, W⟩ := F.own
  obtain ⟨e1, p2, ob, kvs, l0, e4, op, hp, D2⟩ := W.so i _ e
  cases e4
  have hA := W.ht i p op
  have h0 : A.H0 p = none := hA.2.2.elim id fun m => absurd m hm
  have bb : Same B (upd B p (dFO P w p ob kvs)) := fun b u z => by rw [upd_ne (ne_of_none z hA.1)]; exact z
  refine h l0 σ H (upd B p (dFO P w p ob kvs)) (W.chg F.len ⟨fun b u z => ?_, fun b u z => bb b u (F.b0 b u z), F.keep, fun b n z => ?_, F.alive, F.sub, F.mh, A.up _ _ bb F.ph, F.sz, F.tb.fix bb (Hot.nt hA F.mh)⟩ bb (fun a => ow i a ∧ a ≠ p) (fun a z => .inl z.1) (fun a z => ?_) (fun a h nq => ?_) fun _ => ⟨e1, p, ob, kvs, rfl, upd_same, D2.mono bb (fun _ _ _ z => z) fun _ z => z⟩)
  · by_cases hb : b = p
    · subst hb; rw [upd_same] at z; cases z; exact hp
    · rw [upd_ne hb] at z; exact F.bh b u z
  · have hb : b ≠ p := fun q => n (by rw [q]; exact h0)
    rw [upd_ne hb]; exact F.out b n z
  · have h := W.ht i a z.1
    exact ⟨by rw [upd_ne z.2]; exact h.1, h.2⟩
  · have hb : a ≠ p := fun z => nq (by rw [z]; exact op)
    exact ⟨⟨by rw [upd_ne hb]; exact h.1, h.2⟩, fun u hu => hu⟩
end
end G
namespace G
variable [TabL]
open PySem PySem.Spec PyProof.Rows L2
def adL (B H : Hp) (qs : List Addr) : Hp := fun a => if a ∈ qs then H a else B a
def ersL (B : Hp) (qs : List Addr) : Hp := fun a => if a ∈ qs then none else B a
theorem ersL_cons (B : Hp) (q : Addr) (qs : List Addr) : ersL B (q :: qs) = ers (ersL B qs) q := by
  funext a
  unfold ersL ers
  by_cases h : a = q
  · rw [if_pos h, if_pos (by rw [h]; exact List.mem_cons_self)]
  · rw [if_neg h]
    show (if a ∈ q :: qs then none else B a) = if a ∈ qs then none else B a
    by_cases h2 : a ∈ qs
    · rw [if_pos h2, if_pos (List.mem_cons_of_mem _ h2)]
    · rw [if_neg h2, if_neg (fun z => (List.mem_cons.mp z).elim h h2)]
theorem ersL_out {B : Hp} {qs : List Addr} {a : Addr} (h : a ∉ qs) : ersL B qs a = B a := if_neg h
theorem TabOk.ersL {H B : Hp} (t : TabOk H B) : ∀ {qs : List Addr}, qs.Nodup → (∀ q ∈ qs, ∃ us, B q = some (.lst us)) → TabOk H (G.ersL B qs)
  | [], _, _ => by
    have : G.ersL B [] = B := by funext a; exact ersL_out (fun z => nomatch z)
    rw [this]; exact t
  | q :: qs, nd, h => by
    rw [List.nodup_cons] at nd
    obtain ⟨us, hu⟩ := h q List.mem_cons_self
    rw [ersL_cons]
    exact (TabOk.ersL t nd.2 fun x hx => h x (List.mem_cons_of_mem _ hx)).ers (vs := us) (by rw [ersL_out nd.1]; exact hu)
section
variable {A : Amb} {σ : L2.St} {H B : Hp} {Γ Γ' : List Sl} {qs : List Addr}
theorem adL_same (hq : ∀ q ∈ qs, B q = none ∧ ∃ us, H q = some (.lst us)) : Same B (adL B H qs) := fun b u e => by
  have : b ∉ qs := fun z => by rw [(hq b z).1] at e; cases e
  exact (if_neg this).trans e
end
section
variable {κ δ α β : Type} [DecidableEq κ] {rk : Rp κ} {rd : Rp δ} {ky : Ky rk} {P : Program} {w : World} {A : Amb} {D : Ends} {u : TS} {i j : Nat} {p : Addr} {v : V} {Γ Γ1 Γ2 : List Sl} {te tk tv : TE} {r : Rp α} {rb : Rp β} {l0 : List (κ × Addr)} {l : List (κ × List δ)}
theorem db_pair {B B' H : Hp} {o : Addr → Prop} (hb : ∀ q us, q ∈ l0.map Prod.snd → H q = some (.lst us) → B' q = some (.lst us)) (bb : Same B B') : ∀ {kvs : List FE} {l0' : List (κ × Addr)} {l : List (κ × List δ)}, (∀ e ∈ l0', e.2 ∈ l0.map Prod.snd) → Paired (DRel ky rQ B) kvs l0' → Paired (LsR rd B H o) l0' l → Paired (DRel ky (rLst rd) B') kvs l
  | _, _, _, _, .nil, .nil => .nil
  | _, _, _, hm, .cons d t, .cons ls t2 => by
    obtain ⟨e, oq, us, hu, k⟩ := ls
    refine .cons ⟨?_, ?_⟩ (db_pair hb bb (fun x hx => hm x (List.mem_cons_of_mem _ hx)) t t2)
    · rw [d.1, e]
    · exact ⟨_, _, d.2, hb _ us (hm _ List.mem_cons_self) hu, us, rfl, Paired.monoR bb k⟩
end
end G
namespace G
variable [TabL]
open PySem PySem.Spec PyProof.Rows L2
section
variable {α β ε : Type} {r : Rp α} {R : ER ε} {Γ Γ1 : List Sl} {A : Amb} {D : Ends} {u : TS}
end
end G
namespace G
open PySem PySem.Spec PyProof PyProof.Rows L2
variable [TabL]
end G
namespace G
variable [TabL]
open PySem PySem.Spec PyProof.Rows L2
section
variable {α β γ ε : Type} {w : Rw α} {rb : Rp β} {c : Cl γ} {R : ER ε} {Γ Γ1 Γ2 : List Sl} {ta tb : TE} {C : Addr} {names : List Str} {x : α} {y : β}
end
end G
namespace G
variable [TabL]
open PySem PySem.Spec PyProof.Rows L2
section
variable {α β κ : Type} [DecidableEq κ] {rk : Rp κ}
instance (r : Rp α) [NoL r] : NoL (rOb (cTX r)) := ⟨fun {B p vs v a} hp ⟨q, o, e, hq, ob, us, eo, d, l, k⟩ => ⟨q, o, e, by
  rw [ers_ne fun z => by rw [z, hp] at hq; cases hq; cases eo]; exact hq, ob, us, eo, d, l, paired_no hp k⟩⟩
instance (P : Program) (W : World) (ky : Ky rk) (rv : Rp β) [NoL rv] : NoL (rDicF P W ky rv) := ⟨fun {B p vs v a} hp ⟨q, o, e, hq, ob, kvs, eo, k⟩ => ⟨q, o, e, by
  rw [ers_ne fun z => by rw [z, hp] at hq; cases hq; cases eo]; exact hq, ob, kvs, eo, paired_dic hp k⟩⟩
end
end G
set_option maxHeartbeats 4000000
namespace G
variable [TabL]
open PySem PySem.Spec PyProof.Rows L2
section
variable {α β : Type} {c : Addr → Cl α} {r : Rp β} {te : TE} {tt : TT} {Γ : List Sl} {a : α} {A : Amb} {D : Ends} {u : TS} {i j : Nat} {p : Addr}
end
end G
namespace G
variable [TabL]
open PySem PySem.Spec PyProof.Rows L2
section
variable {κ β : Type} [DecidableEq κ] {rk : Rp κ} {P : Program} {w : World} {Γ : List Sl} {p : Addr} {te : TE} {tt : TT} {b : Bool} {l : List (κ × β)}
end
end G
set_option maxHeartbeats 4000000
namespace G
variable [TabL]
open PySem PySem.Spec PyProof.Rows L2
section
variable {X : Cx} {CX : CXT} {K : PySem.W.Frag} {C f : Addr} {fd : FuncData} {ps : List Str} {n : Nat} {sp : Sp} {E : XK} {P : Program} {w : World}
end
section
variable {α β κ : Type} [DecidableEq κ] {rk : Rp κ} {ky : Ky rk} {rv : Rp β} {te ta tb : TE} {Γ Γ1 Γ2 : List Sl} {K : PySem.W.Frag} {wa : Rw α} {C : Addr} {names : List Str} {x : α} {l : List (κ × β)} {E : XK} {P : Program} {w : World}
end
end G
set_option maxHeartbeats 4000000
namespace G
variable [TabL]
open PySem PySem.Spec PyProof.Rows L2
section
variable {P : Program} {w : World} {K : PySem.W.Frag} {mg : Str → Option Value} {base : Heap} {CX : CXT} {k : Nat} {f : Addr} {fd : FuncData} {ps : List Str} {sp sp1 sp2 : Sp}
theorem fnok_or (F1 : FnOk P w K mg base CX k f fd ps sp1) (F2 : FnOk P w K mg base CX k f fd ps sp2) (h : ∀ vs H Q E, sp vs H Q E → sp1 vs H Q E ∨ sp2 vs H Q E) : FnOk P w K mg base CX k f fd ps sp :=
  ⟨fun vs H Q E q => (h _ _ _ _ q).elim (F1.len vs H Q E) (F2.len vs H Q E), fun A outer s H args us vs Q E hr he hb hv hs => (h _ _ _ _ hs).elim (F1.run A outer s H args us vs Q E hr he hb hv) (F2.run A outer s H args us vs Q E hr he hb hv)⟩
end
section
variable {τ α β ρ : Type} {rt : Rp τ} {ra : Rp α} {rb : Rp β} {r : Rp ρ} {m1 : τ × α → Option ρ} {m2 : τ × β → Option ρ} {m3 : τ × (α ⊕ β) → Option ρ}
end
def getA {β γ : Type} (o : Option β) (z : γ) : β ⊕ γ := match o with
  | some b => .inl b
  | none => .inr z
section
variable {κ β γ : Type} [DecidableEq κ] {rk : Rp κ} {rv : Rp β} {P : Program} {w : World} {ta tk tz : TE} {Γ Γ1 Γ2 Γ3 : List Sl}
theorem ev_fget2A (ky : Ky rk) {k : κ} {l : List (κ × β)} {rz : Rp γ} {z : γ} (hd : EvX (rDicF P w ky rv) ta Γ Γ1 l) (hk : EvX rk tk Γ1 Γ2 k) (hz : EvX rz tz Γ2 Γ3 z) : EvX (rAlt rv rz) (tFGet2 P w ta tk tz) Γ Γ3 (getA (getM l k) z) := by
  cases e : getM l k with
  | some b => exact ev_inl (ev_fget2H ky hd hk hz e)
  | none => exact ev_inr (ev_fget2M ky hd hk hz e)
end
end G
set_option maxHeartbeats 4000000
namespace G
open PySem PySem.Spec PyProof.Rows L2
section
variable {prog : Program} {w : World} {A : Around} {R : Result → Shared → Prop} {s : Shared} {kx vx ta ia tb ib : Expr} {fa fb : List Expr} {sc : Scope} {ps : Pos} {it : Value} {D : Addr} {en : Env}
end
section
variable {Y : Cx} {kx vx ta ia tb ib : Expr} {fa fb : List Expr} {sc : Scope} {us vs : List Nat} {ps : Pos} {wj : TI} {g gj : TG} {tt tj : TT} {tk tv : TE}
end
section
variable {X : Cx} {kx vx ta ia tb ib : Expr} {fa fb : List Expr} {sc : Scope} {own : List (Str × Nat)} {us : List Nat} {ps : Pos} {wi wj : TI} {g gj : TG} {tt tj : TT} {tk tv : TE}
end
end G
set_option maxHeartbeats 4000000
namespace G
variable [TabL]
open PySem PySem.Spec PyProof.Rows L2
section
variable {κ β α δ : Type} [DecidableEq κ] {rk : Rp κ} {rv : Rp β} {r : Rp α} {r1 : Rp δ} {tk tv : TE} {Γ Γ1 : List Sl} {xs : List α}
end
end G
set_option maxHeartbeats 4000000
namespace G
variable [TabL]
open PySem PySem.Spec PyProof.Rows L2
section
variable {A : Amb} {σ : L2.St} {H B : Hp} {Γ : List Sl} {ls : List (Addr × HO)} {p q D : Addr} {o u : HO}
structure Hid (A : Amb) (ls : List (Addr × HO)) : Prop where
  nd : (ls.map Prod.fst).Nodup
  h0 : ∀ q ∈ ls.map Prod.fst, A.H0 q = none
theorem Hid.tail {e : Addr × HO} (h : Hid A (e :: ls)) : Hid A ls ∧ e.1 ∉ ls.map Prod.fst ∧ A.H0 e.1 = none := by
  have n := h.nd
  rw [List.map_cons, List.nodup_cons] at n
  exact ⟨⟨n.2, fun q z => h.h0 q (by rw [List.map_cons]; exact List.mem_cons_of_mem _ z)⟩, n.1, h.h0 _ (by rw [List.map_cons]; exact List.mem_cons_self)⟩
end
section
variable {κ δ α : Type} [DecidableEq κ] {rk : Rp κ} {rd : Rp δ} {r : Rp α} {ky : Ky rk} {P : Program} {w : World} {A : Amb} {D : Ends} {u : TS} {i : Nat} {Γ Γ1 : List Sl} {tt : TT} {tk tv : TE} {xs : List α}
end
end G
set_option maxHeartbeats 4000000
namespace G
variable [TabL]
open PySem PySem.Spec PyProof.Rows L2
section
variable {Γ Γ1 Γ2 : List Sl} {te ta tb : TE} {K : PySem.W.Frag}
end
section
variable {κ δ ε γ : Type} [DecidableEq κ] {rk : Rp κ} {rd : Rp δ} {ky : Ky rk} {P : Program} {w : World} {A : Amb} {D : Ends} {u : TS} {j : Nat} {p : Addr} {l0 : List (κ × Addr)} {l : List (κ × List δ)} {Γ Γ1 : List Sl} {tk : TE} {R : ER ε}
end
end G
set_option maxHeartbeats 4000000
namespace G
open PySem PySem.Spec PySem.Calls PyProof.Rows L2 LamX
section
variable {prog : Program} {w : World} {A : Around} {s : Shared}
end
section
variable {X : Cx} {pins : List (Addr × Obj)} {σ : L2.St} {H : Hp} {s : Shared}
end
variable [TabL]
def KeyI (K : PySem.W.Frag) (H : Hp) (kvs : List FE) (z : Str) (k : Int × Int) : Prop := ∃ t, valV kvs (.inr z) = some (.ref t) ∧ SqT K H t [.int k.1, .int k.2]
structure CloAt (K : PySem.W.Frag) (P : Program) (w : World) (Pt : Addr) (q : Str) (H : Hp) (d a : Addr) (zs : List Str) (ks : List (Int × Int)) (ob : Obj) (kvs : List FE) (ps : Array Value) : Prop where
  ls : SqL K H a (zs.map V.str)
  dd : H d = some (dFO P w d ob kvs)
  ky : Paired (KeyI K H kvs) zs ks
  tb : H Pt = some (.tbl ps)
  tr : TriplesOk ps.toList
  am : ∀ (pos : Pos) (cv : Value), codeAmong pos ps.toList = some cv → ∃ c, cv = .ref c ∧ H c = some (CodeO c q)
section
variable {X : Cx} {pins : List (Addr × Obj)} {σ : L2.St} {H : Hp} {s : Shared} {K : PySem.W.Frag}
end
section
variable {X : Cx} {K : PySem.W.Frag} {P : Program} {w : World} {e : Expr} {te : TE}
end
section
variable {Γ Γ1 : List Sl} {K : PySem.W.Frag} {Pt : Addr} {q : Str} {P : Program} {w : World} {te : TE} {i : Nat}
end
end G
set_option maxHeartbeats 4000000
namespace G
variable [TabL]
open PySem PySem.Spec PyProof.Rows L2
section
variable {te ta : TE} {Γ Γ1 : List Sl} {K : PySem.W.Frag}
end
end G
namespace G
open PySem PySem.Spec PyProof.Rows L2
variable [TabL]
end G
set_option maxHeartbeats 4000000
namespace G
variable [TabL]
open PySem PySem.Spec PyProof.Rows L2
section
variable {te : TE} {Γ Γ1 : List Sl} {K : PySem.W.Frag} {xs : List Int} {wd : World} {n : Int}
end
end G
set_option maxHeartbeats 4000000
namespace G
variable [TabL]
open PySem PySem.Spec PyProof.Rows L2
section
variable {α β γ : Type} {r : Rp β} {w : Rw α} {cc : Cl γ} {Γ Γ1 Γ2 : List Sl} {st st' : γ} {te : TE} {tr : TA}
end
end G
set_option maxHeartbeats 4000000
namespace G
variable [TabL]
open PySem PySem.Spec PyProof.Rows L2
section
variable {α β : Type} {r : Rp α} {rb : Rp β} {te tf : TE} {Γ Γ1 Γ2 : List Sl} {xs : List α} {ys : List β} {K : PySem.W.Frag}
end
end G
set_option maxHeartbeats 4000000
namespace G
variable [TabL]
open PySem PySem.Spec PyProof.Rows L2
section
variable {ε α β γ : Type} {R : ER ε} {r : Rp α} {rb : Rp β} {A : Amb} {D : Ends} {u : TS} {W : WX} {tf : (L2.St → XK) → TE} {ta te tk : TE} {t : TA} {Γ Γ1 Γ2 : List Sl} {x : Res ε α} {e : ε} {K : PySem.W.Frag} {P : Program} {w : World} {C : Addr} {nm : Str} {names : List Str} {sp : Sp} {E : XK}
end
end G
set_option maxHeartbeats 4000000
namespace G
variable [TabL]
open PySem PySem.Spec PyProof.Rows L2
end G
set_option maxHeartbeats 4000000
namespace G
open PySem PySem.Spec PyProof.Rows L2 HandSPX
section
variable {X : Cx} {W : WX} {pins pins8 : List (Addr × Obj)} {σ σ8 : L2.St} {H H3 : Hp} {s s' s3 : Shared} {scope : Scope} {ce : Env} {fp : List Addr} {E0 : XK} {u : Value} {xe : Value → Shared → Prop}
abbrev blkE (X : Cx) (s : Shared) (H : Hp) (scope : Scope) (cenv : Env) (fp : List Addr) (xe : Value → Shared → Prop) : Cx := { X.blk s H scope cenv fp with xe := xe }
theorem okE (ok : (X.blk s H scope ce fp).Ok) (xe : Value → Shared → Prop) : (blkE X s H scope ce fp xe).Ok :=
  ⟨ok.mod, ok.kind, ok.glob, ok.blt, ok.above, ok.inj, ok.has, ok.cab, ok.hd, ok.frames, ok.stk, ok.exf, ok.bs, ok.bsz, ok.noex, ok.exfs, ok.funs, ok.frf⟩
theorem okN (ok : (blkE X s H scope ce fp xe).Ok) : (X.blk s H scope ce fp).Ok :=
  ⟨ok.mod, ok.kind, ok.glob, ok.blt, ok.above, ok.inj, ok.has, ok.cab, ok.hd, ok.frames, ok.stk, ok.exf, ok.bs, ok.bsz, ok.noex, ok.exfs, ok.funs, ok.frf⟩
theorem invE {sb : Shared} {Hb : Hp} (I : Inv (X.blk s H scope ce fp) pins σ Hb sb) (xe : Value → Shared → Prop) : Inv (blkE X s H scope ce fp xe) pins σ Hb sb :=
  ⟨okE I.ok xe, I.os, I.bare, I.base, I.loc, I.cell, I.free, I.freeC, I.pin, I.hok, I.len⟩
theorem invN {sb : Shared} {Hb : Hp} (I : Inv (blkE X s H scope ce fp xe) pins σ Hb sb) : Inv (X.blk s H scope ce fp) pins σ Hb sb :=
  ⟨okN I.ok, I.os, I.bare, I.base, I.loc, I.cell, I.free, I.freeC, I.pin, I.hok, I.len⟩
theorem ns_of {h h' : Heap} {C : Addr} {m : Str → Option Value} (n : h.Ns C m) (k : ∀ o, h.get? C = some o → (∀ vs, o.data ≠ .fields vs) → ∃ sl, h'.get? C = some { o with slots := sl }) : h'.Ns C m := by
  obtain ⟨o, es, ep, ho, hd, r⟩ := n
  obtain ⟨sl, e⟩ := k o ho fun vs q => by rw [hd] at q; cases q
  exact ⟨_, es, ep, e, hd, r⟩
theorem ns_nf {h : Heap} {C : Addr} {m : Str → Option Value} (n : h.Ns C m) {b : Addr} {o : Obj} {vs : Array Value} (e : h.get? b = some o) (hd : o.data = .fields vs) : b ≠ C := fun q => by
  obtain ⟨o2, es, ep, ho, hd2, r⟩ := n
  rw [q, ho] at e
  cases e
  rw [hd2] at hd; cases hd
end
end G
set_option maxHeartbeats 4000000
namespace G
variable [TabL]
open PySem PySem.Spec PyProof.Rows L2
section
variable {α β ε : Type} {R : ER ε} {r : Rp α} {rb : Rp β} {Γ Γ1 : List Sl} {xs : List α}
end
end G
set_option maxHeartbeats 4000000
namespace G
variable [TabL]
open PySem PySem.Spec PyProof.Rows L2
section
variable {X : Cx} {e : Expr} {es : List Expr} {p : Pos} {te : TE} {t : TA} {P : Program} {w : World}
end
section
variable {P : Program} {w : World} {κ β : Type} [DecidableEq κ] {rk : Rp κ} {rv : Rp β} {te : TE} {tr : TA} {Γ Γ1 Γ2 : List Sl} {l : List (κ × β)}
end
end G
set_option maxHeartbeats 4000000
namespace G
variable [TabL]
open PySem PySem.Spec PyProof.Rows L2
section
variable {prog : Program} {w : World} {K : Type} [DecidableEq K] {knd : KeyKind prog w K} {A : Around} {E : Value → Shared → Prop} {s : Shared}
end
section
variable {X : Cx} {e f : Expr} {pos : Pos} {ta tb : TE} {P : Program} {w : World}
end
section
variable {P : Program} {w : World} {κ β : Type} [DecidableEq κ] {rk : Rp κ} {rv : Rp β} {ta tb : TE} {Γ Γ1 Γ2 : List Sl} {l m : List (κ × β)}
end
end G
set_option maxHeartbeats 4000000
namespace G
variable [TabL]
open PySem PySem.Spec PyProof.Rows L2
section
variable {α : Type} {w : Rw α} {a : α} {ta : TE} {Γ Γ1 : List Sl} {K : PySem.W.Frag} {n : Nat} {k : Int}
end
section
variable {α β ε : Type} {w : Rw α} {c : Cl β} {R : ER ε} {Γ Γ1 : List Sl} {t : TA} {m : α → Option (Res ε β)} {a : α} {x : Res ε β} {y : β}
end
section
variable {α β γ ε : Type} {w0 : Rw α} {w : Rw γ} {rb : Rp β} {R : ER ε} {Γ Γ1 : List Sl} {t : TA} {dvs : List V} {f : α → γ} {m : γ → Option (Res ε β)} {a : α} {x : Res ε β} {y : β}
end
end G
set_option maxHeartbeats 4000000
namespace G
variable [TabL]
open PySem PySem.Spec PyProof.Rows L2
section
variable {α γ ε ι : Type} {A : Amb} {c : Cl α} {a b : α} {Γ : List Sl} {i : Nat} {p : Addr} {u : TS} {D : Ends}
end
end G
set_option maxHeartbeats 4000000
namespace G
variable [TabL]
open PySem PySem.Spec PyProof.Rows L2
section
variable {X : Cx} {CX : CXT} {k n : Nat} {f : Addr} {fd : FuncData} {ps ks : List Str} {sp : Sp} {E : L2.St → XK} {x : Str} {p pos : Pos} {e : Expr} {es : List Expr} {kws : List Keyword} {t tk : TA} {g : List Value → List Value → List Value} {gV : List V → List V → List V}
end
section
variable {α β γ κ ε : Type} {w0 : Rw α} {rk : Rp κ} {w : Rw γ} {rb : Rp β} {R : ER ε} {Γ Γ1 Γ2 : List Sl} {t tk : TA} {n : Nat} {f : α → κ → γ} {m : γ → Option (Res ε β)} {a : α} {y : κ} {x : Res ε β} {b : β}
end
section
variable {α β γ κ ε δ : Type} {w0 : Rw α} {rk : Rp κ} {w : Rw γ} {rb : Rp β} {R : ER ε} {Γ Γ1 Γ2 : List Sl} {t tk : TA} {n i : Nat} {f : α → κ → γ} {m : γ → Option (Res ε β)} {a : α} {y : κ} {x : Res ε β} {A : Amb} {D : Ends} {u : TS} {W : WX}
end
section
variable {A : Amb} {D : Ends} {u : TS} {tt : TT} {ta tb : TE} {g : TG} {Γ Γ1 : List Sl} {c : Bool}
end
end G
set_option maxHeartbeats 4000000
namespace G
variable [TabL]
open PySem PySem.Spec PyProof.Rows L2
section
variable {α : Type} {r : Rp α} {te : TE} {Γ Γ1 : List Sl} {K : PySem.W.Frag} {xs : List α}
end
section
variable {P : Program} {w : World} {A : Around} {E : Value → Shared → Prop} {s : Shared}
end
section
variable {te : TE} {Γ Γ1 : List Sl} {K : PySem.W.Frag} {P : Program} {w : World} {xs ys : List (List Int)}
end
end G
namespace G
variable [TabL]
open PySem PySem.Spec PyProof.Rows L2
section
variable {α β γ ε δ : Type} {w0 : Rw α} {w : Rw γ} {rb : Rp β} {R : ER ε} {Γ Γ1 : List Sl} {t : TA} {dvs : List V} {i : Nat} {f : α → γ} {m : γ → Option (Res ε β)} {a : α} {x : Res ε β} {A : Amb} {D : Ends} {u : TS} {W : WX}
end
end G
namespace G
variable [TabL]
open PySem PySem.Spec PyProof.Rows L2
section
variable {prog : Program} {w : World} {A : Around} {E : Value → Shared → Prop} {s : Shared}
end
section
variable {α : Type} {K : PySem.W.Frag} {r : Rp α} {te : TE} {A : Amb} {D : Ends} {u : TS} {Γ Γ1 : List Sl} {g : TGs} {vs : List Nat} {Γf : α × α → List Sl} {xs : List α} {p : α × α}
end
end G
namespace G
variable [TabL]
open PySem PySem.Spec PyProof.Rows L2
section
variable {κ β : Type} [DecidableEq κ] {rk : Rp κ} {rv : Rp β} {te : TE} {Γ Γ1 : List Sl} {P : Program} {w : World} {l : List (κ × β)}
end
end G
namespace G
variable [TabL]
open PySem PySem.Spec PyProof.Rows L2
section
variable {κ β : Type} [DecidableEq κ] {rk : Rp κ} {rv : Rp β} {tk tz : TE} {Γ Γ1 Γ2 : List Sl} {P : Program} {w : World} {i : Nat} {p : Addr}
end
end G
namespace G
variable [TabL]
open PySem PySem.Spec PyProof.Rows L2
end G
namespace G
variable [TabL]
open PySem PySem.Spec PyProof.Rows L2
theorem endM {A : Amb} {H0 : Hp} {mo : Addr → Prop} {Γ : List Sl} {n : Nat} {γ α : Type} {w : Mw γ α} {vs : List V} {g : γ} {bb : Unit × γ} {rt : VK} (am : AtM A H0 mo) (ho : OwnAt Γ n 0 w vs g) (e : some ((), g) = some bb) (k : Rt A (psiM H0 mo w vs (tI rNon)) bb rt) : Nx A (fun _ H => rt .non H) Γ := fun σ H B F => by
  obtain ⟨ow, W⟩ := F.own
  cases e
  exact k H B .non F.post ⟨fun _ => False, _, fun _ z => z.elim, fun p ⟨j, _, _, z⟩ => am.hot (W.ht j p z), fun _ z => z.elim, rfl, ho A σ H B ow W⟩
end G
set_option maxHeartbeats 4000000
namespace G
open PySem PySem.Spec PyProof.Rows L2
def PriIn (h : Heap) (v : Value) (k : List Int × List Int) : Prop := ∃ (a q r : Addr) (ys xs : Array Value), v = .ref a ∧ IsTup h a #[.ref r, .ref q] ∧ (IsTup h r ys ∧ IntsAre ys.toList k.1) ∧ IsTup h q xs ∧ IntsAre xs.toList k.2
theorem PriIn.keeps {h h' : Heap} {v : Value} {k : List Int × List Int} (x : PriIn h v k) (kp : ∀ b o, h.get? b = some o → o.cls = .type "tuple" → h'.get? b = some o) : PriIn h' v k := by
  obtain ⟨a, q, r, ys, xs, e, ⟨o, ho, hc, rr⟩, ⟨⟨o1, ho1, hc1, r1⟩, i1⟩, ⟨o2, ho2, hc2, r2⟩, i⟩ := x
  exact ⟨a, q, r, ys, xs, e, ⟨o, kp _ _ ho hc, hc, rr⟩, ⟨⟨o1, kp _ _ ho1 hc1, hc1, r1⟩, i1⟩, ⟨o2, kp _ _ ho2 hc2, hc2, r2⟩, i⟩
theorem tupI_uniq {h : Heap} {q : Addr} {xs ys : Array Value} {a b : List Int} (x : IsTup h q xs) (ix : IntsAre xs.toList a) (y : IsTup h q ys) (iy : IntsAre ys.toList b) : a = b := by
  obtain ⟨o, ho, hc, n, hd⟩ := x
  obtain ⟨o', ho', hc', n', hd'⟩ := y
  rw [ho] at ho'; cases ho'
  rw [hd] at hd'
  injection hd' with e1 _
  subst e1
  exact ix.nums.symm.trans iy.nums
theorem PriIn.uniq {h : Heap} {v : Value} {k m : List Int × List Int} (x : PriIn h v k) (y : PriIn h v m) : k = m := by
  obtain ⟨a, q, r, zs, xs, rfl, ⟨o, ho, hc, n, hd⟩, ⟨t1, j1⟩, t2, i⟩ := x
  obtain ⟨a', q', r', zs', xs', e, ⟨o', ho', hc', n', hd'⟩, ⟨t1', j1'⟩, t2', i'⟩ := y
  cases e
  rw [ho] at ho'; cases ho'
  rw [hd] at hd'
  injection hd' with e1 _
  injection e1 with e1
  injection e1 with e2 e3
  injection e2 with e2
  injection e3 with e3 _
  injection e3 with e3
  subst e2 e3
  exact Prod.ext (tupI_uniq t1 j1 t1' j1') (tupI_uniq t2 i t2' i')
variable [TabL]
section
variable {prog : Program} {w : World} {A : Around} {E : Value → Shared → Prop} {s : Shared}
end
open Classical in
section
variable {te : TE} {Γ Γ1 : List Sl} {K : PySem.W.Frag} {xs : List (List Int × List Int)}
end
end G
set_option maxHeartbeats 4000000
namespace G
variable [TabL]
open PySem PySem.Spec PyProof.Rows L2
section
variable {M : Model} {A : Around} {E : Value → Shared → Prop} {s : Shared} {env : Env}
end
section
variable {α : Type} {r : Rp α} {te : TE} {Γ Γ1 : List Sl} {K : PySem.W.Frag} {xs : List α}
end
end G
set_option maxHeartbeats 4000000
namespace G
variable [TabL]
open PySem PySem.Spec PyProof.Rows L2
section
variable {α β κ δ ρ : Type} [DecidableEq κ] {rk : Rp κ} {ky : Ky rk} {rd : Rp δ} {rb : Rp β} {P0 : Program} {w0 : World} {Γ Γ1 Γ2 : List Sl} {i : Nat} {p : Addr} {l0 : List (κ × Addr)} {l : List (κ × List δ)} {k : κ} {xs ys : List δ} {tr : TA} {R : AR} {a : α} {b : β}
structure ElAt (l0 : List (κ × Addr)) (k : κ) (rd : Rp δ) (w : Mw (List δ × Unit) α) (a : α) (B : Hp) (vs : List V) (q : Addr) : Prop where
  at_ : getM l0 k = some q
  imm : w.imm B vs a
  own : ∀ (B' H : Hp) (o : Addr → Prop) (us : List V) (xs : List δ), o q → H q = some (.lst us) → Paired (rd.rel B') us xs → w.own B' H o vs (xs, ())
  back : ∀ (B' H : Hp) (o : Addr → Prop) (g : List δ × Unit), w.own B' H o vs g → o q ∧ ∃ us, H q = some (.lst us) ∧ Paired (rd.rel B') us g.1
instance fzDB : Fz (tDB P0 w0 ky rd l0) (rDicF P0 w0 ky (rLst rd)) := ⟨fun {B H o v l} h ⟨p, ob, kvs, e, hp, D⟩ => by
  have s := fz_same (H := H) h
  refine ⟨p, _, e, s _ _ hp, ob, kvs, rfl, db_pair (l0 := l0) (fun q us z hu => ?_) s (fun e he => List.mem_map_of_mem he) D.dr D.ls⟩
  obtain ⟨oq, _⟩ := ls_all D.ls q z
  rw [fz_in oq]; exact hu⟩
end
end G
set_option maxHeartbeats 4000000
namespace G
variable [TabL]
open PySem PySem.Spec PyProof.Rows L2
section
variable {α β γ δ : Type} {r1 : Rp α} {r2 : Rp γ} {r3 : Rp δ} {rb : Rp β} {te : TE} {Γ : List Sl} {b : β}
end
end G
set_option maxHeartbeats 4000000
namespace G
variable [TabL]
open PySem PySem.Spec PyProof.Rows L2
inductive DT where
  | node : List (List Int × DT) → DT
section
variable {P : Program} {w : World}
variable {te : TE} {Γ Γ1 : List Sl} {t : DT} {l : List (List Int × DT)}
end
end G
set_option maxHeartbeats 4000000
namespace G
variable [TabL]
open PySem PySem.Spec PyProof.Rows L2
section
variable {α β : Type} {r : Rp α} {rb : Rp β} {te tf : TE} {Γ Γ1 Γ2 : List Sl} {xs : List α} {ys : List β} {K : PySem.W.Frag}
end
section
variable {P : Program} {w : World} {κ β : Type} [DecidableEq κ] {rk : Rp κ} {Γ : List Sl}
end
end G
set_option maxHeartbeats 4000000
namespace G
variable [TabL]
open PySem PySem.Spec PyProof.Rows L2
section
variable {ta tb : TE} {Γ Γ1 Γ2 : List Sl} {K : PySem.W.Frag}
end
section
variable {P : Program} {w : World} {κ β : Type} [DecidableEq κ] {rk : Rp κ} {rv : Rp β} {te : TE} {Γ Γ1 : List Sl} {l : List (κ × β)}
end
end G
set_option maxHeartbeats 4000000
namespace G
variable [TabL]
open PySem PySem.Spec PyProof.Rows L2
section
variable {te : TE} {Γ Γ1 : List Sl} {K : PySem.W.Frag} {xs ys : List (Int × Int)}
end
end G
set_option maxHeartbeats 4000000
namespace G
variable [TabL]
open PySem PySem.Spec PyProof.Rows L2
section
variable {α : Type} {r : Rp α} {te : TE} {Γ Γ1 : List Sl} {K : PySem.W.Frag} {x : List α ⊕ Unit}
end
section
variable {κ β γ : Type} [DecidableEq κ] {rk : Rp κ} {rv : Rp β} {rz : Rp γ} {P : Program} {w : World} {ta tk tz : TE} {Γ Γ1 Γ2 Γ3 : List Sl} {l : List (κ × β)}
end
section
variable {α : Type} {r : Rp α} {ta : TA} {Γ Γ1 : List Sl}
end
section
variable {α γ : Type} {r : Rp α} {te : TE} {Γ Γ1 : List Sl} {K : PySem.W.Frag} {A : Amb} {D : Ends} {u : TS} {i : Nat} {p : Addr} {xs ys zs : List α}
end
end G
set_option maxHeartbeats 4000000
namespace G
open PySem PySem.Spec PyProof.Rows L2
def PrnIn (h : Heap) (v : Value) (k : List Int × Int) : Prop := ∃ (a r : Addr) (t : Tok) (ys : Array Value), v = .ref a ∧ IsTup h a #[.ref r, .int k.2 t] ∧ IsTup h r ys ∧ IntsAre ys.toList k.1
theorem PrnIn.keeps {h h' : Heap} {v : Value} {k : List Int × Int} (x : PrnIn h v k) (kp : ∀ b o, h.get? b = some o → o.cls = .type "tuple" → h'.get? b = some o) : PrnIn h' v k := by
  obtain ⟨a, r, t, ys, e, ⟨o, ho, hc, rr⟩, ⟨o1, ho1, hc1, r1⟩, i1⟩ := x
  exact ⟨a, r, t, ys, e, ⟨o, kp _ _ ho hc, hc, rr⟩, ⟨o1, kp _ _ ho1 hc1, hc1, r1⟩, i1⟩
theorem PrnIn.uniq {h : Heap} {v : Value} {k m : List Int × Int} (x : PrnIn h v k) (y : PrnIn h v m) : k = m := by
  obtain ⟨a, r, t, zs, rfl, ⟨o, ho, hc, n, hd⟩, t1, j1⟩ := x
  obtain ⟨a', r', t', zs', e, ⟨o', ho', hc', n', hd'⟩, t1', j1'⟩ := y
  cases e
  rw [ho] at ho'; cases ho'
  rw [hd] at hd'
  injection hd' with e1 _
  injection e1 with e1
  injection e1 with e2 e3
  injection e2 with e2
  injection e3 with e3 _
  injection e3 with e3 _
  subst e2
  exact Prod.ext (tupI_uniq t1 j1 t1' j1') e3
variable [TabL]
section
variable {prog : Program} {w : World} {A : Around} {E : Value → Shared → Prop} {s : Shared}
end
section
variable {prog : Program} {w : World} {A : Around} {E : Value → Shared → Prop} {s : Shared}
end
open Classical in
section
variable {te : TE} {Γ Γ1 : List Sl} {K : PySem.W.Frag} {xs : List (List Int × Int)}
end
end G
set_option maxHeartbeats 4000000
namespace G
variable [TabL]
open PySem PySem.Spec PyProof.Rows L2
end G
set_option maxHeartbeats 4000000
namespace G
variable [TabL]
open PySem PySem.Spec PyProof.Rows L2
def EnS (h : Heap) (e it : Addr) (c : Int) : Prop :=
  ∃ f0 f1 old : Value, (f0 = .none ∨ ∃ a : Nat, f0 = rawInt a) ∧ h.get? e = some { cls := .type "enumerate", dict := none, data := .fields #[f0, f1, .ref it, rawInt c, .none, old], slots := #[] }
theorem EnS.of {h : Heap} {e it : Addr} {c : Int} {old : Value} (q : IsEnum h e it c old) : EnS h e it c := ⟨_, _, old, .inl rfl, q⟩
section
variable {prog : Program} {w : World} {A : Around} {E : Value → Shared → Prop} {s : Shared}
set_option maxHeartbeats 16000000 in
set_option maxHeartbeats 16000000 in
end
def PairsAt (h : Heap) (items : Array Value) (N : Nat) (acc : Array Value) (i : Nat) : Prop :=
  ∃ ts : List (Addr × Tok), acc.toList = ts.map (fun t => Value.ref t.1) ∧ ts.length = i ∧ (ts.map (·.1)).Pairwise (· < ·) ∧ (∀ t ∈ ts, N ≤ t.1 ∧ t.1 < h.objs.size) ∧
    ∀ (j : Nat) t, ts[j]? = some t → ∃ x, items[j]? = some x ∧ h.get? t.1 = some { cls := .type "tuple", data := .seq #[.int (j : Nat) t.2, x] }
theorem PairsAt.nil (h : Heap) (items : Array Value) (N : Nat) : PairsAt h items N #[] 0 := ⟨[], rfl, rfl, .nil, fun _ q => (by cases q), fun j t q => (by cases q)⟩
theorem PairsAt.keep {h h1 : Heap} {items acc : Array Value} {N i : Nat} (p : PairsAt h items N acc i) (k : ∀ b o, N ≤ b → h.get? b = some o → h1.get? b = some o) : PairsAt h1 items N acc i := by
  obtain ⟨ts, e1, e2, pw, lo, ob⟩ := p
  refine ⟨ts, e1, e2, pw, fun t ht => ⟨(lo t ht).1, ?_⟩, fun j t q => ?_⟩
  · obtain ⟨j, hj⟩ := List.getElem?_of_mem ht
    obtain ⟨x, _, hx⟩ := ob j t hj
    exact Heap.lt_size (k _ _ (lo t ht).1 hx)
  · obtain ⟨x, q1, q2⟩ := ob j t q
    exact ⟨x, q1, k _ _ (lo t (List.mem_of_getElem? q)).1 q2⟩
theorem PairsAt.push {h : Heap} {items acc : Array Value} {N i T : Nat} {tk : Tok} {x : Value} (p : PairsAt h items N acc i) {h1 : Heap} (k : ∀ b o, N ≤ b → h.get? b = some o → h1.get? b = some o) (hT : T = h.objs.size) (hN : N ≤ h.objs.size)
    (hx : items[i]? = some x) (ho : h1.get? T = some { cls := .type "tuple", data := .seq #[.int (i : Nat) tk, x] }) : PairsAt h1 items N (acc.push (.ref T)) (i + 1) := by
  obtain ⟨ts, e1, e2, pw, lo, ob⟩ := p
  have p2 : PairsAt h1 items N acc i := PairsAt.keep ⟨ts, e1, e2, pw, lo, ob⟩ k
  refine ⟨ts ++ [(T, tk)], by simp [e1], by simp [e2], ?_, fun t ht => ?_, fun j t q => ?_⟩
  · rw [List.map_append, List.pairwise_append]
    refine ⟨pw, by simp, fun a ha b hb => ?_⟩
    obtain ⟨t, ht, rfl⟩ := List.mem_map.mp ha
    have : b = T := by simpa using hb
    rw [this, hT]; exact (lo t ht).2
  · rcases List.mem_append.mp ht with z | z
    · obtain ⟨j, hj⟩ := List.getElem?_of_mem z
      obtain ⟨y, _, hy⟩ := ob j t hj
      exact ⟨(lo t z).1, Heap.lt_size (k _ _ (lo t z).1 hy)⟩
    · have : t = (T, tk) := by simpa using z
      rw [this]; exact ⟨by show N ≤ T; rw [hT]; exact hN, Heap.lt_size ho⟩
  · by_cases hj : j < ts.length
    · rw [List.getElem?_append_left hj] at q
      obtain ⟨y, q1, q2⟩ := ob j t q
      exact ⟨y, q1, k _ _ (lo t (List.mem_of_getElem? q)).1 q2⟩
    · rw [List.getElem?_append_right (Nat.le_of_not_lt hj)] at q
      have hz : j - ts.length = 0 := by
        have := (List.getElem?_eq_some_iff.mp q).1
        simp at this; omega
      rw [hz] at q
      have et : t = (T, tk) := by simpa using q.symm
      have ej : j = i := by omega
      subst et ej
      exact ⟨x, hx, ho⟩
section
variable {prog : Program} {w : World} {A : Around} {E : Value → Shared → Prop} {s : Shared} {R : Result → Shared → Prop}
theorem EnS.keep {h h1 : Heap} {e it : Addr} {c : Int} (q : EnS h e it c) (k : ∀ o, h.get? e = some o → h1.get? e = some o) : EnS h1 e it c := let ⟨f0, f1, old, hf, ho⟩ := q; ⟨f0, f1, old, hf, k _ ho⟩
end
section
variable {X : Cx} {pins : List (Addr × Obj)} {σ : L2.St} {H : Hp} {s : Shared}
end
section
variable {α : Type} {r : Rp α} {te : TE} {Γ Γ1 : List Sl} {K : PySem.W.Frag} {xs : List α}
end
section
variable {α : Type} {r : Rp α} {ta tb : TE} {Γ Γ1 Γ2 : List Sl} {K : PySem.W.Frag} {a : α}
end
end G
set_option maxHeartbeats 4000000
namespace G
variable [TabL]
open PySem PySem.Spec PyProof.Rows L2
section
variable {X : Cx} {o : Expr} {apos cpos : Pos} {td : TE} {P : Program} {w : World}
end
section
variable {P : Program} {w : World} {κ β : Type} [DecidableEq κ] {rk : Rp κ} {rv : Rp β} {te : TE} {Γ Γ1 : List Sl} {l : List (κ × β)}
theorem DRel.up {ky : Ky rk} {B B' : Hp} (s : Same B B') : ∀ {kvs : List FE} {l : List (κ × β)}, Paired (DRel ky rv B) kvs l → Paired (DRel ky rv B') kvs l
  | _, _, .nil => .nil
  | _, _, .cons h t => .cons ⟨h.1, rv.mono s h.2⟩ (DRel.up s t)
end
end G
set_option maxHeartbeats 4000000
namespace G
variable [TabL]
open PySem PySem.Spec PyProof.Rows L2
section
variable {α β : Type} {r : Rp α} {rb : Rp β} {te tf : TE} {Γ Γ1 Γ2 : List Sl} {xs : List α} {ys : List β} {K : PySem.W.Frag}
end
section
variable {ta tb : TE} {Γ Γ1 Γ2 : List Sl}
end
end G
set_option maxHeartbeats 4000000
namespace G
variable [TabL]
open PySem PySem.Spec PyProof.Rows L2
section
variable {P : Program} {w : World} {H : Hp} {h : Heap} {d : Addr} {ol o : Obj} {kvs : List FE}
def only (d : Addr) (o : HO) : Hp := fun a => if a = d then some o else none
end
section
variable {X : Cx} {o i e f value : Expr} {pos pos' tpos apos cpos : Pos} {td ty tz tv t : TE} {P : Program} {w : World}
end
section
variable {P : Program} {w : World} {κ β γ : Type} [DecidableEq κ] {rk : Rp κ} {rv : Rp β} {te ta tk tz : TE} {Γ Γ1 Γ2 Γ3 : List Sl} {l : List (κ × β)}
end
class NoG {α : Type} (r : Rp α) : Prop where
  no : ∀ {B : Hp} {p : Addr} {ol : Obj} {z : Heap → Prop} {v : V} {a : α}, B p = some (.frz ol (.ext z)) → r.rel B v a → r.rel (ers B p) v a
class NoGW {α : Type} (w : Rw α) : Prop where
  no : ∀ {B : Hp} {p : Addr} {ol : Obj} {z : Heap → Prop} {us : List V} {a : α}, B p = some (.frz ol (.ext z)) → w.rel B us a → w.rel (ers B p) us a
section
variable {α β : Type}
instance : NoG rInt := ⟨fun _ h => h⟩
instance : NoG rBool := ⟨fun _ h => h⟩
instance : NoG rStr := ⟨fun _ h => h⟩
instance : NoG rNon := ⟨fun _ h => h⟩
instance : NoGW w0 := ⟨fun _ h => h⟩
instance (r : Rp α) [NoG r] : NoGW (w1 r) := ⟨fun hp ⟨v, e, h⟩ => ⟨v, e, NoG.no hp h⟩⟩
instance (r : Rp α) (w : Rw β) [NoG r] [NoGW w] : NoGW (wC r w) := ⟨fun hp ⟨v, t, e, h, k⟩ => ⟨v, t, e, NoG.no hp h, NoGW.no hp k⟩⟩
theorem paired_noG {r : Rp α} [NoG r] {B : Hp} {p : Addr} {ol : Obj} {z : Heap → Prop} (hp : B p = some (.frz ol (.ext z))) : ∀ {us : List V} {xs : List α}, Paired (r.rel B) us xs → Paired (r.rel (ers B p)) us xs
  | _, _, .nil => .nil
  | _, _, .cons h t => .cons (NoG.no hp h) (paired_noG hp t)
instance (r : Rp α) [NoG r] : NoG (rOb (cLst r)) := ⟨fun {B p ol z v a} hp ⟨q, o, e, hq, us, eo, k⟩ => ⟨q, o, e, by
  rw [ers_ne fun y => by rw [y, hp] at hq; cases hq; cases eo]; exact hq, us, eo, paired_noG hp k⟩⟩
instance (r : Rp α) [NoG r] : NoG (rOb (cTpl r)) := ⟨fun {B p ol z v a} hp ⟨q, o, e, hq, us, eo, k⟩ => ⟨q, o, e, by
  rw [ers_ne fun y => by rw [y, hp] at hq; cases hq; cases eo]; exact hq, us, eo, paired_noG hp k⟩⟩
instance (w : Rw α) [NoGW w] : NoG (rOb (cTup w)) := ⟨fun {B p ol z v a} hp ⟨q, o, e, hq, us, eo, k⟩ => ⟨q, o, e, by
  rw [ers_ne fun y => by rw [y, hp] at hq; cases hq; cases eo]; exact hq, us, eo, NoGW.no hp k⟩⟩
instance (C : Addr) (names : List Str) (w : Rw α) [NoGW w] : NoG (rOb (cIns C names w)) := ⟨fun {B p ol z v a} hp ⟨q, o, e, hq, dx, us, eo, l, k⟩ => ⟨q, o, e, by
  rw [ers_ne fun y => by rw [y, hp] at hq; cases hq; cases eo]; exact hq, dx, us, eo, l, NoGW.no hp k⟩⟩
instance (C : Addr) (names : List Str) (w : Rw α) [NoGW w] : NoG (rIns C names w) := inferInstanceAs (NoG (rOb (cIns C names w)))
instance (r : Rp α) [NoG r] : NoG (rLst r) := inferInstanceAs (NoG (rOb (cLst r)))
instance (r : Rp α) [NoG r] : NoG (rTpl r) := inferInstanceAs (NoG (rOb (cTpl r)))
instance (w : Rw α) [NoGW w] : NoG (rTup w) := inferInstanceAs (NoG (rOb (cTup w)))
instance (r : Rp α) [NoG r] : NoG (rOb (cTX r)) := ⟨fun {B p ol z v a} hp ⟨q, o, e, hq, ob, us, eo, d, l, k⟩ => ⟨q, o, e, by
  rw [ers_ne fun y => by rw [y, hp] at hq; cases hq; cases eo]; exact hq, ob, us, eo, d, l, paired_noG hp k⟩⟩
theorem paired_fg {κ : Type} [DecidableEq κ] {rk : Rp κ} {ky : Ky rk} {rv : Rp β} [NoG rv] {B : Hp} {p : Addr} {ol : Obj} {z : Heap → Prop} (hp : B p = some (.frz ol (.ext z))) : ∀ {us : List FE} {xs : List (κ × β)}, Paired (DRel ky rv B) us xs → Paired (DRel ky rv (ers B p)) us xs
  | _, _, .nil => .nil
  | _, _, .cons h t => .cons ⟨h.1, NoG.no hp h.2⟩ (paired_fg hp t)
instance (P : Program) (W : World) {κ : Type} [DecidableEq κ] {rk : Rp κ} (ky : Ky rk) (rv : Rp β) [NoG rv] : NoG (rDicF P W ky rv) := ⟨fun {B p ol z v a} hp ⟨q, o, e, hq, ob, kvs, eo, k⟩ => ⟨q, o, e, by
  rw [ers_ne fun y => by rw [y, hp] at hq; cases hq; cases eo]; exact hq, ob, kvs, eo, paired_fg hp k⟩⟩
theorem paired_ng {κ : Type} [DecidableEq κ] {rk : Rp κ} {ky : KyN rk} {rv : Rp β} [NoG rk] [NoG rv] {B : Hp} {p : Addr} {ol : Obj} {z : Heap → Prop} (hp : B p = some (.frz ol (.ext z))) : ∀ {us : List NE} {xs : List (κ × β)}, Paired (NRel ky rv B) us xs → Paired (NRel ky rv (ers B p)) us xs
  | _, _, .nil => .nil
  | _, _, .cons h t => .cons ⟨h.1, NoG.no hp h.2.1, NoG.no hp h.2.2⟩ (paired_ng hp t)
instance (P : Program) (W : World) {κ : Type} [DecidableEq κ] {rk : Rp κ} (ky : KyN rk) (rv : Rp β) [NoG rk] [NoG rv] : NoG (rDicN P W ky rv) := ⟨fun {B p ol z v a} hp ⟨q, o, kvs, e, hq, k⟩ => ⟨q, o, kvs, e, by
  rw [ers_ne fun y => by rw [y, hp] at hq; cases hq]; exact hq, paired_ng hp k⟩⟩
end
section
variable {P : Program} {w : World} {κ β γ : Type} [DecidableEq κ] {rk : Rp κ} {rv : Rp β} {rb : Rp γ} {te : TE} {Γ Γ' : List Sl} {l : List (κ × β)} {A : Amb} {ky : Ky rk}
end
section
variable {ρ κ γ α τ : Type}
def mwD (c : Addr → Cl κ) (w : Mw γ α) : Mw (κ × γ) α := ⟨fun B H o vs g => ∃ p t u, vs = .ref p :: t ∧ o p ∧ H p = some u ∧ (c p).ok B u g.1 ∧ w.own B H (fun q => o q ∧ q ≠ p) t g.2, fun B vs a => ∃ v t, vs = v :: t ∧ w.imm B t a, w.len + 1, fun ⟨p, t, u, e, _, _, _, k⟩ => by rw [e, List.length_cons, w.olen k]⟩
variable {c : Addr → Cl κ} {w : Mw γ α} {Γ Γ1 Γ2 : List Sl} {vs : List V} {g : γ} {a : α} {y : κ} {p : Addr} {k i n : Nat} {is : List Nat} {R : AR}
instance (c : Addr → Cl κ) (w : Mw γ α) [m : Mm w] : Mm (mwD c w) := ⟨fun n ⟨p, t, u, e, op, hp, k, q⟩ => ⟨p, t, u, e, n p op, hp, k, m.up (fun q z => ⟨n q z.1, z.2⟩) q⟩⟩
end
section
variable {α : Type} {K : PySem.W.Frag} {w : Rw α} {te : TE} {A : Amb} {D : Ends} {u : TS} {Γ Γ1 : List Sl} {g : TGs} {vs : List Nat} {Γf : α → List Sl} {x : α} {n m : Nat}
end
end G
set_option maxHeartbeats 4000000
namespace G
variable [TabL]
open PySem PySem.Spec PyProof.Rows L2
section
variable {prog : Program} {w : World} {A : Around} {E : Value → Shared → Prop} {s : Shared}
end
section
variable {te : TE} {Γ Γ1 : List Sl} {K : PySem.W.Frag} {xs : List (List Int × List Int)}
end
section
variable {P : Program} {w : World} {κ β : Type} [DecidableEq κ] {rk : Rp κ} {rv : Rp β} {ky : Ky rk}
end
end G
set_option maxHeartbeats 4000000
namespace G
variable [TabL]
open PySem PySem.Spec PyProof.Rows L2
section
variable {prog : Program} {w : World} {A : Around} {E : Value → Shared → Prop} {s : Shared} {T : String} {r d : Addr} {n : Nat} {P : Nat → Value → Prop} {OK : Heap → Prop}
end
section
variable {prog : Program} {w : World} {A : Around} {E : Value → Shared → Prop} {s : Shared} {T : String} {r d : Addr} {n : Nat} {P : Nat → Value → Prop} {OK : Heap → Prop}
end
section
variable {X : Cx} {o : Expr} {apos cpos : Pos} {td : TE} {P : Program} {w : World}
end
section
variable {P : Program} {w : World} {κ β : Type} [DecidableEq κ] {rk : Rp κ} {rv : Rp β} {te : TE} {Γ Γ1 : List Sl} {l : List (κ × β)}
end
section
variable {X : Cx} {o : Expr} {apos cpos : Pos} {td : TE} {P : Program} {w : World}
end
section
variable {P : Program} {w : World} {κ β : Type} [DecidableEq κ] {rk : Rp κ} {rv : Rp β} {te : TE} {Γ Γ1 : List Sl} {l : List (κ × β)}
end
section
variable {α β : Type} {r : Rp α} {rb : Rp β} {te tf : TE} {Γ Γ1 Γ2 : List Sl} {xs : List α} {ys : List β} {K : PySem.W.Frag}
end
section
variable {α β γ : Type}
class Dj (r : Rp α) (r2 : Rp β) : Prop where
  dj : ∀ {B : Hp} {v : V} {a : α} {b : β}, r.rel B v a → r2.rel B v b → False
class DjW (w : Rw α) (w2 : Rw β) : Prop where
  dj : ∀ {B : Hp} {vs : List V} {a : α} {b : β}, w.rel B vs a → w2.rel B vs b → False
instance : Dj rInt rStr := ⟨fun h g => by cases h; cases g⟩
instance : Dj rStr rInt := ⟨fun h g => by cases h; cases g⟩
instance (r : Rp α) (w : Rw β) {δ ε : Type} (r2 : Rp δ) (w2 : Rw ε) [Dj r r2] : DjW (wC r w) (wC r2 w2) := ⟨fun ⟨v, t, e, h, _⟩ ⟨v2, t2, e2, h2, _⟩ => by
  rw [e] at e2; cases e2; exact Dj.dj h h2⟩
instance (w : Rw α) (w2 : Rw β) [DjW w w2] : Dj (rOb (cTup w)) (rOb (cTup w2)) := ⟨fun ⟨q, o, e, hq, us, eo, k⟩ ⟨q2, o2, e2, hq2, us2, eo2, k2⟩ => by
  rw [e] at e2; cases e2
  rw [hq] at hq2; cases hq2
  rw [eo] at eo2; cases eo2
  exact DjW.dj k k2⟩
instance (w : Rw α) (w2 : Rw β) [DjW w w2] : Dj (rTup w) (rTup w2) := inferInstanceAs (Dj (rOb (cTup w)) (rOb (cTup w2)))
class NoLD (rb : Rp β) (r : Rp α) : Prop where
  no : ∀ {B : Hp} {p : Addr} {vs : List V} {xs : List α} {v : V} {b : β}, B p = some (.lst vs) → Paired (r.rel B) vs xs → xs ≠ [] → rb.rel B v b → rb.rel (ers B p) v b
class NoLDW (wb : Rw β) (r : Rp α) : Prop where
  no : ∀ {B : Hp} {p : Addr} {vs : List V} {xs : List α} {us : List V} {b : β}, B p = some (.lst vs) → Paired (r.rel B) vs xs → xs ≠ [] → wb.rel B us b → wb.rel (ers B p) us b
theorem nold_l (rb : Rp β) (r2 : Rp γ) (r : Rp α) [NoL r2] [Dj r2 r] : NoLD (rOb (cLst r2)) r := ⟨fun {B p vs xs v b} hp kp ne ⟨q, o, e, hq, us, eo, k⟩ => by
  have hqp : q ≠ p := fun z => by
    subst z
    rw [hp] at hq; cases hq
    cases eo
    cases kp with
    | nil => exact ne rfl
    | cons h t => cases k with
      | cons h2 t2 => exact Dj.dj h2 h
  exact ⟨q, o, e, by rw [ers_ne hqp]; exact hq, us, eo, paired_noL hp k⟩⟩
instance (r2 : Rp γ) (r : Rp α) [NoL r2] [Dj r2 r] : NoLD (rOb (cLst r2)) r := nold_l r2 r2 r
instance (r2 : Rp γ) (r : Rp α) [NoL r2] [Dj r2 r] : NoLD (rLst r2) r := inferInstanceAs (NoLD (rOb (cLst r2)) r)
instance (priority := low) (rb : Rp β) (r : Rp α) [NoL rb] : NoLD rb r := ⟨fun hp _ _ h => NoL.no hp h⟩
instance (r : Rp α) : NoLDW w0 r := ⟨fun _ _ _ h => h⟩
instance (rb : Rp β) (r : Rp α) [NoLD rb r] : NoLDW (w1 rb) r := ⟨fun hp kp ne ⟨v, e, h⟩ => ⟨v, e, NoLD.no hp kp ne h⟩⟩
instance (rb : Rp β) (wb : Rw γ) (r : Rp α) [NoLD rb r] [NoLDW wb r] : NoLDW (wC rb wb) r := ⟨fun hp kp ne ⟨v, t, e, h, k⟩ => ⟨v, t, e, NoLD.no hp kp ne h, NoLDW.no hp kp ne k⟩⟩
instance (C : Addr) (names : List Str) (wb : Rw β) (r : Rp α) [NoLDW wb r] : NoLD (rOb (cIns C names wb)) r := ⟨fun {B p vs xs v b} hp kp ne ⟨q, o, e, hq, dx, us, eo, l, k⟩ => ⟨q, o, e, by
  rw [ers_ne fun z => by rw [z, hp] at hq; cases hq; cases eo]; exact hq, dx, us, eo, l, NoLDW.no hp kp ne k⟩⟩
instance (C : Addr) (names : List Str) (wb : Rw β) (r : Rp α) [NoLDW wb r] : NoLD (rIns C names wb) r := inferInstanceAs (NoLD (rOb (cIns C names wb)) r)
end
section
variable {α β : Type} {r : Rp α} {rb : Rp β} {te : TE} {Γ : List Sl}
end
end G
set_option maxHeartbeats 4000000
namespace G
variable [TabL]
open PySem PySem.Spec PyProof.Rows L2
section
open PySem.W PySem.Calls
variable {M : Model} {A : Around} {E : Value → Shared → Prop} {s : Shared} {K : PySem.W.Frag} {env : Env} {pos : Pos} {x C : Addr} {ox : Obj} {first : List Value} {Q : Value → Shared → Prop}
end
section
variable {X : Cx} {CX : CXT} {C f : Addr} {fd : FuncData} {ps : List Str} {k : Nat} {sp : Sp} {E : XK} {x : Str} {p pos : Pos} {e : Expr} {es : List Expr} {ta : TE} {t : TA}
end
section
variable {α β γ : Type} {w : Rw α} {w' : Rw β} {rc : Rp γ} {c : Cl γ} {C : Addr} {names : List Str} {te : TE} {ta : TA} {Γ Γ1 Γ2 : List Sl} {a : α} {b : β} {E : XK} {z : γ} {m : α × β → Option γ}
end
section
variable {prog : Program} {w : World} {A : Around} {E : Value → Shared → Prop} {s : Shared}
end
section
variable {te : TE} {Γ Γ1 : List Sl} {K : PySem.W.Frag} {xs : List (List Int)}
end
section
variable {α β γ : Type} {w0 : Rw α} {w : Rw γ} {rb : Rp β} {Γ Γ1 : List Sl} {t : TA} {dvs : List V} {f : α → γ} {m : γ → Option β} {a : α} {b : β} {E : XK}
end
section
variable {P : Program} {w : World} {κ β : Type} [DecidableEq κ] {rk : Rp κ} {ky : Ky rk} {rv : Rp β} {Γ : List Sl} {l : List (κ × β)} {t : TT}
end
end G
set_option maxHeartbeats 4000000
namespace G
variable [TabL]
open PySem PySem.Spec PyProof.Rows L2
section
variable {α β : Type} {K : PySem.W.Frag} {ra : Rp α} {rb : Rp β} {Γ Γ1 Γ2 : List Sl} {ta tb : TE}
end
section
variable {α β ε γ : Type} {w : Rw α} {r : Rp β} {R : ER ε} {Γ Γ1 : List Sl} {ta : TA} {tb : TE} {m : α → Option (Res ε β)} {a : α} {x : Res ε β} {e : ε} {A : Amb} {D : Ends} {u : TS} {r2 : R2}
end
end G
set_option maxHeartbeats 4000000
namespace L2
open PySem PySem.Spec PyProof.Rows
def RaisesK (K : PySem.W.Frag) (c : Value) : Prop := PySem.W.subIn K c (.type "BaseException") = some true ∧ PySem.W.typeIn K c = some (.type "type")
theorem pmk_own0 {X : Cx} {C : Addr} {bmB : List Value} {B newId initId : String} {x : Str} {p pos : Pos} (FB : ExcBaseFacts B newId initId bmB) (hq : PySem.W.excIn X.K C bmB newId = true) (hm : X.mg x = some (.ref C)) (hk : PySem.W.keepIn X.K (.ref C) = true) (hr : RaisesK X.K (.ref C)) (hg : Gl X x) (hd : (x == ("__debug__" : Str)) = false) :
    PMk X (.Call (.Name x p) [] [] pos) (fun _ H Q => Q (.ref C) none H) := fun pins s σ H Q I h => by
  refine wpAny_Call_Name_kw (ld_glob I hg hm ?_ hd)
  refine PySem.W.callWith_K0 I.kIn hk ?_
  show wpAny _ _ (call (.ref C) []) _ _ _
  obtain ⟨x1, x2, x3, x4, x5, x6, x7, x8, x9, y1, y2, y3, y4, y5, y6, y7, y8, e1, e2, e3, e4⟩ := exc_obj I.kIn hq
  exact wpAny_call_exc_subT FB e4 e1 e2 e3 (fun h' e z => mk_of I z (raises_own hr.1 hr.2) h (I.hok.gone z.new)) (Nat.zero_le _)
abbrev Cls3 := Value × Option Nat × (Addr → Value → Option Addr → TS)
def wMx (K : PySem.W.Frag) (Wout : WX) (D : Ends) (l : List Cls3) : WX := l.foldr (fun x W => match x.2.1 with
  | some i => wAs K x.1 i x.2.2 W D
  | none => wOnly K x.1 x.2.2 W D) Wout
inductive HdsMx (X : Cx) : List ExceptHandler → List Cls3 → Prop
  | nil : HdsMx X [] []
  | cons {x n : Str} {c : Value} {i : Nat} {ts : Addr → Value → Option Addr → TS} {b₀ : Stmt} {suite : List Stmt} {np pos' : Pos} {hds : List ExceptHandler} {l : List Cls3}
      (hi : X.N[i]? = some n) (hln : X.env.kindOf n = some .local) (hc : Names X x c)
      (hsu : ∀ (a : Addr) (oe : Obj) (cls : Value) (d : Option Addr) (pn : List (Addr × Obj)), Zc cls d oe → (∃ vs, oe.data = .fields vs) → PSs (X.suite a ((a, oe) :: pn)) (b₀ :: suite) (ts a cls d)) (r : HdsMx X hds l) :
      HdsMx X (.ExceptHandler (some (.Name x np)) (some n) (b₀ :: suite) pos' :: hds) ((c, some i, ts) :: l)
  | conz {x : Str} {c : Value} {ts : Addr → Value → Option Addr → TS} {b₀ : Stmt} {suite : List Stmt} {np pos' : Pos} {hds : List ExceptHandler} {l : List Cls3}
      (hc : Names X x c)
      (hsu : ∀ (a : Addr) (oe : Obj) (cls : Value) (d : Option Addr) (pn : List (Addr × Obj)), Zc cls d oe → (∃ vs, oe.data = .fields vs) → PSs (X.suite a ((a, oe) :: pn)) (b₀ :: suite) (ts a cls d)) (r : HdsMx X hds l) :
      HdsMx X (.ExceptHandler (some (.Name x np)) none (b₀ :: suite) pos' :: hds) ((c, none, ts) :: l)
section
variable {X : Cx} {body : List Stmt} {h₀ : ExceptHandler} {hds : List ExceptHandler} {l : List Cls3} {pos : Pos} {tb : WX → TS} {Wout : WX}
end
end L2
namespace G
variable [TabL]
open PySem PySem.Spec PyProof.Rows L2
inductive HdsY (X : Cx) : List ExceptHandler → List (Value × Option Nat × List Stmt) → Prop
  | nil : HdsY X [] []
  | cons {x n : Str} {c : Value} {i : Nat} {b₀ : Stmt} {suite : List Stmt} {np pos' : Pos} {hds : List ExceptHandler} {l : List (Value × Option Nat × List Stmt)}
      (hi : X.N[i]? = some n) (hln : X.env.kindOf n = some .local) (hc : Names X x c) (r : HdsY X hds l) :
      HdsY X (.ExceptHandler (some (.Name x np)) (some n) (b₀ :: suite) pos' :: hds) ((c, some i, b₀ :: suite) :: l)
  | conz {x : Str} {c : Value} {b₀ : Stmt} {suite : List Stmt} {np pos' : Pos} {hds : List ExceptHandler} {l : List (Value × Option Nat × List Stmt)}
      (hc : Names X x c) (r : HdsY X hds l) :
      HdsY X (.ExceptHandler (some (.Name x np)) none (b₀ :: suite) pos' :: hds) ((c, none, b₀ :: suite) :: l)
abbrev suiY (X : Cx) (l : List (Value × Option Nat × List Stmt)) : List Cls3 := l.map fun x => (x.1, x.2.1, tSui X x.2.2)
theorem HdsY.as {X : Cx} : ∀ {hds : List ExceptHandler} {l : List (Value × Option Nat × List Stmt)}, HdsY X hds l → HdsMx X hds (suiY X l)
  | _, _, .nil => .nil
  | _, _, .cons hi hln hc r => .cons hi hln hc (fun a oe cls d pn hz hf' => ⟨fun pins s σ H D I ⟨t, ht, q⟩ => (ht oe pn hz hf').run pins s σ H D I q⟩) r.as
  | _, _, .conz hc r => .conz hc (fun a oe cls d pn hz hf' => ⟨fun pins s σ H D I ⟨t, ht, q⟩ => (ht oe pn hz hf').run pins s σ H D I q⟩) r.as
section
variable {α β γ ε : Type} {r : Rp β} {Γ Γ1 : List Sl} {te : TE} {K : PySem.W.Frag} {w : Rw α} {C : Addr} {names : List Str} {R : ER ε} {A : Amb} {D : Ends} {u : TS} {i : Nat}
theorem erC_c {e : α} (B : Hp) (cls : Value) (d : Option Addr) (h : erC C names w B cls d e) : cls = .ref C := And.left h
theorem nxe_noY {c : Value} {ts : Addr → Value → Option Addr → TS} {W : WX} {e : ε} (hR : ∀ B cls d, R B cls d e → cls = .ref C) (hx : PySem.W.exmOne K (.ref C) c = some false) (k : NxE W A Γ R e) : NxE (wAs K c i ts W D) A Γ R e := fun cls d σ H B F he => by
  obtain rfl := hR _ _ _ he
  exact ⟨false, hx, fun q => Bool.noConfusion q, fun _ => k _ d σ H B F he⟩
end
end G
set_option maxHeartbeats 4000000
namespace QN
open PySem PySem.Spec PyProof.Rows L2 L2N
section
variable {X : Cx}
theorem pmk_own0 {C : Addr} {bmB : List Value} {B newId initId : String} {x : Str} {p pos : Pos} (FB : ExcBaseFacts B newId initId bmB) (hq : PySem.W.excIn X.K C bmB newId = true) (hm : X.mg x = some (.ref C)) (hk : PySem.W.keepIn X.K (.ref C) = true) (hr : L2.RaisesK X.K (.ref C)) (hg : Gl X x) (hd : (x == ("__debug__" : Str)) = false) :
    L2N.PMk X (.Call (.Name x p) [] [] pos) (fun _ H Q => Q (.ref C) none H) := fun pq s σ H Q I h => by
  refine wpAny_Call_Name_kw (ld_glob I hg hm ?_ hd)
  refine PySem.W.callWith_K0 I.kIn hk ?_
  show wpAny _ _ (call (.ref C) []) _ _ _
  obtain ⟨x1, x2, x3, x4, x5, x6, x7, x8, x9, y1, y2, y3, y4, y5, y6, y7, y8, e1, e2, e3, e4⟩ := exc_obj I.kIn hq
  exact wpAny_call_exc_subT FB e4 e1 e2 e3 (fun h' e z => L2N.mk_of I z (raises_own hr.1 hr.2) h (I.hok.gone z.new)) (Nat.zero_le _)
theorem pmk_oex {CX : CXT} {x : Str} {C fI : Addr} {k : Nat} {fd : FuncData} {ps : List Str} {sp : Sp} {ds : List Value} {dvs : List V} {p pos : Pos} {e : Expr} {es : List Expr} {ta : TA} (T : OexC X.K C) (iC : PySem.W.findIn X.K (.ref C) "__init__" = some (some (.ref fI))) (tI : PySem.W.typeIn X.K (.ref fI) = some (.type "function"))
    (Fn : FnOk X.prog X.w X.K X.mg X.base CX k fI fd ps sp) (rm : Room (k + 1) X.A) (hb : Binds X.K fd ps ds) (vd : Vals dvs ds) (hx : Passes CX X (fun _ _ _ => False)) (hg : Gl X x) (hm : X.mg x = some (.ref C)) (ha : PA X (e :: es) ta)
    (hdb : (x == ("__debug__" : Str)) = false := by decide) (hse : starEach (e :: es) X.env = (false, eval e X.env) :: starEach es X.env := by rfl) (hpl : (backTo pos (starEach es X.env)).any (·.1) = false := by rfl) :
    L2N.PMk X (.Call (.Name x p) (e :: es) [] pos) (tMkO C sp dvs ta) := fun pq s σ H Q I h => by
  obtain ⟨n1, n2, n3, n4, bm, n5, n6, n7, n8, n9, m0, m1, m2, m3, m5, kC, rb⟩ := T.cls
  refine wpAny_Call_Name_kw (ld_glob I hg hm ?_ hdb)
  refine PySem.W.callWith_K (h₀ := X.base) I.ok.mod.kin T.kC (thn (ha.run pos pq s σ H _ I h) fun us s1 ⟨vs, H1, I1, rr, hz, go⟩ => ⟨I1.kIn, ?_⟩) hse hpl
  show wpAny _ _ (call (.ref C) us) _ _ _
  obtain ⟨hp, g, dr, tk, os⟩ := s1
  generalize hA : hp.objs.size + 1 = A1 at go
  have sz : hp.objs.size ≤ A1 := by omega
  have hq := go A1 (I1.hok.fresh sz)
  generalize hP : ((hp.push (PySem.W.kdv_tup us)).push (PySem.HandSPX.excO C hp.objs.size)) = h1
  have kk : ∀ b o, hp.get? b = some o → h1.get? b = some o := fun b o z => by rw [← hP]; exact Heap.get?_push_of_some _ (Heap.get?_push_of_some _ z)
  have at1 : h1.get? A1 = some (PySem.HandSPX.excO C hp.objs.size) := by rw [← hP, ← hA]; heap_get
  have J : Inv X pq σ (upd H1 A1 (exo A1 C none)) ⟨h1, g, dr, tk, os⟩ := I1.laid (t' := tk) (a := A1) (o := exo A1 C none) (h' := h1) kk sz (exo_ok at1)
  have rv : Vals (V.ref A1 :: (vs ++ dvs)) (Value.ref A1 :: (us ++ ds)) := .cons rfl (rr.append vd)
  have ll : (Value.ref A1 :: us ++ ds).length = ps.length := (rv.length).symm.trans (Fn.len _ _ _ _ hq)
  have lu : us.length ≤ sizeLine := by
    rw [← Paired.length rr, sizeLine_eq]
    omega
  subst hA hP
  refine wpAny_call (PySem.HandSPX.call_own F.excBase_ValueError (fun Y => PySem.HandSPX.refsVE_contains Y bm rb) (I1.kIn _ _ kC) (PySem.W.looks_findIn I1.kIn iC) (fun self => PySem.W.bind_fn I1.kIn self tI) lu
    (codeAny_mono (Fn.run _ X.stack _ _ ⟨Value.ref (hp.objs.size + 1) :: us, []⟩ (Value.ref (hp.objs.size + 1) :: (us ++ ds)) _ _ (fun _ _ _ => False) (rm.make C us []) (J.env0.make C us []) (hb _ (Value.ref (hp.objs.size + 1) :: us) J.kIn ll) rv hq) fun r s' z => ?_))
  cases r with
  | error er => exact hx pq σ _ _ er s' J z
  | ok fl =>
    cases fl with
    | ret u =>
      obtain ⟨v, H2, os2, bare2, un2, hok2, rv2, ev, d, fs, ea, ed, hd1, q2⟩ := z
      subst ev
      obtain ⟨h2, g2, d2, t2, os'⟩ := s'
      obtain ⟨t0, G, J2, kG, ge, hoe, na⟩ := mk_end0 (d2 := d2) (t2 := t2) I1 sz kk un2 hok2 os2 bare2 ea ed hd1
      exact ⟨rv2, ⟨_, _, _, ⟨G, g2, d2, t2, os'⟩, _, .ref C, some d, rfl, J2, kG, ge, hoe, ⟨rfl, rfl, fun vs e => by cases e; rfl⟩, rfl, rfl, na, rfl, bare2, raises_own T.exC T.tyC, q2⟩⟩
    | next => exact False.elim z
    | brk => exact False.elim z
    | cont => exact False.elim z
end
inductive HdsMn (X : Cx) : List ExceptHandler → List Cls3 → Prop
  | nil : HdsMn X [] []
  | cons {x n : Str} {c : Value} {i : Nat} {ts : Addr → Value → Option Addr → TS} {b₀ : Stmt} {suite : List Stmt} {np pos' : Pos} {hds : List ExceptHandler} {l : List Cls3}
      (hi : X.N[i]? = some n) (hln : X.env.kindOf n = some .local) (hc : Names X x c)
      (hsu : ∀ (a : Addr) (oe : Obj) (cls : Value) (d : Option Addr) (pn : List (Addr × Obj)), Zn cls d oe → (∃ vs, oe.data = .fields vs) → PSs (X.suite a ((a, oe) :: pn)) (b₀ :: suite) (ts a cls d)) (r : HdsMn X hds l) :
      HdsMn X (.ExceptHandler (some (.Name x np)) (some n) (b₀ :: suite) pos' :: hds) ((c, some i, ts) :: l)
  | conz {x : Str} {c : Value} {ts : Addr → Value → Option Addr → TS} {b₀ : Stmt} {suite : List Stmt} {np pos' : Pos} {hds : List ExceptHandler} {l : List Cls3}
      (hc : Names X x c)
      (hsu : ∀ (a : Addr) (oe : Obj) (cls : Value) (d : Option Addr) (pn : List (Addr × Obj)), Zn cls d oe → (∃ vs, oe.data = .fields vs) → PSs (X.suite a ((a, oe) :: pn)) (b₀ :: suite) (ts a cls d)) (r : HdsMn X hds l) :
      HdsMn X (.ExceptHandler (some (.Name x np)) none (b₀ :: suite) pos' :: hds) ((c, none, ts) :: l)
section
variable {X : Cx} {body : List Stmt} {h₀ : ExceptHandler} {hds : List ExceptHandler} {l : List Cls3} {pos : Pos} {tb : WX → TS} {Wout : WX}
theorem ps_try_mn (hs : X.stack = X.env :: X.outer) (hf : X.env.frame = some X.env.locals) (hN : X.N.Nodup) (tk : L2N.Takes X Wout)
    (hb : ∀ (W : WX) (pn : List (Addr × Obj)) (xe : Value → Shared → Prop), L2N.Takes (X.tr pn xe) W → PassesOwn (model X.prog X.w) X.A X.env xe → PSs (X.tr pn xe) body (tb W))
    (hh : HdsMn X (h₀ :: hds) l) : PS X (.Try body (h₀ :: hds) [] [] pos) (fun D σ H => tb (wMx X.K Wout D l) D σ H) := by
  refine ⟨fun pq s σ H D I h => ?_⟩
  have ok0 := I.ok
  have hfm : X.A.frames = some (X.env :: X.outer) := by rw [ok0.frames, hs]
  refine wpAny_Try_except ?_
  refine wpAny_mono ((hb (wMx X.K Wout D l) (X.pn ++ pq) (fun e s₁ => wpAny (model X.prog X.w) X.A (noteFrame e X.env) (fun _ s₂ => wpAny (model X.prog X.w) X.A (setFlight e none) (fun _ s₃ =>
    wpAny (model X.prog X.w) X.A (handleBy e X.env (h₀ :: hds)) (SP X pq D) X.xe s₃) X.xe s₂) X.xe s₁) (fun u s' zz => ?_) PassesOwn.looking).run [] s σ H D (I.toTry _) h) (fun f s1 sp => ?_) (fun e s1 he => he)
  · obtain ⟨a, B, si, pq', σ', H', cls, d, rfl, J', nb, up, sky, na, os, ag, w⟩ := zz
    have J : Inv X pq σ' H' si := J'.ofTry ok0
    have sky2 : Sky B (X.env :: X.outer) a (Zn cls d) X.env.locals s'.heap := by rw [← hs]; exact sky
    show wpAny (model X.prog X.w) X.A (noteFrame (.ref a) X.env) _ _ _
    refine L2N.Sky.land Zn.steady hfm hf sky2 fun h3 f3 u3 => ?_
    have Y3 : Inv X pq σ' H' { s' with heap := h3 } := J.landed nb f3.1 (up.trans u3) os ag
    obtain ⟨o3, v3, m3, z3, d3⟩ := f3.there
    have nofr : ∀ {h : Heap} {o : Obj} {vs : Array Value}, h.FunFrames B (X.env :: X.outer) → h.get? a = some o → o.data = .fields vs → a ∉ frs (X.env :: X.outer) := fun {h o vs} ff e dd hm => by
      obtain ⟨_, o', e', hnf⟩ := ff.mem hm
      rw [e] at e'; cases e'
      exact hnf _ dd
    have nfm := nofr f3.2.2.1 m3 d3
    have nlo : a ≠ X.env.locals := fun z => nfm (List.mem_filterMap.mpr ⟨X.env, List.mem_cons_self, by rw [hf, z]⟩)
    have nfo : a ∉ X.fs := fun hm => by
      obtain ⟨e, he, q⟩ := List.mem_filterMap.mp hm
      exact nfm (List.mem_filterMap.mpr ⟨e, List.mem_cons_of_mem _ he, q⟩)
    have T3 := Y3.suite m3 d3 na nlo nfo
    have lt : PySem.W.Looks (model X.prog X.w) h3 (typeOf (.ref a)) cls := fun A Q E s k q => wpAny_typeOf_ref (k _ _ m3) (by rw [z3.1]; exact q)
    have tst : ∀ {x : Str} {np : Pos} {c : Value} {Q : Value → Shared → Prop} {E : Value → Shared → Prop}, Names X x c → Q c { s' with heap := h3 } → wpAny (model X.prog X.w) (X.A.mark (some (.ref a))) (eval (.Name x np) X.env) Q E { s' with heap := h3 } := fun {x np c Q E} hc q => by
      obtain ⟨hg, hdd, hm | ⟨hm, hv, h0⟩⟩ := hc
      · exact ld_glob (X := X.suite a ((a, o3) :: (X.pn ++ pq))) T3 hg hm q hdd
      · exact ld_blt (X := X.suite a ((a, o3) :: (X.pn ++ pq))) T3 hg hm hv q h0 hdd
    have run_ : ∀ {hds' : List ExceptHandler} {l' : List Cls3}, HdsMn X hds' l' → wMx X.K Wout D l' cls d σ' H' →
        wpAny (model X.prog X.w) X.A (handleBy (.ref a) X.env hds') (SP X pq D) X.xe { s' with heap := h3 } := by
      intro hds' l' hk
      induction hk with
      | nil =>
        intro w
        refine wpAny_handleBy_nil ?_
        obtain ⟨k1, k2, k3, oz, vs, T, oT, ts', he, hz, hd, h1, hr⟩ := id f3
        unfold PySem.passOn
        refine wpAny_bind (wpAny_field he hd h1 ?_)
        rw [if_neg (show ¬ ((Value.ref T == Value.none) = true) from by simp)]
        have thr : wpAny (model X.prog X.w) X.A (setFlight (.ref a) X.env.frame) (fun _ s4 => wpAny (model X.prog X.w) X.A (throw (.ref a) : Sem Flow) (SP X pq D) X.xe s4) X.xe { s' with heap := h3 } := by
          rw [hf]
          refine HandSPX.setFlight_upZ f3 fun h4 hq4 u4 => wpAny_throw (tk _ _ ?_)
          exact ⟨a, B, si, pq, σ', H', cls, d, rfl, J, nb, (up.trans u3).trans u4, .inr (.inr (by rw [hs]; exact hq4)), na, os, ag, w⟩
        first
          | exact wpAny_bind (wpAny_pure (wpAny_bind thr))
          | exact wpAny_bind thr
      | @cons x n c i ts b₀ suite np pos' hds2 l2 hi hln hc hsu r ih =>
        intro w
        have hloc : Loc X.env.scope n := .inl hln
        have w' : wAs X.K c i ts (wMx X.K Wout D l2) D cls d σ' H' := w
        obtain ⟨b, hx, hy, hn⟩ := w'
        refine wpAny_handleBy_cons (codeAny_handlers_test ?_) (by intro q; cases q)
        have lm := PySem.W.exm_one (M := model X.prog X.w) (Y3.kIn) lt hx
        refine tst hc (lm.here ?_)
        cases b with
        | true =>
          refine codeAny_handlers_suite_as ?_
          refine HandSPX.lands_againZ f3 fun h4 f4 u4 => ?_
          have Y4 : Inv X pq σ' H' { s' with heap := h4 } := J.landed nb f4.1 ((up.trans u3).trans u4) os ag
          obtain ⟨o4, v4, m4, z4, d4⟩ := f4.there
          have T4 := Y4.suite m4 d4 na nlo nfo
          refine store_ok (X := X.suite a ((a, o4) :: (X.pn ++ pq))) (v := .ref a) T4 hN hi hloc rfl (fun s5 T5 => ?_) (.inr hln)
          refine wpAny_mono ((hsu a o4 cls d (X.pn ++ pq) z4 ⟨_, d4⟩).run [] s5 _ H' _ T5 (hy rfl a na)) (fun f s6 sp => ?_) (fun _ _ z => False.elim z)
          have end_ : ∀ {σ6 : L2.St} {H6 : Hp} {Q : Shared → Prop}, Inv (X.suite a ((a, o4) :: (X.pn ++ pq))) [] σ6 H6 s6 → (∀ s7, Inv X pq (σ6.set i none) H6 s7 → Q s7) →
              wpAny (model X.prog X.w) X.A (do bindName X.env n .none; unbindBehindTheSuite X.env n pos') (fun _ s7 => Q s7) X.xe s6 := fun {σ6 H6 Q} T6 hq => gone_ok (T6.unsuite ok0) hN hi hln hq
          cases f with
          | next =>
            obtain ⟨σ6, H6, T6, w6⟩ := sp
            exact end_ T6 fun s7 Y7 => ⟨_, _, Y7, w6⟩
          | brk =>
            obtain ⟨σ6, H6, T6, w6⟩ := sp
            exact end_ T6 fun s7 Y7 => ⟨_, _, Y7, w6⟩
          | cont =>
            obtain ⟨σ6, H6, T6, w6⟩ := sp
            exact end_ T6 fun s7 Y7 => ⟨_, _, Y7, w6⟩
          | ret u =>
            obtain ⟨x6, σ6, H6, T6, y6, w6⟩ := sp
            exact end_ T6 fun s7 Y7 => ⟨_, _, _, Y7, y6, w6⟩
        | false =>
          show wpAny _ X.A (handleBy (.ref a) X.env hds2) _ _ _
          exact ih (hn rfl)
      | @conz x c ts b₀ suite np pos' hds2 l2 hc hsu r ih =>
        intro w
        have w' : wOnly X.K c ts (wMx X.K Wout D l2) D cls d σ' H' := w
        obtain ⟨b, hx, hy, hn⟩ := w'
        refine wpAny_handleBy_cons (codeAny_handlers_test ?_) (by intro q; cases q)
        have lm := PySem.W.exm_one (M := model X.prog X.w) (Y3.kIn) lt hx
        refine tst hc (lm.here ?_)
        cases b with
        | true =>
          refine codeAny_handlers_suite ?_
          refine HandSPX.lands_againZ f3 fun h4 f4 u4 => ?_
          have Y4 : Inv X pq σ' H' { s' with heap := h4 } := J.landed nb f4.1 ((up.trans u3).trans u4) os ag
          obtain ⟨o4, v4, m4, z4, d4⟩ := f4.there
          have T4 := Y4.suite m4 d4 na nlo nfo
          refine wpAny_mono ((hsu a o4 cls d (X.pn ++ pq) z4 ⟨_, d4⟩).run [] _ _ H' _ T4 (hy rfl a na)) (fun f s6 sp => ?_) (fun _ _ z => False.elim z)
          cases f <;> first
            | (obtain ⟨σ6, H6, T6, w6⟩ := sp; exact ⟨_, _, T6.unsuite ok0, w6⟩)
            | (obtain ⟨x6, σ6, H6, T6, y6, w6⟩ := sp; exact ⟨_, _, _, T6.unsuite ok0, y6, w6⟩)
        | false =>
          show wpAny _ X.A (handleBy (.ref a) X.env hds2) _ _ _
          exact ih (hn rfl)
    exact run_ hh w
  · cases f with
    | next =>
      obtain ⟨σ', H', J', q⟩ := sp
      exact wpAny_execs_nil ⟨σ', H', J'.ofTry ok0, q⟩
    | brk =>
      obtain ⟨σ', H', J', q⟩ := sp
      exact ⟨σ', H', J'.ofTry ok0, q⟩
    | cont =>
      obtain ⟨σ', H', J', q⟩ := sp
      exact ⟨σ', H', J'.ofTry ok0, q⟩
    | ret u =>
      obtain ⟨v, σ', H', J', r, q⟩ := sp
      exact ⟨v, σ', H', J'.ofTry ok0, r, q⟩
end
end QN
set_option maxHeartbeats 4000000
namespace QN
open PySem PySem.Spec PyProof.Rows L2 HotX L2H
theorem list_end_hot {prog : Program} {w : World} {A : Around} {E : Value → Shared → Prop} {s : Shared} {it l x1 : Addr} {i : Nat} {xs : Array Value} {Q : Option Value → Shared → Prop} (hot : HotAt A x1 s.heap) (li : s.heap.IsListIter it l i) (ll : s.heap.IsList l xs) (no : xs[i]? = none)
    (hQ : ∀ h', (∀ b o, b ≠ it → s.heap.get? b = some o → h'.get? b = some o) → Q none { s with heap := h' }) (hx : x1 ≠ it) : wpAny (model prog w) A (pyNext (.ref it)) Q E s := by
  obtain ⟨o, ho, hc, hd⟩ := id li
  obtain ⟨ol, hol, _, nl, hdl⟩ := ll
  obtain ⟨ha, o1, v1, g1, d1, c1⟩ := hot
  unfold pyNext
  refine wpAny_bind (wpAny_attempt (wpAny_callSpecial?_slot (name := Str.ofString "__next__") li.typeIs slot_listiter_next (wpAny_call_entry slot_listiter_next li.typeIs entry_listiter_next ?_ (args_listiter_next _))))
  show wpAny _ _ (field (.ref it) 0 >>= _) _ _ s
  refine wpAny_bind (wpAny_field ho hd (x := .ref l) rfl ?_)
  show wpAny _ _ (if (Value.ref l == Value.none) = true then _ else _) _ _ s
  rw [if_neg (show ¬ ((Value.ref l == Value.none) = true) from Bool.false_ne_true)]
  show wpAny _ _ (field (.ref it) 1 >>= _) _ _ s
  refine wpAny_bind (wpAny_field ho hd (x := .int i 0) rfl ?_)
  show wpAny _ _ (seqItems? (.ref l) >>= _) _ _ s
  refine wpAny_bind (wpAny_seqItems hol hdl ?_)
  simp only [Int.toNat_natCast, no]
  refine wpAny_bind (wpAny_rule (wpAny_bind (wpAny_setField ho hd (by simp) ?_)))
  show wpAny _ _ (newExc (.type "StopIteration") [] >>= _) _ _ _
  refine wpAny_bind ?_
  simp only [newExc, newTuple]
  refine wpAny_bind (wpAny_newObj_type ?_ (by size_fits))
  refine wpAny_bind (m := firstArgMember _ _) (wpAny_of_eq (a := Value.none) (by first | rfl | (simp only [firstArgMember]; rfl)) ?_)
  refine wpAny_newObj_type ?_ (by size_fits)
  have k0 : ∀ b u, b ≠ it → s.heap.get? b = some u → (s.heap.update it (Obj.mapFields (·.setIfInBounds 0 .none))).get? b = some u := fun b u nb e => (Heap.get?_update_other _ _ (Ne.symm nb)).trans e
  have g2 := k0 _ _ hx g1
  refine raiseNew_hot ⟨ha, o1, v1, Heap.get?_push_of_some _ (Heap.get?_push_of_some _ g2), d1, c1⟩ (Nat.ne_of_lt (Heap.lt_size (Heap.get?_push_of_some _ g2))) (Heap.get?_push_size _ rfl) rfl (by first | (simp; done) | (simp; omega) | (simp only [Array.size_append]; simp; omega)) ?_
  refine wpAny_bind (wpAny_isInstance (T := "StopIteration") (b := true) ⟨_, Heap.get?_update_self _ (Heap.get?_push_size _ rfl) rfl, rfl⟩ isSubtype_stop ?_)
  refine wpAny_pure (hQ _ fun b u nb e => ?_)
  have e2 := k0 b u nb e
  rw [Heap.get?_update_other _ _ (Nat.ne_of_gt (Heap.lt_size (Heap.get?_push_of_some _ e2)))]
  exact Heap.get?_push_of_some _ (Heap.get?_push_of_some _ e2)
structure TurnZ (P : Program) (w : World) (K : PySem.W.Frag) (tg : Expr) (J : It) (fp : List Addr) (it : Addr) (tn : Nat → Heap → Prop) : Prop where
  mem : it ∈ fp
  obj : ∀ i h, tn i h → ∀ b ∈ fp, ∃ o, h.get? b = some o ∧ ∀ v, o.data ≠ .cell v
  keep : ∀ i h h', tn i h → (∀ b ∈ fp, ∀ o, h.get? b = some o → h'.get? b = some o) → tn i h'
  item : ∀ (X : Cx), X.prog = P → X.w = w → X.K = K → ∀ (i : Nat) (pins : List (Addr × Obj)) (s : Shared) (σ : L2.St) (H : Hp) (E : Value → Shared → Prop), Inv X pins σ H s → (∀ b ∈ fp, FpOk X pins H b) → tn i s.heap → J.go i H →
    wpAny (model P w) X.A (pyNext (.ref it)) (fun r s1 => ∃ u, r = some u ∧
      wpAny (model P w) X.A (letOwnedTupleGo tg (.ref it) u) (fun _ s2 => ∃ x H', Inv X pins σ H' s2 ∧ RelV x u ∧ J.yld i H x H' ∧ tn (i + 1) s2.heap ∧ ∀ b ∈ fp, H' b = none) E s1) E s
  done : ∀ (X : Cx), X.prog = P → X.w = w → X.K = K → ∀ (i : Nat) (pins : List (Addr × Obj)) (s : Shared) (σ : L2.St) (H : Hp) (E : Value → Shared → Prop), (∃ x1, HotAt X.A x1 s.heap ∧ ∀ b ∈ fp, x1 ≠ b) → Inv X pins σ H s → (∀ b ∈ fp, FpOk X pins H b) → tn i s.heap → J.stop i H →
    wpAny (model P w) X.A (pyNext (.ref it)) (fun r s1 => r = none ∧ Inv X pins σ H s1) E s
  self : ∀ (A : Around) (i : Nat) (s : Shared) (Q : Value → Shared → Prop) (E : Value → Shared → Prop), tn i s.heap → Q (.ref it) s → wpAny (model P w) A (pyIter (.ref it)) Q E s
theorem turn_listZ {P : Program} {w : World} {K : PySem.W.Frag} {tg : Expr} (a it : Addr) : TurnZ P w K tg (Itl K a) [it] it (fun i h => h.IsListIter it a i) where
  mem := List.mem_singleton.mpr rfl
  obj := fun i h st b hb => by
    obtain rfl := List.mem_singleton.mp hb
    obtain ⟨o, e, _, d⟩ := st
    exact ⟨o, e, fun v z => by rw [d] at z; cases z⟩
  keep := fun i h h' st k => st.at fun o e => k it (List.mem_singleton.mpr rfl) o e
  item := by
    intro X hP hw hK i pq s σ H E I hf st hg
    subst hP hw hK
    obtain ⟨xs, x, hq, ex⟩ := hg
    obtain ⟨its, rv, p, _⟩ := I.list hq
    obtain ⟨u, hu, ru⟩ := rv.get ex
    obtain ⟨f0, f1, f2, f3, f4, f5⟩ := hf it (List.mem_singleton.mpr rfl)
    refine wpAny_pyNext_list_item st p.isList (x := u) (by simpa using hu) fun h' st' sb => ?_
    have I1 : Inv X pq σ H { s with heap := h' } := I.turned (t' := s.toks) (fun b o hb e => (sb.2 b hb).trans e) f0 f1 f3 f4 f5
    obtain ⟨o, e, c, d⟩ := id st'
    exact ⟨u, rfl, go_of (s := { s with heap := h' }) e c d (by decide) ⟨x, H, I1, ru, ⟨rfl, fun ys hy => by rw [I.list_inj hy hq]; exact ex⟩, st', fun b hb => (hf b hb).1⟩⟩
  done := by
    intro X hP hw hK i pq s σ H E hot I hf st hg
    subst hP hw hK
    obtain ⟨x1, ht, nx⟩ := hot
    obtain ⟨xs, hq, le⟩ := hg
    obtain ⟨its, rv, p, _⟩ := I.list hq
    obtain ⟨f0, f1, f2, f3, f4, f5⟩ := hf it (List.mem_singleton.mpr rfl)
    have hl := rv.length
    exact list_end_hot ht st p.isList (by simp; omega) (fun h' eb => ⟨rfl, I.turned (t' := s.toks) (fun b o hb e => eb b o hb e) f0 f1 f3 f4 f5⟩) (nx it (List.mem_singleton.mpr rfl))
  self := fun _ _ _ _ _ st h => wpAny_pyIter_listiter st h
def PIEZ (X : Cx) (pins : List (Addr × Obj)) (σ : L2.St) (tg : Expr) (R : It → Hp → Prop) (itv : Value) (s2 : Shared) : Prop :=
  ∃ (it : Addr) (fp : List Addr) (tn : Nat → Heap → Prop) (J : It) (H' : Hp), itv = .ref it ∧ Inv X pins σ H' s2 ∧ TurnZ X.prog X.w X.K tg J fp it tn ∧ tn 0 s2.heap ∧ (∀ b ∈ fp, FpOk X pins H' b) ∧ R J H'
structure PIZ (X : Cx) (tg iter : Expr) (wi : TI) : Prop where
  run : ∀ (pins : List (Addr × Obj)) (s : Shared) (σ : L2.St) (H : Hp) (R : It → Hp → Prop), Inv X pins σ H s → wi σ H R →
    wpAny (model X.prog X.w) X.A (eval iter X.env) (fun v s1 => wpAny (model X.prog X.w) X.A (pyIter v) (PIEZ X pins σ tg R) X.xe s1) X.xe s
theorem pi_listZ {X : Cx} {tg l : Expr} {tl : TE} (hl : PE X l tl) : PIZ X tg l (iList X.K tl) := by
  refine ⟨fun pq s σ H R I h => ?_⟩
  refine thn (hl.run pq s σ H _ I h) fun v s1 ⟨x, H1, I1, r1, q1⟩ => ?_
  obtain ⟨a, rfl, ⟨xs, hq⟩, q⟩ := q1
  cases r1
  obtain ⟨its, rv, p, _⟩ := I1.list hq
  refine wpAny_pyIter_list p.isList ?_
  refine ⟨s1.heap.objs.size, [s1.heap.objs.size], _, _, H1, rfl, I1.kept (t' := s1.toks) fun b o e => Heap.get?_push_of_some _ e, turn_listZ a _, ⟨_, Heap.get?_push_size _ rfl, rfl, rfl⟩, fun b hb => ?_, q⟩
  obtain rfl := List.mem_singleton.mp hb
  exact I1.fpOk (Nat.le_refl _) (I1.hok.fresh (Nat.le_refl _))
section
variable {X : Cx}
theorem lc_coreZ {pins : List (Addr × Obj)} {s : Shared} {σ : L2.St} {H : Hp} {Q : VK} {elt tg iter : Expr} {ifs : List Expr} {scope : Scope} {own : List (Str × Nat)} {pos pos' : Pos} {wi : TI} {g : TG} {tt : TT} {te : TE} {use : Option (Value → Sem Unit)} {Qf : Value → Shared → Prop}
    (hc : HotC X) (hN : X.N.Nodup) (I : Inv X pins σ H s) (hi : PIZ X tg iter wi) (ok : BlkOk X.N X.env.scope scope own)
    (hg : ∀ (s : Shared) (H : Hp) (C : Addr) (cl : List (Str × Addr)) (fp : List Addr), PG (X.blk s H scope (compEnvC scope cl C X.env) fp) tg g) (ht : ∀ (s : Shared) (H : Hp) (C : Addr) (cl : List (Str × Addr)) (fp : List Addr), PTs (X.blk s H scope (compEnvC scope cl C X.env) fp) ifs tt)
    (he : ∀ (s : Shared) (H : Hp) (C : Addr) (cl : List (Str × Addr)) (fp : List Addr), PE (X.blk s H scope (compEnvC scope cl C X.env) fp) elt te) (hs : ∀ x, foldedSetIterable iter X.env x = pure x)
    (h : tLc wi g tt te (own.map (·.2)) σ H Q)
    (hRR : ∀ D C s' m H', Inv X pins σ H' s' → Q (.ref D) H' → s'.heap.Ns C m → FpOk X pins H' C → compPost (model X.prog X.w) X.A X.xe use Qf (.ref D) C (.ok .next) s') :
    wpAny (model X.prog X.w) X.A (comprehension (.ListComp elt [⟨tg, iter, ifs, 0⟩] scope pos) scope X.env pos' (newList []) false (eval iter X.env) use) Qf X.xe s := by
  have fr : ∀ y ∈ scope.names, y.2 = .free → ∃ c, X.env.cells.lookup y.1 = some c := fun y hy e => by
    rcases ok.free y hy e with k | k
    · exact I.ok.has _ (.inl k)
    · exact I.ok.has _ (.inr k)
  refine wpAny_comprehension_free (use := use) rfl hs (closure_ok fr) ok.kind (fun y hy e => by rw [ok.uniq y hy, e])
    (thn (hi.run pins s σ H _ I h) fun xv sa xa => thn xa fun itv sb xb => ?_)
  obtain ⟨it, fp, tn, J, H2, e, I2, T, a2, z2, q⟩ := xb
  subst e
  refine wpAny_newObj_type (newEnv_comp ?_) (by show 0 ≤ sizeLine; decide)
  generalize eD : sb.heap.objs.size = D
  have nD : H2 D = none := I2.hok.fresh (Nat.le_of_eq eD)
  obtain ⟨W, ⟨k0, u0⟩, trn⟩ := q D nD
  generalize e3 : ({ sb with heap := sb.heap.push { cls := .type "list", data := .seq ([] : List Value).toArray } } : Shared) = s3
  have I3 : Inv X pins σ (upd H2 D (.lst [])) s3 := by
    rw [← e3]
    refine I2.laid (t' := sb.toks) (fun b o e => Heap.get?_push_of_some _ e) (Nat.le_of_eq eD) ⟨Nat.zero_le _, [], 0, .nil, ?_⟩
    rw [← eD]
    exact Heap.get?_push_size _ rfl
  have p3 : s3.heap = sb.heap.push { cls := .type "list", data := .seq ([] : List Value).toArray } := by rw [← e3]
  have ltz : ∀ b ∈ fp, b < sb.heap.objs.size := fun b hb => by
    obtain ⟨o, e, _⟩ := T.obj _ _ a2 b hb
    exact Heap.lt_size e
  have z3 : ∀ b ∈ fp, FpOk X pins (upd H2 D (.lst [])) b ∧ b < s3.heap.objs.size := fun b hb => by
    have hlt := ltz b hb
    refine ⟨⟨?_, (z2 b hb).2⟩, by rw [p3, Heap.size_push]; exact Nat.lt_succ_of_lt hlt⟩
    rw [upd_ne (by rw [← eD]; exact Nat.ne_of_lt hlt)]
    exact (z2 b hb).1
  have a3 : tn 0 s3.heap := T.keep _ _ _ a2 fun b _ o e => by rw [p3]; exact Heap.get?_push_of_some _ e
  have I4 := block_start I3 ok hN z3
  have qg := hg s3 (upd H2 D (.lst [])) s3.heap.objs.size (cellsFrom (s3.heap.objs.size + 1) scope.names (cloFrom X.env.cells scope.names [])) fp
  have qt := ht s3 (upd H2 D (.lst [])) s3.heap.objs.size (cellsFrom (s3.heap.objs.size + 1) scope.names (cloFrom X.env.cells scope.names [])) fp
  have pe := he s3 (upd H2 D (.lst [])) s3.heap.objs.size (cellsFrom (s3.heap.objs.size + 1) scope.names (cloFrom X.env.cells scope.names [])) fp
  show codeAny _ _ (.compStart (.ListComp elt [⟨tg, iter, ifs, 0⟩] scope pos) 0 (.ref it) (.ref D) (compEnvC scope (cellsFrom (s3.heap.objs.size + 1) scope.names (cloFrom X.env.cells scope.names [])) s3.heap.objs.size X.env)) (compPost (model X.prog X.w) X.A X.xe use Qf (.ref D) s3.heap.objs.size) { s3 with heap := pushCells (s3.heap.push { cls := .type "dict", data := .dict #[] }) scope.names }
  have no3 : ∀ b ∈ fp, (upd H2 D (.lst [])) b = none := fun b hb => (z3 b hb).1.1
  generalize ec : compEnvC scope (cellsFrom (s3.heap.objs.size + 1) scope.names (cloFrom X.env.cells scope.names [])) s3.heap.objs.size X.env = ce at I4 qg qt pe ⊢
  have lc : ce.locals = s3.heap.objs.size := by subst ec; rfl
  generalize eH : upd H2 D (.lst []) = H3 at I3 I4 qg qt pe u0 no3 z3
  generalize e4 : ({ s3 with heap := pushCells (s3.heap.push { cls := .type "dict", data := .dict #[] }) scope.names } : Shared) = s4 at I4 ⊢
  have a4 : tn 0 s4.heap := T.keep _ _ _ a3 fun b _ o e => by rw [← e4]; exact pushCells_keeps _ _ _ _ (Heap.get?_push_of_some _ e)
  have foot : ∀ {σ' : L2.St} {H' : Hp} {s' : Shared}, Inv (X.blk s3 H3 scope ce fp) [] σ' H' s' → (∀ b ∈ fp, H' b = none) → ∀ b ∈ fp, FpOk (X.blk s3 H3 scope ce fp) [] H' b := fun {σ' H' s'} I' en b hb =>
    ⟨en b hb, (I'.ok.exf b hb).1, I'.ok.exfs b hb, .inl hb, fun x c e => (I'.ok.exf b hb).2 x c e, fun p hp => absurd (show p ∈ ([] : List (Addr × Obj)) ++ [] from hp) (by simp)⟩
  have loop : codeAny (model X.prog X.w) X.A (.compLoop (.ListComp elt [⟨tg, iter, ifs, 0⟩] scope pos) 0 (.ref it) (.ref D) ce) (compPost (model X.prog X.w) X.A X.xe use Qf (.ref D) s3.heap.objs.size) s4 := by
    refine compLoop_any (fun n s' => ∃ i H', Inv (X.blk s3 H3 scope ce fp) [] (wipe σ (own.map (·.2))) H' s' ∧ tn i s'.heap ∧ (∀ b ∈ fp, H' b = none) ∧ W i n H') ?_ k0 ⟨0, H3, I4, a4, no3, u0⟩
    rintro n s5 ⟨i, H5, I5, a5, n5, w5⟩
    rcases trn i n H5 w5 with ⟨stop, q0⟩ | ⟨go, Nx, hNx, step⟩
    · have hotz : Inv X pins σ H5 s5 → ∃ x1, HotAt (X.blk s3 H3 scope ce fp).A x1 s5.heap ∧ ∀ b ∈ fp, x1 ≠ b := fun I' => by
        obtain ⟨p, ⟨hh, v1, g1, c1⟩, hp⟩ := hc
        have hpin := I'.pin p (List.mem_append_left _ hp)
        exact ⟨p.1, ⟨hh, p.2, v1, hpin.1, g1, c1⟩, fun b hb => (z3 b hb).1.2.2.2.2.2 p (List.mem_append_left _ hp)⟩
      have I5z : Inv X pins σ H5 s5 := I3.call' (ch := fp) I5.os I5.base I5.hok I5.bare fun b hb => ⟨(z3 b hb).1.2.2.2.1, (z3 b hb).1.2.1, (z3 b hb).1.2.2.2.2.1, (z3 b hb).1.2.2.2.2.2⟩
      have dn := T.done (X.blk s3 H3 scope ce fp) rfl rfl rfl i [] s5 _ H5 (fun _ _ => False) (hotz I5z) I5 (foot I5 n5) a5 stop
      refine thnF dn fun r s6 ⟨hr, I6⟩ => ?_
      subst hr
      have I7 : Inv X pins σ H5 s6 := I3.call' (ch := fp) I6.os I6.base I6.hok I6.bare fun b hb => ⟨(z3 b hb).1.2.2.2.1, (z3 b hb).1.2.1, (z3 b hb).1.2.2.2.2.1, (z3 b hb).1.2.2.2.2.2⟩
      have nn : H5 s3.heap.objs.size = none := by
        have z : H5 ce.locals = none := I6.free
        rw [lc] at z
        exact z
      obtain ⟨m, en, _⟩ := I6.loc
      have en : s6.heap.Ns ce.locals m := en
      rw [lc] at en
      exact hRR D s3.heap.objs.size s6 m H5 I7 q0 en (I3.fpOk (Nat.le_refl _) nn)
    · have itm := T.item (X.blk s3 H3 scope ce fp) rfl rfl rfl i [] s5 _ H5 (fun _ _ => False) I5 (foot I5 n5) a5 go
      refine thnF itm fun r s6 ⟨u, hr, h6⟩ => ?_
      subst hr
      refine thnF h6 fun _ s7 ⟨x, H7, I7, r7, y7, a7, n7⟩ => ?_
      have J7 := I7.pinned (foot I7 n7) (T.obj _ _ a7)
      refine thnF (qg.run _ s7 _ H7 x u _ J7 r7 (step x H7 y7)) fun _ s8 ⟨σ8, H8, I8, hw8, q8⟩ => ?_
      refine thnF (qt.run _ s8 σ8 H8 _ I8 q8) fun b s9 ⟨H9, I9, q9⟩ => ?_
      have nxt : ∀ {s' : Shared} {H' : Hp}, Inv (X.blk s3 H3 scope ce fp) ([] ++ pinsAt fp s7.heap) σ8 H' s' → Nx H' → ∃ m, m < n ∧ ∃ i H', Inv (X.blk s3 H3 scope ce fp) [] (wipe σ (own.map (·.2))) H' s' ∧ tn i s'.heap ∧ (∀ b ∈ fp, H' b = none) ∧ W i m H' := fun {s' H'} I' nx => by
        obtain ⟨m', hm, w'⟩ := hNx H' nx
        have held : ∀ b ∈ fp, ∀ o, s7.heap.get? b = some o → s'.heap.get? b = some o ∧ H' b = none := fun b hb o e =>
          let z := I'.pin (b, o) (List.mem_append_right _ (List.mem_append_right _ (mem_pinsAt hb e)))
          ⟨z.1, z.2.1⟩
        have ll : (wipe σ (own.map (·.2))).length = σ8.length := by rw [← hw8, wipe_length]
        refine ⟨m', hm, i + 1, H', (I'.unpinned (pins := [])).weak ll (fun j v e => ?_), T.keep _ _ _ a7 fun b hb o e => (held b hb o e).1, fun b hb => ?_, w'⟩
        · rw [← hw8] at e
          exact (wipe_some e).1
        · obtain ⟨o, e, _⟩ := T.obj _ _ a7 b hb
          exact (held b hb o e).2
      cases b with
      | false =>
        simp only [Bool.false_eq_true, if_false] at q9 ⊢
        exact nxt I9 q9
      | true =>
        simp only [if_true] at q9 ⊢
        refine thnF (pe.run _ s9 σ8 H9 _ I9 q9) fun z s10 ⟨yv, H10, I10, r10, acc, hD10, hz10, nx⟩ => ?_
        exact app_ok (X := X.blk s3 H3 scope ce fp) I10 hD10 hz10 r10 fun s11 I11 => nxt I11 nx
  exact codeAny_compStart_list loop (T.self X.A 0 _ _ _ a4 loop)
theorem pe_lcZ {elt tg iter : Expr} {ifs : List Expr} {scope : Scope} {own : List (Str × Nat)} {pos : Pos} {wi : TI} {g : TG} {tt : TT} {te : TE} (hc : HotC X) (hN : X.N.Nodup) (hi : PIZ X tg iter wi) (ok : BlkOk X.N X.env.scope scope own)
    (hg : ∀ (s : Shared) (H : Hp) (C : Addr) (cl : List (Str × Addr)) (fp : List Addr), PG (X.blk s H scope (compEnvC scope cl C X.env) fp) tg g) (ht : ∀ (s : Shared) (H : Hp) (C : Addr) (cl : List (Str × Addr)) (fp : List Addr), PTs (X.blk s H scope (compEnvC scope cl C X.env) fp) ifs tt)
    (he : ∀ (s : Shared) (H : Hp) (C : Addr) (cl : List (Str × Addr)) (fp : List Addr), PE (X.blk s H scope (compEnvC scope cl C X.env) fp) elt te) (hs : ∀ x, foldedSetIterable iter X.env x = pure x := by intro _; rfl) :
    PE X (.ListComp elt [⟨tg, iter, ifs, 0⟩] scope pos) (tLc wi g tt te (own.map (·.2))) := by
  refine ⟨fun pins s σ H Q I h => ?_⟩
  rw [eval_ListComp]
  refine lc_coreZ hc hN I hi ok hg ht he hs h fun D C s' m H' I' q en f => ⟨m, en, fun h'' sb => ?_⟩
  obtain ⟨f0, f1, z2, z3, f4, f5⟩ := f
  exact ⟨.ref D, H', I'.turned (t' := s'.toks) (fun b o hb e => (sb.2 b hb).trans e) f0 f1 z3 f4 f5, rfl, q⟩
end
end QN
set_option maxHeartbeats 4000000
namespace L2
open PySem PySem.Spec PyProof.Rows
theorem Fun.okN {P : Program} {w : World} {K : PySem.W.Frag} {mg : Str → Option Value} {base : Heap} {x qual : Str} {st : Stmt} {f : Addr} {fd : FuncData} {N ps : List Str} {k : Nat} {sp : Sp} (Fn : Fun K x qual st f fd) (S : FnScope N ps (defScope st)) (len : ∀ vs H Q E, sp vs H Q E → vs.length = ps.length)
    (body : ∀ (cdv : Value) (A : Around) (outer : List Env) (s : Shared) (H : Hp) (vs : List V) (Q : VK) (E : XK), Room k (A.deeper (envOfC qual (defScope st) s.heap.objs.size f cdv)) → sp vs H Q E →
      ∃ t, PSs (cxOf (L2N.CX P w) P w K mg base N qual (defScope st) f cdv A outer s H E) (defBody st) t ∧ t { nx := fun _ H' => Q .non H', rt := Q } (start N vs) H) : FnOk P w K mg base (L2N.CX P w) (k + 1) f fd ps sp := by
  obtain ⟨c1, c2, c3, c4, c5, c6, c7, c8, c9, rfl, lk, hcd⟩ := Fn.ex
  exact fn_of lk hcd S len fun A outer s H vs Q E hr hsp => body c7 A outer s H vs Q E hr hsp
end L2
namespace QN
open PySem PySem.Spec PyProof.Rows L2
theorem pe_lcH {X : Cx} {elt tg iter : Expr} {ifs : List Expr} {scope : Scope} {own : List (Str × Nat)} {pos : Pos} {wi : TI} {g : TG} {tt : TT} {te : TE} (nd : X.N.Nodup) (hi : PIZ X tg iter wi) (ok : BlkOk X.N X.env.scope scope own)
    (pg : ∀ (s : Shared) (H : Hp) (C : Addr) (cl : List (Str × Addr)) (fp : List Addr), PG (X.blk s H scope (compEnvC scope cl C X.env) fp) tg g) (pt : ∀ (s : Shared) (H : Hp) (C : Addr) (cl : List (Str × Addr)) (fp : List Addr), PTs (X.blk s H scope (compEnvC scope cl C X.env) fp) ifs tt)
    (pe : ∀ (s : Shared) (H : Hp) (C : Addr) (cl : List (Str × Addr)) (fp : List Addr), PE (X.blk s H scope (compEnvC scope cl C X.env) fp) elt te) (hot : L2H.HotC X) (hs : ∀ x, foldedSetIterable iter X.env x = pure x := by intro _; rfl) :
    PE X (.ListComp elt [⟨tg, iter, ifs, 0⟩] scope pos) (tLc wi g tt te (own.map (·.2))) := pe_lcZ hot nd hi ok pg pt pe hs
end QN
namespace G
variable [TabL]
open PySem PySem.Spec PyProof.Rows L2
def tSuiN (X : Cx) (st : List Stmt) : Addr → Value → Option Addr → TS := fun a cls d D σ H => ∃ t : TS, (∀ (oe : Obj) (pn : List (Addr × Obj)), L2N.Zn cls d oe → (∃ vs, oe.data = .fields vs) → PSs (X.suite a ((a, oe) :: pn)) st t) ∧ t D σ H
def tBodN (X : Cx) (st : List Stmt) (W : WX) : TS := fun D σ H => ∃ t : TS, (∀ (pn : List (Addr × Obj)) (xe : Value → Shared → Prop), L2N.Takes (X.tr pn xe) W → PassesOwn (model X.prog X.w) X.A X.env xe → PSs (X.tr pn xe) st t) ∧ t D σ H
theorem takes0N {X : Cx} : L2N.Takes X (fun _ _ _ _ => False) := fun _ _ ⟨_, _, _, _, _, _, _, _, _, _, _, _, _, _, _, _, w⟩ => w.elim
theorem hotS {X : Cx} {p : Addr} {oe : Obj} {pn : List (Addr × Obj)} {cls : Value} {d : Option Addr} (hz : L2N.Zn cls d oe) (hf : ∃ vs, oe.data = .fields vs) : L2H.HotC (X.suite p ((p, oe) :: pn)) := by
  obtain ⟨vs, hv⟩ := hf
  exact ⟨(p, oe), ⟨rfl, vs, hv, hz.2.2 vs hv⟩, List.mem_cons_self⟩
theorem pi_listZK {X : Cx} {K : PySem.W.Frag} {tg l : Expr} {tl : TE} (hK : X.K = K) (hl : PE X l tl) : QN.PIZ X tg l (iList K tl) := by subst hK; exact QN.pi_listZ hl
inductive HdsYn (X : Cx) : List ExceptHandler → List (Value × Option Nat × List Stmt) → Prop
  | nil : HdsYn X [] []
  | cons {x n : Str} {c : Value} {i : Nat} {b₀ : Stmt} {suite : List Stmt} {np pos' : Pos} {hds : List ExceptHandler} {l : List (Value × Option Nat × List Stmt)}
      (hi : X.N[i]? = some n) (hln : X.env.kindOf n = some .local) (hc : Names X x c) (r : HdsYn X hds l) :
      HdsYn X (.ExceptHandler (some (.Name x np)) (some n) (b₀ :: suite) pos' :: hds) ((c, some i, b₀ :: suite) :: l)
  | conz {x : Str} {c : Value} {b₀ : Stmt} {suite : List Stmt} {np pos' : Pos} {hds : List ExceptHandler} {l : List (Value × Option Nat × List Stmt)}
      (hc : Names X x c) (r : HdsYn X hds l) :
      HdsYn X (.ExceptHandler (some (.Name x np)) none (b₀ :: suite) pos' :: hds) ((c, none, b₀ :: suite) :: l)
abbrev suiYn (X : Cx) (l : List (Value × Option Nat × List Stmt)) : List Cls3 := l.map fun x => (x.1, x.2.1, tSuiN X x.2.2)
theorem HdsYn.as {X : Cx} : ∀ {hds : List ExceptHandler} {l : List (Value × Option Nat × List Stmt)}, HdsYn X hds l → QN.HdsMn X hds (suiYn X l)
  | _, _, .nil => .nil
  | _, _, .cons hi hln hc r => .cons hi hln hc (fun a oe cls d pn hz hf' => ⟨fun pins s σ H D I ⟨t, ht, q⟩ => (ht oe pn hz hf').run pins s σ H D I q⟩) r.as
  | _, _, .conz hc r => .conz hc (fun a oe cls d pn hz hf' => ⟨fun pins s σ H D I ⟨t, ht, q⟩ => (ht oe pn hz hf').run pins s σ H D I q⟩) r.as
theorem ps_tryYn {X : Cx} {body : List Stmt} {h₀ : ExceptHandler} {hds : List ExceptHandler} {l : List (Value × Option Nat × List Stmt)} {pos : Pos} {Wout : WX} (hs : X.stack = X.env :: X.outer) (hf : X.env.frame = some X.env.locals) (hN : X.N.Nodup) (tk : L2N.Takes X Wout) (hh : HdsYn X (h₀ :: hds) l) :
    PS X (.Try body (h₀ :: hds) [] [] pos) (fun D σ H => tBodN X body (wMx X.K Wout D (suiYn X l)) D σ H) :=
  QN.ps_try_mn (tb := fun W => tBodN X body W) hs hf hN tk (fun W pn xe tk' po => ⟨fun pins s σ H D I ⟨t, ht, q⟩ => (ht pn xe tk' po).run pins s σ H D I q⟩) hh.as
section
variable {α ε : Type} {Γ : List Sl} {K : PySem.W.Frag} {w : Rw α} {C : Addr} {names : List Str} {R : ER ε} {A : Amb} {D : Ends} {u : TS} {i : Nat}
theorem sq_tryN {X : Cx} {st : List Stmt} {W : Ends → WX} {t : TS} (hb : ∀ (pn : List (Addr × Obj)) (xe : Value → Shared → Prop), L2N.Takes (X.tr pn xe) (W { D with nx := u D }) → PassesOwn (model X.prog X.w) X.A X.env xe → PSs (X.tr pn xe) st t)
    (h : Nx A (t { D with nx := u D }) Γ) : Nx A (tSeq (fun D σ H => tBodN X st (W D) D σ H) u D) Γ := fun σ H B F => ⟨t, hb, h σ H B F⟩
theorem nxe_asN {X : Cx} {st : List Stmt} {c : Value} {Wout : WX} {e : α} (hx : PySem.W.exmOne K (.ref C) c = some true)
    (k : ∀ (p : Addr) (d : Option Addr), ∃ t : TS, (∀ (oe : Obj) (pn : List (Addr × Obj)), L2N.Zn (.ref C) d oe → (∃ vs, oe.data = .fields vs) → PSs (X.suite p ((p, oe) :: pn)) st t) ∧
      Nx A (t { nx := fun σ' H' => D.nx (σ'.set i none) H', rt := D.rt, bk := fun σ' H' => D.bk (σ'.set i none) H', ct := fun σ' H' => D.ct (σ'.set i none) H' }) (Γ.set i (.imm (rExc p d C names w) e))) :
    NxE (wAs K c i (tSuiN X st) Wout D) A Γ (fun B cls d x => ErAt B cls d C names w x) e := fun cls d σ H B F he => by
  obtain ⟨rfl, h⟩ := id he
  refine ⟨true, hx, fun _ p hp => ?_, fun q => Bool.noConfusion q⟩
  obtain ⟨t, h1, h2⟩ := k p d
  exact ⟨t, h1, h2 _ _ _ (F.set ⟨rfl, he⟩)⟩
end
end G
set_option maxHeartbeats 4000000
namespace G
open PySem PySem.Spec PyProof.Rows L2 HandSPX
section
variable {X : Cx} {W : WX} {pins pins8 : List (Addr × Obj)} {σ σ8 : L2.St} {H H3 : Hp} {s s' s3 : Shared} {scope : Scope} {ce : Env} {fp : List Addr} {E0 : XK} {u : Value} {xe : Value → Shared → Prop}
def tDcX (W : WX) (wi : TI) (g : TG) (tt : TT) (tk : TE) (te : (L2.St → XK) → TE) (vs : List Nat) : TE := fun σ H Q => tDc wi g tt tk (te fun _ => WE W σ) vs σ H Q
end
section
variable [TabL]
def compDE {α κ β ε : Type} [DecidableEq κ] (fk : α → Option κ) (f : α → Option (Res ε β)) : List α → List (κ × β) → Option (Res ε (List (κ × β)))
  | [], l => some (.ok l)
  | x :: xs, l => bindO (fk x) fun k => bindO (f x) fun r => resX r (fun b => compDE fk f xs (putM l k b)) fun e => some (.er e)
def tDcE (wi : TI) (g : TG) (tt : TT) (tk : TE) (te : (L2.St → XK) → TE) (vs : List Nat) : (L2.St → XK) → TE := fun E σ H Q => tDc wi g tt tk (te fun _ => E σ) vs σ H Q
section
variable {α κ β ε : Type} [DecidableEq κ] {R : ER ε} {r : Rp α} {rk : Rp κ} {rb : Rp β} {Γ Γ1 : List Sl} {xs : List α}
theorem er_dc (ky : Ky rk) {wi : TI} {g : TG} {tk : TE} {te : (L2.St → XK) → TE} {ws vs : List Nat} (fk : α → Option κ) (f : α → Option (Res ε β)) {Γf : α → List Sl} {x : Res ε (List (κ × β))}
    (hi : ItX r wi Γ Γ1 xs) (e : compDE fk f xs [] = some x) (hg : TgX g r ws (wipeG Γ1 vs) Γf) (hw : ∀ k, k ∈ ws → k ∈ vs) (hv : wipeG Γ1 vs = Γ1) (hm : ∀ a, wipeG (Γf a) vs = Γ1)
    (hk : ∀ (a : α) (y : κ), fk a = some y → EvX rk tk (Γf a) (Γf a) y) (hb : ∀ (a : α) (y : Res ε β), f a = some y → EvR R rb te (Γf a) (Γf a) y) : EvRC R (cDic ky rb) (tDcE wi g tYes tk te vs) Γ Γ1 x := fun A σ H B F E Q qo qe => by
  refine hi A σ H B F _ fun J H1 B1 F1 sB1 Y => fun D hD => ?_
  have F2 : Frm (A.and B1) σ H1 B1 Γ1 := F1.and (Same.refl _)
  have h0D : A.H0 D = none := F1.H0none hD
  have F3 := F2.wipe vs
  rw [hv] at F3
  have F4 := F3.fresh (o := .dK []) hD (Nat.zero_le _)
  rw [hv] at hg
  have mono : ∀ {B B' : Hp} {acc : List (L2.Key × V)} {l : List (κ × β)}, Same B B' → Paired (DRel ky rb B) acc l → Paired (DRel ky rb B') acc l := fun s h => Paired.imp2 (fun _ _ q => ⟨q.1, rb.mono s q.2⟩) h
  refine ⟨fun i m K => m = xs.length - i ∧ i ≤ xs.length ∧ ∃ B acc l, Frm ((A.and B1).add D (.dK acc)) (L2.wipe σ vs) K B Γ1 ∧ Paired (DRel ky rb B) acc l ∧ acc.length ≤ i ∧ compDE fk f (xs.drop i) l = some x, ?_, ?_⟩
  · exact ⟨_, rfl, Nat.zero_le _, B1, [], [], F4, .nil, Nat.le_refl _, by rw [List.drop_zero]; exact e⟩
  · rintro i m H2 ⟨rfl, hil, B3, acc, l, F5, pa, hacc, e2⟩
    by_cases hlt : i < xs.length
    · right
      have hx : xs[i]? = some xs[i] := List.getElem?_eq_getElem hlt
      rw [List.drop_eq_getElem_cons hlt] at e2
      refine ⟨Y.go i H2 B3 F5.ph.2 F5.bh hlt, fun K => ∃ B acc l, Frm ((A.and B1).add D (.dK acc)) (L2.wipe σ vs) K B Γ1 ∧ Paired (DRel ky rb B) acc l ∧ acc.length ≤ i + 1 ∧ compDE fk f (xs.drop (i + 1)) l = some x, fun K h3 => ⟨_, by omega, rfl, by omega, h3⟩, fun v K hy => ?_⟩
      obtain ⟨B4, F6, sB4, k4⟩ := Y.yld i _ H2 B3 v K F5.ph.2 F5.bh hx hy _ _ _ F5
      refine hg _ _ K B4 v xs[i] F6 k4 _ fun σ4 F7 hl4 d4 => ?_
      have hwp := wipe_wipe hl4 fun k hk => d4 k fun z => hk (hw k z)
      refine ⟨hwp, ?_⟩
      unfold tYes
      dsimp only
      rw [if_pos rfl]
      obtain ⟨k, ek, e2⟩ := bindO_some e2
      obtain ⟨y, ey, e2⟩ := bindO_some e2
      refine hk _ _ ek _ _ _ _ F7 _ fun u5 H5 B5 F8 sB5 k5 => ?_
      refine hb _ _ ey _ _ _ _ F8 (fun _ => E σ) _ (fun b hy5 u H6 B6 F9 sB6 k6 => ?_) fun z hz cls d H6 B6 F9 sB6 k6 => ?_
      · subst hy5
        have hid := F9.hid (A := A.and B1) h0D F.mh.and
        refine ⟨acc, ky.key k, ky.ok k5, hid, Nat.lt_of_lt_of_le (Nat.lt_of_le_of_lt hacc hlt) Y.len, ?_⟩
        have F10 := F9.wipe vs
        rw [hm, hwp] at F10
        have pa2 := put_pair ky (k := k) k6 (mono ((sB4.trans sB5).trans sB6) pa)
        have len2 : (putK acc (ky.key k) u).length ≤ i + 1 := by
          rw [Paired.len pa2]
          have h1 := putM_len l k b
          have h2 := Paired.len pa
          omega
        have F11 := F10.hidset (A := A.and B1) (o' := .dK (putK acc (ky.key k) u)) h0D F.mh.and F.sub (Nat.le_trans len2 (Nat.le_trans hlt Y.len))
        exact ⟨B6, _, _, F11, pa2, len2, e2⟩
      · subst hz
        cases e2
        have F10 := F9.wipe vs
        rw [hm, hwp] at F10
        have F11 := F10.unwipe hv
        have F12 : Frm ((A.add D (.dK acc)).and B1) σ H6 B6 Γ1 := F11
        exact qe z rfl cls d H6 B6 (F12.unand.drop h0D F.sub F.mh) (sB1.trans F12.ph.2) k6
    · left
      have hil : i = xs.length := by omega
      subst hil
      refine ⟨Y.stop H2 B3 F5.ph.2 F5.bh, ?_⟩
      rw [List.drop_length] at e2
      cases e2
      have F6 := F5.unwipe hv
      have F7 : Frm ((A.add D (.dK acc)).and B1) σ H2 B3 Γ1 := F6
      exact qo l rfl D (.dK acc) H2 B3 F7.unand h0D (sB1.trans F5.ph.2) ⟨acc, rfl, pa⟩
theorem er_exF {P : Program} {w : World} (ky : Ky rk) {te : (L2.St → XK) → TE} {x : Res ε (List (κ × β))} (h : EvRC R (cDic ky rb) te Γ Γ1 x) : EvR R (rDicF P w ky rb) (fun E => tExF P w (te E)) Γ Γ1 x := fun A σ H B F E Q qo qe => by
  cases x with
  | er e => exact h A σ H B F E _ (fun b hb => nomatch hb) qe
  | ok b => exact (ev_newD (ed_exF ky (ec_ok h rfl E))) A σ H B F Q fun v H' B' F' s k => qo b rfl v H' B' F' s k
theorem sq_retDcE {γ : Type} {P : Program} {w : World} (ky : Ky rk) {A : Amb} {D : Ends} {u : TS} {W : WX} {wi : TI} {g : TG} {tt : TT} {tk : TE} {te : (L2.St → XK) → TE} {vs : List Nat} {x : Res ε (List (κ × β))} {k : List (κ × β) → Option γ} {l : ε → Option γ} {z : γ} (h : EvRC R (cDic ky rb) (tDcE wi g tt tk te vs) Γ Γ1 x) (e : resX x k l = some z)
    (ko : ∀ y, k y = some z → Rt A (psi (rDicF P w ky rb)) y D.rt) (ke : ∀ y, l y = some z → NxE W A Γ1 R y) : Nx A (tSeq (tRet (tExF P w (tDcX W wi g tt tk te vs))) u D) Γ :=
  sq_retR (tf := fun E => tExF P w (tDcE wi g tt tk te vs E)) (er_exF ky h) e ko ke
end
section
variable {τ α β ρ ε : Type} {rt : Rp τ} {ra : Rp α} {rb : Rp β} {r : Rp ρ} {R : ER ε} {m1 : τ × α → Option (Res ε ρ)} {m2 : τ × β → Option (Res ε ρ)} {m3 : τ × (α ⊕ β) → Option (Res ε ρ)}
theorem sp_altX (e1 : ∀ t a, m3 (t, .inl a) = m1 (t, a)) (e2 : ∀ t b, m3 (t, .inr b) = m2 (t, b)) (vs : List V) (H : Hp) (Q : VK) (E : XK) (h : SpX R (wC rt (w1 (rAlt ra rb))) r m3 vs H Q E) : SpX R (wC rt (w1 ra)) r m1 vs H Q E ∨ SpX R (wC rt (w1 rb)) r m2 vs H Q E := by
  obtain ⟨B, ⟨t, x⟩, z0, z, s, hw, e, k⟩ := h
  obtain ⟨v, vs', rfl, ht, v2, rfl, hx⟩ := hw
  cases x with
  | inl a => exact .inl ⟨B, (t, a), z0, z, s, ⟨v, _, rfl, ht, v2, rfl, hx⟩, (e1 t a).symm.trans e, k⟩
  | inr a => exact .inr ⟨B, (t, a), z0, z, s, ⟨v, _, rfl, ht, v2, rfl, hx⟩, (e2 t a).symm.trans e, k⟩
end
end
end G
set_option maxHeartbeats 4000000
namespace G
open PySem PySem.Spec PyProof.Rows L2 HandSPX
section
variable {X : Cx} {W : WX} {pins pins8 : List (Addr × Obj)} {σ σ8 : L2.St} {H H3 : Hp} {s s' s3 : Shared} {scope : Scope} {ce : Env} {fp : List Addr} {E0 : XK} {u : Value} {xe : Value → Shared → Prop}
theorem blk_passN (tk : L2N.Takes X W) (hs : X.stack = X.env :: X.outer) (hf : X.env.frame = some X.env.locals) (hcf : ce.frame = X.env.frame) (I3 : Inv X pins σ H3 s3) (f3 : ∀ b ∈ fp, FpOk X pins H3 b ∧ b < s3.heap.objs.size) (hC : s3.heap.objs.size ≤ ce.locals)
    (hE : ∀ cls d H', E0 cls d H' → W cls d σ H') (I : Inv (blkE X s3 H3 scope ce fp xe) pins8 σ8 H s) (c : L2N.CX X.prog X.w X.stack H s E0 u s') :
    notedBy (model X.prog X.w) X.A ce (CompFails (model X.prog X.w) X.A X.xe ce) u s' := by
  obtain ⟨a, B, H', cls, d, rfl, fl, hok, ub, na, os, ag, hE0⟩ := c
  have hfr : X.A.frames = some (X.env :: X.outer) := by rw [I3.ok.frames, hs]
  have cf : ce.locals ∉ frs X.stack := fun hm => by
    obtain ⟨_, o, ho, _⟩ := I3.stack.mem hm
    exact absurd (Nat.lt_of_lt_of_le (Heap.lt_size ho) hC) (Nat.lt_irrefl _)
  obtain ⟨m, hn, _⟩ := I.loc
  have hn : s.heap.Ns ce.locals m := hn
  have cB : ∀ o, s.heap.get? ce.locals = some o → B.get? ce.locals = some o := fun o e => ub.keep _ o e I.free cf
  have hns : s'.heap.Ns ce.locals m := ns_of hn fun o e _ => ⟨o.slots, fl.1 _ _ (cB o e)⟩
  -- the ground without the block's names
  have hid : ∀ b o, (PySem.W.hideAll B [ce.locals]).get? b = some o → B.get? b = some o := fun b o e => PySem.W.of_hideAll _ e
  have hidC : (PySem.W.hideAll B [ce.locals]).get? ce.locals = none := PySem.W.hideAll_none _ (by simp)
  have hidk : ∀ b o, b ≠ ce.locals → B.get? b = some o → (PySem.W.hideAll B [ce.locals]).get? b = some o := fun b o hb e => PySem.W.hideAll_get _ e (by simpa using hb)
  generalize hB' : PySem.W.hideAll B [ce.locals] = B' at hid hidC hidk
  have bn : ∀ {b : Addr}, B.get? b = none → B'.get? b = none := fun {b} e => by
    cases q : B'.get? b with
    | none => rfl
    | some o => rw [hid b o q] at e; cases e
  have fr' : ∀ {h : Heap}, h.FunFrames B X.stack → h.FunFrames B' X.stack := fun {h} f => funFrames_none f fun L hL => bn (f.mem hL).1
  have tr' : ∀ {h : Heap} {fv : Value}, TracedZ h B a (L2N.Zn cls d) fv → TracedZ h B' a (L2N.Zn cls d) fv := fun {h fv} ⟨oe, vs, T, oT, ts, he, hz, hd, h1, hnT, r⟩ => ⟨oe, vs, T, oT, ts, he, hz, hd, h1, bn hnT, r⟩
  have fl' : FlyingZ B' (X.env :: X.outer) a (L2N.Zn cls d) s'.heap := by
    rw [← hs]
    exact ⟨fun b o e => fl.1 b o (hid b o e), bn fl.2.1, fr' fl.2.2.1, tr' fl.2.2.2⟩
  show wpAny _ _ (noteFrame (.ref a) ce) _ _ s'
  rw [noteFrame_env _ hcf]
  refine PXN.looks_onZ L2N.Zn.steady hfr hf fl' fun h1 hh up1 => ?_
  have hn1 : h1.Ns ce.locals m := ns_of hns fun o e nf => up1 _ o e nf
  refine ⟨m, hn1, fun h2 m2 hn2 sb => ?_⟩
  -- the names are gone, the error stands
  have hh2 : HeldZ B' (X.env :: X.outer) a (L2N.Zn cls d) X.env.locals h2 := by
    obtain ⟨k1, k2, k3, oe, vs, T, oT, ts, he, hz, hd, q1, hnT, hTe, hT, hdT, q3⟩ := hh
    exact ⟨fun b o e => (sb.2 b fun q => by rw [q, hidC] at e; cases e).trans (k1 b o e), k2, Heap.FunFrames.sameBut sb hn2 k3,
      oe, vs, T, oT, ts, (sb.2 a (ns_nf hn1 he hd)).trans he, hz, hd, q1, hnT, hTe, (sb.2 T (ns_nf hn1 hT hdT)).trans hT, hdT, q3⟩
  obtain ⟨oe, vs, T, oT, ts, he, hz, hd, q1, r⟩ := hh2.2.2.2
  unfold PySem.passOn
  refine wpAny_bind (wpAny_field (s := { s' with heap := h2 }) he hd q1 ?_)
  rw [if_neg (show ¬ ((Value.ref T == Value.none) = true) from by simp), hcf, hf]
  refine wpAny_bind (setFlight_onZ (s := { s' with heap := h2 }) hh2 fun h4 hh4 up4 => ?_)
  refine wpAny_throw ?_
  -- the state of the def without the error
  have hh4 : HeldZ B' X.stack a (L2N.Zn cls d) X.env.locals h4 := by rw [hs]; exact hh4
  obtain ⟨G, g1, g2⟩ := restrict h4 fun b => (B'.get? b).isSome || decide (b ∈ frs X.stack)
  have gB : ∀ b o, B'.get? b = some o → G.get? b = some o := fun b o e => by
    rw [g1 b (by simp [e])]
    exact hh4.1 b o e
  have gF : ∀ b, b ∈ frs X.stack → G.get? b = h4.get? b := fun b hb => g1 b (by simp [hb])
  have og : ∀ b o, G.get? b = some o → h4.get? b = some o ∧ ((B'.get? b).isSome = true ∨ b ∈ frs X.stack) := fun b o e => by
    cases q : ((B'.get? b).isSome || decide (b ∈ frs X.stack)) with
    | false => rw [g2 b q] at e; cases e
    | true =>
      rw [g1 b q] at e
      exact ⟨e, by simpa [Bool.or_eq_true] using q⟩
  have nC : ∀ b o, s3.heap.get? b = some o → b ≠ ce.locals := fun b o e q => absurd (Nat.lt_of_lt_of_le (Heap.lt_size e) hC) (by rw [q]; exact Nat.lt_irrefl _)
  have base : Un (frs X.stack) fp H3 H s3.heap s.heap := I.base
  have hC' : H' ce.locals = none := by
    obtain ⟨o, _, _, ho, _⟩ := hn
    exact ub.free _ o ho I.free
  have hokB : HOk X.prog X.w H' B' := fun b o q => (hok b o q).stay (fun e v hc r => by
    refine hidk e v (fun z => ?_) r
    rcases hc with hc | hc
    · rw [hc] at z; rw [z, hC'] at q; cases q
    · rw [z, hC'] at hc; cases hc) (fun _ z => z) fun _ _ z => z
  have slot : ∀ b o, s3.heap.get? b = some o → H3 b = none → b ∈ frs X.stack → b ∉ fp → ∃ sl, G.get? b = some { o with slots := sl } := fun b o e n hb hx => by
    have nf : ∀ vs, o.data ≠ .fields vs := by
      obtain ⟨_, o2, e2, hd2⟩ := I3.stack.mem hb
      rw [e] at e2; cases e2
      exact hd2
    obtain ⟨sl, t1⟩ := base.slot b o e n hb hx
    obtain ⟨sl2, t2⟩ := ub.slot b _ t1 hb
    obtain ⟨sl3, t3⟩ := up1 b _ t2 nf
    have t4 := (sb.2 b (nC b o e)).trans t3
    obtain ⟨sl5, t5⟩ := up4 b _ t4 nf
    exact ⟨sl5, by rw [gF b hb]; exact t5⟩
  have un : Un (frs X.stack) fp H3 H' s3.heap G := ⟨fun b o e n hb hx => gB b o (hidk b o (nC b o e) (ub.keep b o (base.keep b o e n hb hx) (base.free b o e n hx) hb)), slot,
    fun b o e n hx => by
      obtain ⟨o', t⟩ := base.there b o e hx
      exact ub.free b o' t (base.free b o e n hx), fun b o e hx => by
      by_cases hb : b ∈ frs X.stack
      · have n : H3 b = none := I3.stkFree b hb
        obtain ⟨sl, t⟩ := slot b o e n hb hx
        exact ⟨_, t⟩
      · obtain ⟨o', t⟩ := base.there b o e hx
        obtain ⟨o2, t2⟩ := ub.there b o' t hb
        exact ⟨o2, gB b o2 (hidk b o2 (nC b o e) t2)⟩, fun b xs e => ub.tups b xs (base.tups b xs e), fun b o xs e => ub.frzs b o xs (base.frzs b o xs e), fun b ps e => by
      obtain ⟨m1, t1⟩ := base.tbls b ps e
      obtain ⟨m2, t2⟩ := ub.tbls b _ t1
      exact ⟨m1 ++ m2, by rw [t2, Array.append_assoc]⟩⟩
  have I7 : Inv X pins σ H' { s3 with heap := G, gens := s'.gens, drawn := s'.drawn, toks := s'.toks } :=
    I3.call' (ch := fp) rfl un (hokB.kept gB) ag fun b hb => ⟨(f3 b hb).1.2.2.2.1, (f3 b hb).1.2.1, (f3 b hb).1.2.2.2.2.1, (f3 b hb).1.2.2.2.2.2⟩
  refine tk _ _ ⟨a, B', _, pins, σ, H', cls, d, rfl, I7, fun b o e hb => ?_, Heap.UpToSlots.of_keeps fun b o e => (og b o e).1, .inr (.inr hh4), na, ?_, ag, hE _ _ _ hE0⟩
  · obtain ⟨e', q⟩ := og b o e
    rcases q with q | q
    · obtain ⟨o', q⟩ := Option.isSome_iff_exists.mp q
      have z := hh4.1 b o' q
      rw [e'] at z; cases z
      exact q
    · exact absurd q hb
  · show s'.os = s3.os
    rw [os]
    exact I.os
theorem dc_coreXN {pins : List (Addr × Obj)} {σ : L2.St} {H : Hp} {s : Shared} {Q : VK} {use : Option (Value → Sem Unit)} {Qf : Value → Shared → Prop} {kx vx tg iter : Expr} {ifs : List Expr} {own : List (Str × Nat)} {pos pos' : Pos} {wi : TI} {g : TG} {tt : TT} {tk : TE} {te : (L2.St → XK) → TE} (tw : L2N.Takes X W) (hs : X.stack = X.env :: X.outer) (hf : X.env.frame = some X.env.locals) (hcl : X.calm = true) (hN : X.N.Nodup) (I0 : Inv X pins σ H s) (hi : PI X tg iter wi) (ok : BlkOk X.N X.env.scope scope own)
    (pg : ∀ (s : Shared) (H : Hp) (C : Addr) (cl : List (Str × Addr)) (fp : List Addr), PG (X.blk s H scope (compEnvC scope cl C X.env) fp) tg g) (pt : ∀ (s : Shared) (H : Hp) (C : Addr) (cl : List (Str × Addr)) (fp : List Addr), PTs (X.blk s H scope (compEnvC scope cl C X.env) fp) ifs tt)
    (pk : ∀ (s : Shared) (H : Hp) (C : Addr) (cl : List (Str × Addr)) (fp : List Addr), PE (X.blk s H scope (compEnvC scope cl C X.env) fp) kx tk)
    (pe : ∀ (s : Shared) (H : Hp) (C : Addr) (cl : List (Str × Addr)) (fp : List Addr) (xe : Value → Shared → Prop) (E1 : L2.St → XK), (∀ τ, PassesAt (L2N.CX X.prog X.w) (blkE X s H scope (compEnvC scope cl C X.env) fp xe) τ (E1 τ)) → PE (blkE X s H scope (compEnvC scope cl C X.env) fp xe) vx (te E1))
    (hfo : ∀ x, foldedSetIterable iter X.env x = pure x) (hw : tDcX W wi g tt tk te (own.map (·.2)) σ H Q)
    (hRR : ∀ D ce r s' m H', Inv X pins σ H' s' → Q (.ref D) H' → s'.heap.Ns (Env.locals ce) m → FpOk X pins H' (Env.locals ce) → compEnds (model X.prog X.w) X.A X.xe use Qf (.ref D) ce (.ok r) s') :
    wpAny (model X.prog X.w) X.A (comprehension (.DictComp kx vx [⟨tg, iter, ifs, 0⟩] scope pos) scope X.env pos' newDict false (eval iter X.env) use) Qf X.xe s := by
  have frees : ∀ y ∈ scope.names, y.2 = .free → ∃ c, X.env.cells.lookup y.1 = some c := fun y hy e => (ok.free y hy e).elim (fun k => I0.ok.has _ (.inl k)) fun k => I0.ok.has _ (.inr k)
  refine comprehension_at (use := use) rfl hfo (closure_ok frees) ok.kind (fun y hy e => by rw [ok.uniq y hy, e]) (thn (hi.run pins s σ H _ I0 hw) fun xv sa ha => thn ha fun itv sb hb => ?_)
  obtain ⟨it, fp, tn, J, H2, rfl, I2, T, at2, f2, q⟩ := hb
  refine wpAny_newObj_type (newEnv_comp ?_)
  generalize hD : sb.heap.objs.size = D
  obtain ⟨Wn, ⟨m0, w0⟩, turn⟩ := q D (I2.hok.fresh (Nat.le_of_eq hD))
  generalize e3 : ({ sb with heap := sb.heap.push { cls := .type "dict", data := .dict #[] } } : Shared) = s3
  have p3 : s3.heap = sb.heap.push { cls := .type "dict", data := .dict #[] } := by rw [← e3]
  have I3 : Inv X pins σ (upd H2 D (.dK [])) s3 := by
    rw [← e3]
    exact I2.laid (t' := sb.toks) (fun b o e => Heap.get?_push_of_some _ e) (Nat.le_of_eq hD) (by rw [← hD]; exact dk_empty sb.heap I2.big)
  have f3 : ∀ b ∈ fp, FpOk X pins (upd H2 D (.dK [])) b ∧ b < s3.heap.objs.size := fun b hb => by
    obtain ⟨o, eo, _⟩ := T.obj _ _ at2 b hb
    have lt := Heap.lt_size eo
    refine ⟨⟨?_, (f2 b hb).2⟩, by rw [p3, Heap.size_push]; exact Nat.lt_succ_of_lt lt⟩
    rw [upd_ne (by rw [← hD]; exact Nat.ne_of_lt lt)]
    exact (f2 b hb).1
  have at3 : tn 0 s3.heap := T.keep _ _ _ at2 fun b _ o e => by rw [p3]; exact Heap.get?_push_of_some _ e
  have I4 := block_start I3 ok hN f3
  have pg := pg s3 (upd H2 D (.dK [])) s3.heap.objs.size (cellsFrom (s3.heap.objs.size + 1) scope.names (cloFrom X.env.cells scope.names [])) fp
  have pt := pt s3 (upd H2 D (.dK [])) s3.heap.objs.size (cellsFrom (s3.heap.objs.size + 1) scope.names (cloFrom X.env.cells scope.names [])) fp
  have pk := pk s3 (upd H2 D (.dK [])) s3.heap.objs.size (cellsFrom (s3.heap.objs.size + 1) scope.names (cloFrom X.env.cells scope.names [])) fp
  have pe := pe s3 (upd H2 D (.dK [])) s3.heap.objs.size (cellsFrom (s3.heap.objs.size + 1) scope.names (cloFrom X.env.cells scope.names [])) fp
  show codeAny _ _ (.compStart (.DictComp kx vx [⟨tg, iter, ifs, 0⟩] scope pos) 0 (.ref it) (.ref D) (compEnvC scope (cellsFrom (s3.heap.objs.size + 1) scope.names (cloFrom X.env.cells scope.names [])) s3.heap.objs.size X.env)) (compEnds (model X.prog X.w) X.A X.xe use Qf (.ref D) (compEnvC scope (cellsFrom (s3.heap.objs.size + 1) scope.names (cloFrom X.env.cells scope.names [])) s3.heap.objs.size X.env)) { s3 with heap := pushCells (s3.heap.push { cls := .type "dict", data := .dict #[] }) scope.names }
  have no3 : ∀ b ∈ fp, (upd H2 D (.dK [])) b = none := fun b hb => (f3 b hb).1.1
  generalize hce : compEnvC scope (cellsFrom (s3.heap.objs.size + 1) scope.names (cloFrom X.env.cells scope.names [])) s3.heap.objs.size X.env = ce at I4 pg pt pk pe ⊢
  have cL : ce.locals = s3.heap.objs.size := by rw [← hce]; rfl
  have cF : ce.frame = X.env.frame := by rw [← hce]; rfl
  generalize hH3 : upd H2 D (.dK []) = H3 at I3 I4 pg pt pk pe w0 no3 f3
  generalize e4 : ({ s3 with heap := pushCells (s3.heap.push { cls := .type "dict", data := .dict #[] }) scope.names } : Shared) = s4 at I4 ⊢
  have at4 : tn 0 s4.heap := T.keep _ _ _ at3 fun b _ o e => by rw [← e4]; exact pushCells_keeps _ _ _ _ (Heap.get?_push_of_some _ e)
  have foot : ∀ {τ : L2.St} {K : Hp} {z : Shared}, Inv (X.blk s3 H3 scope ce fp) [] τ K z → (∀ b ∈ fp, K b = none) → ∀ b ∈ fp, FpOk (X.blk s3 H3 scope ce fp) [] K b := fun {τ K z} Iz hk b hb =>
    ⟨hk b hb, (Iz.ok.exf b hb).1, Iz.ok.exfs b hb, .inl hb, fun x c e => (Iz.ok.exf b hb).2 x c e, fun p hp => nomatch (show p ∈ ([] : List (Addr × Obj)) ++ [] from hp)⟩
  have pass : ∀ τ, PassesAt (L2N.CX X.prog X.w) (blkE X s3 H3 scope ce fp (notedBy (model X.prog X.w) X.A ce (CompFails (model X.prog X.w) X.A X.xe ce))) τ (WE W σ) := fun τ pn K z e z' Iz cz =>
    blk_passN tw hs hf cF I3 f3 (Nat.le_of_eq cL.symm) (fun _ _ _ h => h) Iz cz
  have loop : codeAny (model X.prog X.w) X.A (.compLoop (.DictComp kx vx [⟨tg, iter, ifs, 0⟩] scope pos) 0 (.ref it) (.ref D) ce) (compEnds (model X.prog X.w) X.A X.xe use Qf (.ref D) ce) s4 := by
    refine compLoop_anyD (fun n z => ∃ i K, Inv (X.blk s3 H3 scope ce fp) [] (wipe σ (own.map (·.2))) K z ∧ tn i z.heap ∧ (∀ b ∈ fp, K b = none) ∧ Wn i n K) ?_ m0 ⟨0, H3, I4, at4, no3, w0⟩
    rintro n s5 ⟨i, H5, I5, at5, no5, w5⟩
    rcases turn i n H5 w5 with ⟨stop, qq⟩ | ⟨go, Nx, hNx, step⟩
    · refine thnF (T.done (X.blk s3 H3 scope ce fp) rfl rfl rfl hcl i [] s5 _ H5 (fun _ _ => False) I5 (foot I5 no5) at5 stop) fun r s6 ⟨hr, I6⟩ => ?_
      subst hr
      have I7 : Inv X pins σ H5 s6 := I3.call' (ch := fp) I6.os I6.base I6.hok I6.bare fun b hb => ⟨(f3 b hb).1.2.2.2.1, (f3 b hb).1.2.1, (f3 b hb).1.2.2.2.2.1, (f3 b hb).1.2.2.2.2.2⟩
      have nC : H5 ce.locals = none := I6.free
      obtain ⟨m, hn, _⟩ := I6.loc
      have hn : s6.heap.Ns ce.locals m := hn
      obtain ⟨a0, a1, a2, a3, a4, a5⟩ := I3.fpOk (Nat.le_of_eq cL.symm) nC
      exact hRR D ce _ s6 m H5 I7 qq hn ⟨a0, a1, a2, a3, a4, a5⟩
    · refine thnF (T.item (X.blk s3 H3 scope ce fp) rfl rfl rfl hcl i [] s5 _ H5 (fun _ _ => False) I5 (foot I5 no5) at5 go) fun r s6 ⟨v6, hr, h6⟩ => ?_
      subst hr
      refine thnF h6 fun _ s7 ⟨x, H7, I7, r7, y7, at7, no7⟩ => ?_
      refine thnF (pg.run _ s7 _ H7 x v6 _ (I7.pinned (foot I7 no7) (T.obj _ _ at7)) r7 (step x H7 y7)) fun _ s8 ⟨τ, H8, I8, hw8, q8⟩ => ?_
      refine thnF (pt.run _ s8 τ H8 _ I8 q8) fun b s9 ⟨H9, I9, q9⟩ => ?_
      have next : ∀ {z : Shared} {K : Hp}, Inv (X.blk s3 H3 scope ce fp) ([] ++ pinsAt fp s7.heap) τ K z → Nx K → ∃ m, m < n ∧ ∃ i K, Inv (X.blk s3 H3 scope ce fp) [] (wipe σ (own.map (·.2))) K z ∧ tn i z.heap ∧ (∀ b ∈ fp, K b = none) ∧ Wn i m K := fun {z K} Iz nx => by
        obtain ⟨m', hm, wz⟩ := hNx K nx
        have held : ∀ b ∈ fp, ∀ o, s7.heap.get? b = some o → z.heap.get? b = some o ∧ K b = none := fun b hb o e =>
          have t := Iz.pin (b, o) (List.mem_append_right _ (List.mem_append_right _ (mem_pinsAt hb e)))
          ⟨t.1, t.2.1⟩
        refine ⟨m', hm, i + 1, K, (Iz.unpinned (pins := [])).weak (by rw [← hw8, wipe_length]) (fun j v e => by rw [← hw8] at e; exact (wipe_some e).1), T.keep _ _ _ at7 fun b hb o e => (held b hb o e).1, fun b hb => ?_, wz⟩
        obtain ⟨o, e, _⟩ := T.obj _ _ at7 b hb
        exact (held b hb o e).2
      cases b with
      | false =>
        simp only [Bool.false_eq_true, if_false] at q9 ⊢
        exact next I9 q9
      | true =>
        simp only [if_true] at q9 ⊢
        refine thnF (pk.run _ s9 τ H9 _ I9 q9) fun yk s10 ⟨kv, H10, I10, r10, q10⟩ => ?_
        have hx := (pe _ (fun _ => WE W σ) pass).run _ s10 τ H10 _ (invE I10 _) q10
        refine wpAny_mono hx (fun y s11 h11 => ?_) fun e z h => h
        obtain ⟨yv, H11, I11, r11, kvs, kk, ek, hD11, hz11, nx⟩ := h11
        subst ek
        exact d_dictSet (X := X.blk s3 H3 scope ce fp) (invN I11) hD11 hz11 r10 r11 fun s12 I12 => next I12 nx
  exact codeAny_compStart_dict loop (T.self X.A 0 _ _ _ at4 loop)
theorem pe_dcXN {kx vx tg iter : Expr} {ifs : List Expr} {own : List (Str × Nat)} {pos : Pos} {wi : TI} {g : TG} {tt : TT} {tk : TE} {te : (L2.St → XK) → TE} (tw : L2N.Takes X W) (hs : X.stack = X.env :: X.outer) (hf : X.env.frame = some X.env.locals) (hcl : X.calm = true) (hN : X.N.Nodup) (hi : PI X tg iter wi) (ok : BlkOk X.N X.env.scope scope own)
    (pg : ∀ (s : Shared) (H : Hp) (C : Addr) (cl : List (Str × Addr)) (fp : List Addr), PG (X.blk s H scope (compEnvC scope cl C X.env) fp) tg g) (pt : ∀ (s : Shared) (H : Hp) (C : Addr) (cl : List (Str × Addr)) (fp : List Addr), PTs (X.blk s H scope (compEnvC scope cl C X.env) fp) ifs tt)
    (pk : ∀ (s : Shared) (H : Hp) (C : Addr) (cl : List (Str × Addr)) (fp : List Addr), PE (X.blk s H scope (compEnvC scope cl C X.env) fp) kx tk)
    (pe : ∀ (s : Shared) (H : Hp) (C : Addr) (cl : List (Str × Addr)) (fp : List Addr) (xe : Value → Shared → Prop) (E1 : L2.St → XK), (∀ τ, PassesAt (L2N.CX X.prog X.w) (blkE X s H scope (compEnvC scope cl C X.env) fp xe) τ (E1 τ)) → PE (blkE X s H scope (compEnvC scope cl C X.env) fp xe) vx (te E1))
    (hfo : ∀ x, foldedSetIterable iter X.env x = pure x := by intro _; rfl) : PE X (.DictComp kx vx [⟨tg, iter, ifs, 0⟩] scope pos) (tDcX W wi g tt tk te (own.map (·.2))) := by
  refine ⟨fun pins s σ H Q I0 hw => ?_⟩
  rw [arm_eval_DictComp]
  exact dc_coreXN tw hs hf hcl hN I0 hi ok pg pt pk pe hfo hw fun D ce r s' m H' I' q hn ⟨f0, f1, f2, f3, f4, f5⟩ => ⟨m, hn, fun h7 sm => ⟨.ref D, H', I'.turned (t' := s'.toks) (fun b o hb e => (sm.2 b hb).trans e) f0 f1 f3 f4 f5, rfl, q⟩⟩
end
end G
set_option maxHeartbeats 4000000
namespace G
variable [TabL]
open PySem PySem.Spec PyProof.Rows L2
section
variable {A : Amb} {σ σ' : L2.St} {H B : Hp} {Γ : List Sl} {i j : Nat}
theorem Own.part {ow : Nat → Addr → Prop} {s1 s2 : Sl} (F : Frm A σ H B Γ) (W : Own A σ H B Γ ow) (ne : i ≠ j) (hl : σ'.length = σ.length) (hσ : ∀ l, l ≠ j → σ'[l]? = σ[l]?) (o1 o2 : Addr → Prop)
    (a1 : ∀ p, o1 p → ow i p) (a2 : ∀ p, o2 p → ow i p) (a3 : ∀ p, o1 p → o2 p → False) (k1 : SlO σ' H B o1 i s1) (k2 : SlO σ' H B o2 j s2) : Frm A σ' H B ((Γ.set i s1).set j s2) := by
  refine ⟨F.post, by rw [List.length_set, List.length_set, hl]; exact F.len, fun l => if l = i then o1 else if l = j then o2 else ow l, fun l x el => ?_, fun l m p hl hm => ?_, fun l p hl => ?_⟩
  · rcases getset el with ⟨rfl, rfl, _⟩ | ⟨nj, el⟩
    · rw [if_neg (Ne.symm ne), if_pos rfl]; exact k2
    · rcases getset el with ⟨rfl, rfl, _⟩ | ⟨ni, el⟩
      · rw [if_pos rfl]; exact k1
      · rw [if_neg (Ne.symm ni), if_neg (Ne.symm nj)]
        exact slo_mono (W.so l x el) (hσ l (Ne.symm nj)).symm (Same.refl _) (fun _ _ _ z => z) fun _ z => z
  · by_cases l1 : l = i
    · by_cases m1 : m = i
      · rw [l1, m1]
      · rw [if_pos l1] at hl
        rw [if_neg m1] at hm
        by_cases m2 : m = j
        · rw [if_pos m2] at hm; exact (a3 p hl hm).elim
        · rw [if_neg m2] at hm; exact absurd (W.dj i m p (a1 p hl) hm).symm m1
    · rw [if_neg l1] at hl
      by_cases l2 : l = j
      · rw [if_pos l2] at hl
        by_cases m1 : m = i
        · rw [if_pos m1] at hm; exact (a3 p hm hl).elim
        · rw [if_neg m1] at hm
          by_cases m2 : m = j
          · rw [l2, m2]
          · rw [if_neg m2] at hm; exact absurd (W.dj i m p (a2 p hl) hm).symm m1
      · rw [if_neg l2] at hl
        by_cases m1 : m = i
        · rw [if_pos m1] at hm; exact absurd (W.dj i l p (a1 p hm) hl).symm l1
        · rw [if_neg m1] at hm
          by_cases m2 : m = j
          · rw [if_pos m2] at hm; exact absurd (W.dj i l p (a2 p hm) hl).symm l1
          · rw [if_neg m2] at hm; exact W.dj l m p hl hm
  · by_cases l1 : l = i
    · rw [if_pos l1] at hl; exact W.ht i p (a1 p hl)
    · rw [if_neg l1] at hl
      by_cases l2 : l = j
      · rw [if_pos l2] at hl; exact W.ht i p (a2 p hl)
      · rw [if_neg l2] at hl; exact W.ht l p hl
theorem Frm.join {s1 s2 s : Sl} (F : Frm A σ H B Γ) (ne : i ≠ j) (hi : Γ[i]? = some s1) (hj : Γ[j]? = some s2)
    (h : ∀ o1 o2 : Addr → Prop, (∀ p, o1 p → o2 p → False) → SlO σ H B o1 i s1 → SlO σ H B o2 j s2 → SlO σ H B (fun p => o1 p ∨ o2 p) i s) : Frm A σ H B ((Γ.set i s).set j .no) := by
  obtain ⟨ow, W⟩ := F.own
  have k := h (ow i) (ow j) (fun p a b => ne (W.dj i j p a b)) (W.so i s1 hi) (W.so j s2 hj)
  refine ⟨F.post, by rw [List.length_set, List.length_set]; exact F.len, fun l => if l = i then (fun p => ow i p ∨ ow j p) else if l = j then (fun _ => False) else ow l, fun l x el => ?_, fun l m p hl hm => ?_, fun l p hl => ?_⟩
  · rcases getset el with ⟨rfl, rfl, _⟩ | ⟨nj, el⟩
    · exact trivial
    · rcases getset el with ⟨rfl, rfl, _⟩ | ⟨ni, el⟩
      · rw [if_pos rfl]; exact k
      · rw [if_neg (Ne.symm ni), if_neg (Ne.symm nj)]; exact W.so l x el
  · have key : ∀ l, (if l = i then (fun p => ow i p ∨ ow j p) else if l = j then (fun _ => False) else ow l) p → (l = i ∧ (ow i p ∨ ow j p)) ∨ (l ≠ i ∧ l ≠ j ∧ ow l p) := fun l h => by
      by_cases l1 : l = i
      · rw [if_pos l1] at h; exact .inl ⟨l1, h⟩
      · rw [if_neg l1] at h
        by_cases l2 : l = j
        · rw [if_pos l2] at h; exact h.elim
        · rw [if_neg l2] at h; exact .inr ⟨l1, l2, h⟩
    rcases key l hl with ⟨l1, x⟩ | ⟨l1, l2, x⟩
    · rcases key m hm with ⟨m1, y⟩ | ⟨m1, m2, y⟩
      · rw [l1, m1]
      · rcases x with x | x
        · exact absurd (W.dj i m p x y).symm m1
        · exact absurd (W.dj j m p x y).symm m2
    · rcases key m hm with ⟨m1, y⟩ | ⟨m1, m2, y⟩
      · rcases y with y | y
        · exact absurd (W.dj i l p y x).symm l1
        · exact absurd (W.dj j l p y x).symm l2
      · exact W.dj l m p x y
  · by_cases l1 : l = i
    · rw [if_pos l1] at hl; exact hl.elim (W.ht i p) (W.ht j p)
    · rw [if_neg l1] at hl
      by_cases l2 : l = j
      · rw [if_pos l2] at hl; exact hl.elim
      · rw [if_neg l2] at hl; exact W.ht l p hl
end
def pyNe {κ : Type} [DecidableEq κ] (a b : κ) : Option Unit := if a = b then none else some ()
theorem pyNe_ne {κ : Type} [DecidableEq κ] {a b : κ} {u : Unit} (h : pyNe a b = some u) : a ≠ b := fun e => by
  unfold pyNe at h
  rw [if_pos e] at h; cases h
section
variable {κ δ : Type} [DecidableEq κ] {rk : Rp κ} {rd : Rp δ} {ky : Ky rk} {P : Program} {w : World} {A : Amb} {D : Ends} {u : TS} {i j : Nat} {p : Addr} {Γ Γ1 Γ2 : List Sl} {tk tv : TE}
def LsH (rd : Rp δ) (B H : Hp) (o : Addr → Prop) (k : κ) (q : Addr) (x0 : κ × Addr) (x : κ × List δ) : Prop := x0.1 = x.1 ∧ ((x.1 = k ∧ x0.2 = q) ∨ (x.1 ≠ k ∧ o x0.2 ∧ ∃ us, H x0.2 = some (.lst us) ∧ Paired (rd.rel B) us x.2))
def tDH (P : Program) (w : World) (ky : Ky rk) (rd : Rp δ) (k : κ) (q : Addr) : Tr (List (κ × List δ)) := ⟨fun B H o v l => ∃ p ob kvs l0, v = .ref p ∧ o p ∧ H p = some (dFO P w p ob kvs) ∧ Paired (DRel ky rQ B) kvs l0 ∧ Paired (LsH rd B H (fun a => o a ∧ a ≠ p) k q) l0 l ∧ (l0.map Prod.snd).Nodup ∧ (l0.map Prod.fst).Nodup ∧ p ≠ q ∧ k ∈ l.map Prod.fst,
  fun b kk n ⟨p, ob, kvs, l0, e, op, hp, d, D, n1, n2, n3, n4⟩ => ⟨p, ob, kvs, l0, e, n p op, kk p _ op hp, Paired.imp2 (fun _ _ q => ⟨q.1, q.2⟩) d, Paired.imp2 (fun _ _ z => ⟨z.1, z.2.imp id fun ⟨z1, z2, us, hu, z3⟩ => ⟨z1, ⟨n _ z2.1, z2.2⟩, us, kk _ _ z2.1 hu, Paired.monoR b z3⟩⟩) D, n1, n2, n3, n4⟩⟩
theorem ls_lend {B H : Hp} {o : Addr → Prop} {k : κ} : ∀ {l0 : List (κ × Addr)} {l : List (κ × List δ)} {xs : List δ}, Paired (LsR rd B H o) l0 l → (l0.map Prod.snd).Nodup → (l0.map Prod.fst).Nodup → getM l k = some xs →
    ∃ q, getM l0 k = some q ∧ o q ∧ (∃ us, H q = some (.lst us) ∧ Paired (rd.rel B) us xs) ∧ Paired (LsH rd B H (fun a => o a ∧ a ≠ q) k q) l0 l
  | _, _, _, .nil, _, _, e => by cases e
  | x0 :: l0, x :: l, xs, .cons hd tl, n1, n2, e => by
    rw [List.map_cons] at n1 n2
    have n1 := List.nodup_cons.mp n1
    have n2 := List.nodup_cons.mp n2
    obtain ⟨e1, oq, us, hu, pu⟩ := hd
    rw [getM_consG] at e
    by_cases hk : x.1 = k
    · rw [if_pos hk] at e
      cases e
      refine ⟨x0.2, by rw [getM_consG, if_pos (e1.trans hk)], oq, ⟨us, hu, pu⟩, .cons ⟨e1, .inl ⟨hk, rfl⟩⟩ ?_⟩
      have : ∀ {m0 : List (κ × Addr)} {m : List (κ × List δ)}, Paired (LsR rd B H o) m0 m → (∀ y ∈ m0, y ∈ l0) → Paired (LsH rd B H (fun a => o a ∧ a ≠ x0.2) k x0.2) m0 m := by
        intro m0 m h
        induction h with
        | nil => intro _; exact .nil
        | cons h t ih =>
          rename_i y0 y m0 m
          intro hs
          obtain ⟨z1, z2, us', hu', pu'⟩ := h
          refine .cons ⟨z1, .inr ⟨fun z => n2.1 ?_, ⟨z2, fun z => n1.1 ?_⟩, us', hu', pu'⟩⟩ (ih fun y hy => hs y (List.mem_cons_of_mem _ hy))
          · rw [e1.trans (hk.trans (z.symm.trans z1.symm))]; exact List.mem_map.mpr ⟨_, hs _ List.mem_cons_self, rfl⟩
          · rw [← z]; exact List.mem_map.mpr ⟨_, hs _ List.mem_cons_self, rfl⟩
      exact this tl fun _ h => h
    · rw [if_neg hk] at e
      obtain ⟨q, g, o2, hq, D⟩ := ls_lend tl n1.2 n2.2 e
      have hq0 : q ∈ l0.map Prod.snd := by
        obtain ⟨z, hz, _, e2⟩ := getM_key g
        exact List.mem_map.mpr ⟨z, hz, e2⟩
      exact ⟨q, by rw [getM_consG, if_neg (fun z => hk (e1.symm.trans z))]; exact g, o2, hq, .cons ⟨e1, .inr ⟨hk, ⟨oq, fun z => n1.1 (z ▸ hq0)⟩, us, hu, pu⟩⟩ D⟩
theorem ls_back {B H : Hp} {o o' : Addr → Prop} {k : κ} {q : Addr} {xs : List δ} (ho : ∀ a, o a → o' a) (oq : o' q) (hq : ∃ us, H q = some (.lst us) ∧ Paired (rd.rel B) us xs) : ∀ {l0 : List (κ × Addr)} {l : List (κ × List δ)}, Paired (LsH rd B H o k q) l0 l → Paired (LsR rd B H o') l0 (l.map fun e => if e.1 = k then (e.1, xs) else e)
  | _, _, .nil => .nil
  | x0 :: l0, x :: l, .cons hd tl => by
    obtain ⟨e1, h⟩ := hd
    rw [List.map_cons]
    refine .cons ?_ (ls_back ho oq hq tl)
    rcases h with ⟨a, b⟩ | ⟨a, b, us, hu, pu⟩
    · rw [if_pos a]
      obtain ⟨us, hu, pu⟩ := hq
      exact ⟨e1, by rw [b]; exact oq, us, by rw [b]; exact hu, pu⟩
    · rw [if_neg a]
      exact ⟨e1, ho _ b, us, hu, pu⟩
theorem nx_lend {l : List (κ × List δ)} {k : κ} {xs : List δ} (hk : EvX rk tk Γ Γ k) (ne : i ≠ j) (hi : Γ[i]? = some (.tre (.ref p) (tDL P w ky rd) l)) (hj : ∃ s, Γ[j]? = some s) (e : getM l k = some xs)
    (n : ∀ q, Nx A (u D) ((Γ.set i (.tre (.ref p) (tDH P w ky rd k q) l)).set j (.cel q (cLst rd) xs))) : Nx A (tSeq (tAsg (tFGet P w (tVar i) tk) (gName j)) u D) Γ := fun σ H B F => by
  refine ⟨_, dl_var F hi, hk A σ H B F _ fun y H1 B1 F1 s1 k1 => ?_⟩
  obtain ⟨ow, W⟩ := F1.own
  obtain ⟨e1, p2, ob, kvs, l0, e4, op, hp, D2⟩ := W.so i _ hi
  cases e4
  obtain ⟨q, g, oq, hq, D3⟩ := ls_lend D2.ls D2.nq D2.nk e
  obtain ⟨v, ev, kv⟩ := (get_pair ky k D2.dr).1 q g
  have kv : v = .ref q := kv
  subst kv
  refine ⟨p, .ref q, ⟨ob, kvs, ky.key k, rfl, hp, ky.ok k1, ev.symm⟩, ?_⟩
  have hkl : k ∈ l.map Prod.fst := by
    obtain ⟨z, hz, e2, _⟩ := getM_key e
    exact List.mem_map.mpr ⟨z, hz, e2⟩
  refine n q (σ.set j (some (V.ref q))) H1 B1 (Own.part F1 W ne (List.length_set ..) (fun l nl => List.getElem?_set_ne (Ne.symm nl)) (fun a => ow i a ∧ a ≠ q) (fun a => a = q) (fun a z => z.1) (fun a z => z ▸ oq.1) (fun a z1 z2 => z1.2 z2) ⟨?_, p, ob, kvs, l0, rfl, ⟨op, Ne.symm oq.2⟩, hp, D2.dr, ?_, D2.nq, D2.nk, Ne.symm oq.2, hkl⟩ ⟨?_, rfl, ?_⟩)
  · rw [List.getElem?_set_ne (Ne.symm ne)]; exact e1
  · exact Paired.imp2 (fun _ _ z => ⟨z.1, z.2.imp id fun ⟨z1, z2, z3⟩ => ⟨z1, ⟨⟨z2.1.1, z2.2⟩, z2.1.2⟩, z3⟩⟩) D3
  · obtain ⟨s, es⟩ := hj
    have := (List.getElem?_eq_some_iff.mp es).1
    rw [← F1.len] at this
    rw [List.getElem?_set, if_pos rfl, if_pos this]
  · obtain ⟨us, hu, pu⟩ := hq
    exact ⟨_, hu, us, rfl, pu⟩
theorem nx_back {l : List (κ × List δ)} {k : κ} {q : Addr} {xs : List δ} {Q : L2.St → Hp → Prop} (i j : Nat) (ne : i ≠ j) (hi : Γ[i]? = some (.tre (.ref p) (tDH P w ky rd k q) l)) (hj : Γ[j]? = some (.cel q (cLst rd) xs))
    (n : Nx A Q ((Γ.set i (.tre (.ref p) (tDL P w ky rd) (putM l k xs))).set j .no)) : Nx A Q Γ := fun σ H B F => by
  refine n σ H B (F.join ne hi hj fun o1 o2 dj so1 so2 => ?_)
  obtain ⟨e1, p2, ob, kvs, l0, e4, op, hp, D, D3, n1, n2, pq, hk⟩ := so1
  cases e4
  obtain ⟨e2, oq, o, ho, us, rfl, pu⟩ := so2
  refine ⟨e1, p, ob, kvs, l0, rfl, .inl op, hp, D, ?_, n1, n2⟩
  have : putM l k xs = l.map fun e => if e.1 = k then (e.1, xs) else e := by
    unfold putM
    rw [if_pos]
    rw [List.any_eq_true]
    obtain ⟨z, hz, ez⟩ := List.mem_map.mp hk
    exact ⟨z, hz, decide_eq_true ez⟩
  rw [this]
  exact ls_back (fun a z => ⟨.inl z.1, z.2⟩) ⟨.inr oq, Ne.symm pq⟩ ⟨us, ho, pu⟩ D3
theorem pr_any {R : κ × Addr → κ × List δ → Prop} (hR : ∀ x0 x, R x0 x → x0.1 = x.1) {k : κ} : ∀ {l0 : List (κ × Addr)} {l : List (κ × List δ)}, Paired R l0 l → (l0.any fun e => decide (e.1 = k)) = l.any fun e => decide (e.1 = k)
  | _, _, .nil => rfl
  | x0 :: _, x :: _, .cons h t => by rw [List.any_cons, List.any_cons, hR x0 x h, pr_any hR t]
theorem pr_map {R : κ × Addr → κ × List δ → Prop} (hR : ∀ x0 x, R x0 x → x0.1 = x.1) {k : κ} {q : Addr} {xs : List δ} (hq : R (k, q) (k, xs)) : ∀ {l0 : List (κ × Addr)} {l : List (κ × List δ)}, Paired R l0 l → Paired R (l0.map fun e => if e.1 = k then (e.1, q) else e) (l.map fun e => if e.1 = k then (e.1, xs) else e)
  | _, _, .nil => .nil
  | x0 :: _, x :: _, .cons h t => by
    rw [List.map_cons, List.map_cons]
    refine .cons ?_ (pr_map hR hq t)
    have e := hR x0 x h
    by_cases z : x0.1 = k
    · rw [if_pos z, if_pos (e.symm.trans z), z, e.symm.trans z]; exact hq
    · rw [if_neg z, if_neg (fun w => z (e.trans w))]; exact h
theorem pr_put {R : κ × Addr → κ × List δ → Prop} (hR : ∀ x0 x, R x0 x → x0.1 = x.1) {k : κ} {q : Addr} {xs : List δ} (hq : R (k, q) (k, xs)) {l0 : List (κ × Addr)} {l : List (κ × List δ)} (h : Paired R l0 l) : Paired R (putM l0 k q) (putM l k xs) := by
  unfold putM
  rw [pr_any hR h]
  split
  · exact pr_map hR hq h
  · exact Paired.app h (.cons hq .nil)
theorem lsh_ne {B H : Hp} {o : Addr → Prop} {k : κ} {q0 q : Addr} (ho : ∀ a, o a → a ≠ q) (h0 : q0 ≠ q) : ∀ {l0 : List (κ × Addr)} {l : List (κ × List δ)}, Paired (LsH rd B H o k q0) l0 l → q ∈ l0.map Prod.snd → False
  | _, _, .nil, h => nomatch h
  | x0 :: _, _ :: _, .cons hd tl, h => by
    rw [List.map_cons] at h
    rcases List.mem_cons.mp h with e | h
    · rcases hd.2 with ⟨_, z⟩ | ⟨_, z, _⟩
      · exact h0 (z.symm.trans e.symm)
      · exact ho _ z e.symm
    · exact lsh_ne ho h0 tl h
theorem putM_in {β : Type} {l : List (κ × β)} {k k0 : κ} {b : β} (h : k0 ∈ l.map Prod.fst) : k0 ∈ (putM l k b).map Prod.fst := by
  unfold putM
  split
  · rw [List.map_map, show (l.map (Prod.fst ∘ fun e => if e.1 = k then (e.1, b) else e)) = l.map Prod.fst from List.map_congr_left fun e _ => by
      show (if e.1 = k then (e.1, b) else e).1 = e.1
      split <;> rfl]
    exact h
  · rw [List.map_append]; exact List.mem_append_left _ h
theorem sq_putDH {c0 : Type} {cc : Cl c0} {x0 : c0} {l l' : List (κ × List δ)} {k k0 : κ} {q0 : Addr} {xs : List δ} (hv : EvC (cLst rd) tv Γ Γ1 xs) (hk : EvX rk tk Γ1 Γ2 k) (h1 : Γ1[i]? = some (.tre (.ref p) (tDH P w ky rd k0 q0) l)) (h2 : Γ2[i]? = some (.tre (.ref p) (tDH P w ky rd k0 q0) l)) (h3 : Γ2[j]? = some (.cel q0 cc x0)) (ne : k ≠ k0) (e : pyPutD l k xs = some l') (n : Nx A (u D) (Γ2.set i (.tre (.ref p) (tDH P w ky rd k0 q0) l'))) :
    Nx A (tSeq (sFPut P w (tVar i) tk tv) u D) Γ := fun σ H B F => by
  unfold pyPutD at e
  split at e
  · rename_i hl
    cases e
    refine hv A σ H B F _ fun q o H1 B1 F1 n1 s1 k1 => ?_
    obtain ⟨us, rfl, kp⟩ := k1
    refine ⟨_, (F1.sl i _ h1).1, hk _ σ H1 B1 F1 _ fun y H2 B2 F2 s2 k2 => ?_⟩
    obtain ⟨ow, W⟩ := F2.own
    obtain ⟨e1, p2, ob, kvs, l0, e4, op, hp, dr, D2, nq0, nk0, pq0, hk0⟩ := W.so i _ h2
    cases e4
    have hm : ¬ A.m q := fun m => F.mh.al q m n1
    have hHq := F2.hid n1 F.mh
    have hBq := F2.hidB n1 F.sub
    have hh := W.ht i
    have hpA := hh p op
    have pq : p ≠ q := hpA.ne hm
    have hpm : A.H0 p = none ∨ A.m p := hpA.base n1
    have Dp := (F2.drop n1 F.sub F.mh).post
    refine ⟨p, ob, kvs, ky.key k, rfl, hp, ky.ok k2, ?_, fun o' => n _ _ B2 ?_⟩
    · rw [Paired.len dr, Paired.len D2]; exact Nat.lt_of_lt_of_le hl (by decide)
    · have hHq' : upd H2 p (dFO P w p o' (putK kvs (ky.key k) (V.ref q))) q = some (.lst us) := by rw [upd_ne (Ne.symm pq)]; exact hHq
      refine W.chg F2.len ⟨fun b u z => ?_, Dp.b0, fun b u nm nt z => ?_, Dp.out, fun b n => ?_, F.sub, F.mh, Dp.ph, Dp.sz.upd True.intro, Dp.tb.upd (Hot.nt hpA F2.mh)⟩ (Same.refl _) (fun a => ow i a ∨ a = q) (fun a z => ?_) (fun a z => ?_) (fun a h nq => ?_) fun _ => ⟨e1, p, o', _, putM l0 k q, rfl, .inl op, upd_same, ?_⟩
      · have hb : b ≠ p := fun z2 => by rw [z2, hpA.1] at z; cases z
        rw [upd_ne hb]; exact Dp.bh b u z
      · have hb : b ≠ p := fun z2 => by
          rcases hpm with m | m
          · rw [z2, m] at z; cases z
          · rw [z2] at nm; exact nm m
        rw [upd_ne hb]; exact Dp.keep b u nm nt z
      · by_cases hb : b = p
        · rw [hb, upd_same]; simp
        · rw [upd_ne hb]; exact Dp.alive b n
      · rcases z with z | z
        · exact .inl z
        · exact .inr fun h => h.ne hm z
      · rcases z with z | z
        · have h := hh a z
          refine ⟨h.1, ?_, h.base n1⟩
          by_cases hb : a = p
          · rw [hb, upd_same]; simp
          · rw [upd_ne hb]; exact h.2.1
        · subst z
          exact ⟨hBq, by rw [hHq']; simp, .inl n1⟩
      · have hb : a ≠ p := fun z => nq (by rw [z]; exact op)
        exact ⟨⟨h.1, by rw [upd_ne hb]; exact h.2.1, h.base n1⟩, fun u hu => by rw [upd_ne hb]; exact hu⟩
      · have hn : q0 ≠ q := fun z => (W.ht j q0 (W.so j _ h3).2.1).ne hm z
        have D3 : Paired (LsH rd B2 (upd H2 p (dFO P w p o' (putK kvs (ky.key k) (V.ref q)))) (fun a => (ow i a ∨ a = q) ∧ a ≠ p) k0 q0) l0 l := Paired.imp2 (fun _ _ z => ⟨z.1, z.2.imp id fun ⟨z1, z2, us', hu', z3⟩ => ⟨z1, ⟨.inl z2.1, z2.2⟩, us', by rw [upd_ne z2.2]; exact hu', z3⟩⟩) D2
        have hql : q ∉ l0.map Prod.snd := fun z => lsh_ne (fun a z2 => (hh a z2.1).ne hm) hn D2 z
        exact ⟨put_pair ky (rv := rQ) (k := k) (v := .ref q) (b := q) rfl dr, pr_put (fun _ _ z => z.1) ⟨rfl, .inr ⟨ne, ⟨.inr rfl, Ne.symm pq⟩, us, hHq', Paired.monoR s2 kp⟩⟩ D3, putM_nq nk0 nq0 hql, putM_nk nk0, pq0, putM_in hk0⟩
  · cases e
theorem nx_frzDB {l0 : List (κ × Addr)} {l : List (κ × List δ)} {Q : L2.St → Hp → Prop} (i : Nat) (hA : ∀ q, ¬ A.m q) (e : Γ[i]? = some (.tre (.ref p) (tDB P w ky rd l0) l)) (h : Nx A Q (Γ.set i (.imm (rDicF P w ky (rLst rd)) l))) : Nx A Q Γ := fun σ H B F => by
  obtain ⟨ow, W⟩ := F.own
  obtain ⟨e1, p2, ob, kvs, e4, hp, D⟩ := W.so i _ e
  cases e4
  have ho : ∀ q ∈ l0.map Prod.snd, ow i q := fun q hq => (ls_all D.ls q hq).1
  have hq : ∀ q ∈ l0.map Prod.snd, B q = none ∧ ∃ us, H q = some (.lst us) := fun q hq => ⟨(W.ht i q (ho q hq)).1, (ls_all D.ls q hq).2⟩
  have bb : Same B (adL B H (l0.map Prod.snd)) := adL_same hq
  have h0 : ∀ q ∈ l0.map Prod.snd, A.H0 q = none := fun q z => (W.ht i q (ho q z)).2.2.elim id fun m => absurd m (hA q)
  refine h σ H (adL B H (l0.map Prod.snd)) (W.chg F.len ⟨fun b u z => ?_, fun b u z => bb b u (F.b0 b u z), F.keep, fun b n z => ?_, F.alive, F.sub, F.mh, A.up _ _ bb F.ph, F.sz, F.tb.to (fun _ _ => rfl) bb fun q m => ?_⟩ bb (fun _ => False) (fun _ z => z.elim) (fun _ z => z.elim) (fun a h nq => ?_) fun _ => ⟨_, e1, p, _, rfl, bb p _ hp, ob, kvs, rfl, db_pair (fun q us hq' hu => ?_) bb (fun _ hz => List.mem_map_of_mem hz) D.dr D.ls⟩)
  · unfold adL at z
    split at z
    · exact z
    · exact F.bh b u z
  · unfold adL
    split
    · rename_i hb
      exact absurd (h0 b hb) n
    · exact F.out b n z
  · unfold adL
    rw [if_neg fun z => Hot.nt (W.ht i q (ho q z)) F.mh m]
    exact F.tb.no q m
  · have : a ∉ l0.map Prod.snd := fun z => nq (ho a z)
    exact ⟨⟨by unfold adL; rw [if_neg this]; exact h.1, h.2⟩, fun _ z => z⟩
  · unfold adL
    rw [if_pos hq']; exact hu
end
end G
namespace Law
open PySem L2 G
def m_is_name_c1 (letter9 : Str) : Option (Option Bool) := bindO (pyInSg letter9 (Str.ofString "abcdefghijklmnopqrstuvwxyz0123456789_")) fun n10 => some (some n10)
def m_is_name (text0 : Str) : Option Bool := bindO (pyLenS text0) fun n1 => letO ((decide (n1 = (0 : Int)))) fun c4 => bindO (iteO c4 (some true) (bindO (pyLenS text0) fun n2 => some (decide ((20 : Int) < n2)))) fun b3 => letO (b3) fun c5 => iteO c5 (some false) (bindO (pyIxS text0 (0 : Int)) fun y6 => bindO (pyInSg y6 (Str.ofString "abcdefghijklmnopqrstuvwxyz")) fun n7 => letO (n7) fun c13 => bindO (iteO c13 (bindO (pySgn text0) fun l8 => bindO (compL (m_is_name_c1) l8) fun l11 => some (l11.all id)) (some false)) fun b12 => some b12)
def m_are_columns_c1 (column5 : Str) : Option (Option Bool) := bindO (m_is_name column5) fun v6 => some (some v6)
def m_are_columns (columns0 : (List Str)) : Option Bool := letO ((decide ((0 : Int) < (columns0.length : Int)))) fun c3 => bindO (iteO c3 (bindO (pyLenSt columns0) fun n1 => some (decide (n1 = (columns0.length : Int)))) (some false)) fun b2 => letO (b2) fun distinct4 => letO (distinct4) fun c9 => bindO (iteO c9 (bindO (compL (m_are_columns_c1) columns0) fun l7 => some (l7.all id)) (some false)) fun b8 => some b8
def m_is_key_c1 (columns0 : (List Str)) (column5 : Str) : Option (Option Bool) := some (some (decide (column5 ∈ columns0)))
def m_is_key (key0 : (List Str)) (columns0 : (List Str)) : Option Bool := letO ((decide ((0 : Int) < (key0.length : Int)))) fun c3 => bindO (iteO c3 (bindO (pyLenSt key0) fun n1 => some (decide (n1 = (key0.length : Int)))) (some false)) fun b2 => letO (b2) fun distinct4 => letO (distinct4) fun c8 => bindO (iteO c8 (bindO (compL (m_is_key_c1 columns0) key0) fun l6 => some (l6.all id)) (some false)) fun b7 => some b7
def m_Table___init_c1 (key0 : (List Str)) (column11 : Str) : Option (Option Str) := letO ((decide (column11 ∈ key0))) fun c12 => iteO c12 (some (some column11)) (some (none))
def m_Table___init_c2 (key0 : (List Str)) (at15 : (Int × Str)) : Option (Option Int) := letO ((decide (at15.2 ∈ key0))) fun c16 => iteO c16 (some (some at15.1)) (some (none))
def m_Table___init (name0 : Str) (columns0 : (List Str)) (key0 : (List Str)) : Option (Str × (List Str) × (List Str) × (List Int)) := bindO (m_is_name name0) fun v1 => letO (v1) fun c7 => bindO (iteO c7 (bindO (m_are_columns columns0) fun v2 => letO (v2) fun c5 => bindO (iteO c5 (bindO (m_is_key key0 columns0) fun v3 => some v3) (some false)) fun b4 => some b4) (some false)) fun b6 => letO ((!b6)) fun c8 => iteO c8 (none) (letO (name0) fun name9 => letO (columns0) fun columns10 => bindO (compL (m_Table___init_c1 key0) columns0) fun l13 => letO (l13) fun key14 => bindO (compL (m_Table___init_c2 key0) (enumL columns0)) fun l17 => letO (l17) fun key_places18 => some (name9, columns10, key14, key_places18))
def m_Table_fits (self0 : (Str × (List Str) × (List Str) × (List Int))) (row0 : (List Int)) : Option Bool := some (decide ((row0.length : Int) = (self0.2.1.length : Int)))
def m_Table_key_of_c1 (row0 : (List Int)) (at3 : Int) : Option (Option Int) := bindO (atI row0 at3) fun y4 => some (some y4)
def m_Table_key_of (self0 : (Str × (List Str) × (List Str) × (List Int))) (row0 : (List Int)) : Option (Res (Str × (List Int)) (List Int)) := bindO (m_Table_fits self0 row0) fun v1 => letO ((!v1)) fun c2 => iteO c2 (some (.er (self0.1, row0))) (bindO (compL (m_Table_key_of_c1 row0) self0.2.2.2) fun l5 => some (.ok l5))
def m_sorted_tables_b1 (table3 : (Str × (List Str) × (List Str) × (List Int))) (s2 : (List (Str × (Str × (List Str) × (List Str) × (List Int))))) : Option (Step (Res Str (List (Str × (List Str) × (List Str) × (List Int)))) (List (Str × (Str × (List Str) × (List Str) × (List Int))))) := letO ((getM s2 table3.1).isSome) fun c4 => iteO c4 (some (.ret (.er table3.1))) (bindO (pyPutD s2 table3.1 table3) fun d5 => some (.nx d5))
def m_sorted_tables_c1 (e7 : (List (Str × (Str × (List Str) × (List Str) × (List Int))))) (name10 : Str) : Option (Option (Str × (List Str) × (List Str) × (List Int))) := bindO (getM e7 name10) fun y11 => some (some y11)
def m_sorted_tables (tables0 : (List (Str × (List Str) × (List Str) × (List Int)))) : Option (Res Str (List (Str × (List Str) × (List Str) × (List Int)))) := letO (([] : (List (Str × (Str × (List Str) × (List Str) × (List Int)))))) fun named1 => bindO (forL (m_sorted_tables_b1) tables0 named1) fun R6 => stepO R6 fun e7 => bindO (pyKeysD e7) fun l8 => bindO (pySortS l8) fun l9 => bindO (compL (m_sorted_tables_c1 e7) l9) fun l12 => some (.ok l12)
def m_sorted_tables_Vt_b1 (table3 : (Str × (List Str) × (List Str) × (List Int))) (s2 : (List (Str × (Str × (List Str) × (List Str) × (List Int))))) : Option (Step (Res Str (List (Str × (List Str) × (List Str) × (List Int)))) (List (Str × (Str × (List Str) × (List Str) × (List Int))))) := letO ((getM s2 table3.1).isSome) fun c4 => iteO c4 (some (.ret (.er table3.1))) (bindO (pyPutD s2 table3.1 table3) fun d5 => some (.nx d5))
def m_sorted_tables_Vt_c1 (e7 : (List (Str × (Str × (List Str) × (List Str) × (List Int))))) (name10 : Str) : Option (Option (Str × (List Str) × (List Str) × (List Int))) := bindO (getM e7 name10) fun y11 => some (some y11)
def m_sorted_tables_Vt (tables0 : (List (Str × (List Str) × (List Str) × (List Int)))) : Option (Res Str (List (Str × (List Str) × (List Str) × (List Int)))) := letO (([] : (List (Str × (Str × (List Str) × (List Str) × (List Int)))))) fun named1 => bindO (forL (m_sorted_tables_Vt_b1) tables0 named1) fun R6 => stepO R6 fun e7 => bindO (pyKeysD e7) fun l8 => bindO (pySortS l8) fun l9 => bindO (compL (m_sorted_tables_Vt_c1 e7) l9) fun l12 => some (.ok l12)
def m_Shelf___init (held0 : (List ((List Int) × (List Int)))) : Option (List ((List Int) × (List Int))) := letO (held0) fun held1 => some held1
def m_shelf_of_b1 (table0 : (Str × (List Str) × (List Str) × (List Int))) (row4 : (List Int)) (s3 : (List ((List Int) × (List Int)))) : Option (Step (Res ((Str × (List Int)) ⊕ (Str × (List Int))) (List ((List Int) × (List Int)))) (List ((List Int) × (List Int)))) := bindO (m_Table_key_of table0 row4) fun r5 => resX r5 (fun key6 => letO ((getM s3 key6).isSome) fun c8 => iteO c8 (some (.ret (.er (.inr (table0.1, key6))))) (bindO (pyPutD s3 key6 row4) fun d9 => some (.nx d9))) (fun e7 => some (.ret (.er (.inl e7))))
def m_shelf_of_c1 (e11 : (List ((List Int) × (List Int)))) (key14 : (List Int)) : Option (Option ((List Int) × (List Int))) := bindO (getM e11 key14) fun y15 => some (some (key14, y15))
def m_shelf_of (table0 : (Str × (List Str) × (List Str) × (List Int))) (rows0 : (List (List Int))) : Option (Res ((Str × (List Int)) ⊕ (Str × (List Int))) (List ((List Int) × (List Int)))) := letO (false) fun c1 => iteO c1 (none) (bindO (forL (m_shelf_of_b1 table0) rows0 ([] : (List ((List Int) × (List Int))))) fun R10 => stepO R10 fun e11 => bindO (pyKeysD e11) fun l12 => bindO (pySortU l12) fun l13 => bindO (compD (m_shelf_of_c1 e11) l13 []) fun d16 => bindO (m_Shelf___init d16) fun o17 => some (.ok o17))
def m_shelf_of_Ve_b1 (table0 : (Str × (List Str) × (List Str) × (List Int))) (row4 : (List Int)) (s3 : (List ((List Int) × (List Int)))) : Option (Step (Res ((Str × (List Int)) ⊕ (Str × (List Int))) (List ((List Int) × (List Int)))) (List ((List Int) × (List Int)))) := bindO (m_Table_key_of table0 row4) fun r5 => resX r5 (fun key6 => letO ((getM s3 key6).isSome) fun c8 => iteO c8 (some (.ret (.er (.inr (table0.1, key6))))) (bindO (pyPutD s3 key6 row4) fun d9 => some (.nx d9))) (fun e7 => some (.ret (.er (.inl e7))))
def m_shelf_of_Ve_c1 (e11 : (List ((List Int) × (List Int)))) (key14 : (List Int)) : Option (Option ((List Int) × (List Int))) := bindO (getM e11 key14) fun y15 => some (some (key14, y15))
def m_shelf_of_Ve (table0 : (Str × (List Str) × (List Str) × (List Int))) (rows0 : Unit) : Option (Res ((Str × (List Int)) ⊕ (Str × (List Int))) (List ((List Int) × (List Int)))) := letO (false) fun c1 => iteO c1 (none) (bindO (forL (m_shelf_of_Ve_b1 table0) ([] : (List (List Int))) ([] : (List ((List Int) × (List Int))))) fun R10 => stepO R10 fun e11 => bindO (pyKeysD e11) fun l12 => bindO (pySortU l12) fun l13 => bindO (compD (m_shelf_of_Ve_c1 e11) l13 []) fun d16 => bindO (m_Shelf___init d16) fun o17 => some (.ok o17))
def m_shelf_of_Va (x0 : (Str × (List Str) × (List Str) × (List Int))) (y0 : ((List (List Int)) ⊕ Unit)) : Option (Res ((Str × (List Int)) ⊕ (Str × (List Int))) (List ((List Int) × (List Int)))) := altO y0 (fun a => m_shelf_of x0 a) (fun b => m_shelf_of_Ve x0 b)
def m_filled_shelves_c1 (table1 : (Str × (List Str) × (List Str) × (List Int))) : Option (Option Str) := some (some table1.1)
def m_filled_shelves_b1 (names3 : (List Str)) (name7 : Str) (s6 : Unit) : Option (Step (Res (Str ⊕ ((Str × (List Int)) ⊕ (Str × (List Int)))) (List (Str × (List ((List Int) × (List Int)))))) Unit) := letO ((!decide (name7 ∈ names3))) fun c8 => iteO c8 (some (.ret (.er (.inl name7)))) (some (.nx ()))
def m_filled_shelves_c2 (table11 : (Str × (List Str) × (List Str) × (List Int))) : Option (Str) := some (table11.1)
def m_filled_shelves_c3 (rows0 : (List (Str × (List (List Int))))) (table11 : (Str × (List Str) × (List Str) × (List Int))) : Option (Res ((Str × (List Int)) ⊕ (Str × (List Int))) (List ((List Int) × (List Int)))) := m_shelf_of_Va table11 (getA (getM rows0 table11.1) ())
def m_filled_shelves (tables0 : (List (Str × (List Str) × (List Str) × (List Int)))) (rows0 : (List (Str × (List (List Int))))) : Option (Res (Str ⊕ ((Str × (List Int)) ⊕ (Str × (List Int)))) (List (Str × (List ((List Int) × (List Int)))))) := bindO (compL (m_filled_shelves_c1) tables0) fun l2 => letO (l2) fun names3 => bindO (pyKeysD rows0) fun l4 => bindO (pySortS l4) fun l5 => bindO (forL (m_filled_shelves_b1 names3) l5 ()) fun R9 => stepO R9 fun e10 => bindO (compDE (m_filled_shelves_c2) (m_filled_shelves_c3 rows0) tables0 []) fun r12 => resX r12 (fun y13 => some (.ok y13)) (fun e14 => sumO e14 (fun e15 => some (.er (.inr (.inl e15)))) (fun e16 => some (.er (.inr (.inr e16)))))
def m_Store___init_c1 (table4 : (Str × (List Str) × (List Str) × (List Int))) : Option (Option Str) := some (some table4.1)
def m_Store___init (tables0 : (List (Str × (List Str) × (List Str) × (List Int)))) (rows0 : (List (Str × (List (List Int))))) : Option (Res (Str ⊕ (Str ⊕ ((Str × (List Int)) ⊕ (Str × (List Int))))) ((List (Str × (List Str) × (List Str) × (List Int))) × (List Str) × (List (Str × (List ((List Int) × (List Int))))))) := bindO (m_sorted_tables tables0) fun r1 => resX r1 (fun self2 => bindO (compL (m_Store___init_c1) self2) fun l5 => letO (l5) fun names6 => bindO (m_filled_shelves ((self2, names6).1) rows0) fun r7 => resX r7 (fun self8 => some (.ok (self2, names6, self8))) (fun e9 => sumO e9 (fun e10 => some (.er (.inr (.inl e10)))) (fun e11 => sumO e11 (fun e12 => some (.er (.inr (.inr (.inl e12))))) (fun e13 => some (.er (.inr (.inr (.inr e13)))))))) (fun e3 => some (.er (.inl e3)))
def m_Store___init___Vt_c1 (table4 : (Str × (List Str) × (List Str) × (List Int))) : Option (Option Str) := some (some table4.1)
def m_Store___init___Vt (tables0 : (List (Str × (List Str) × (List Str) × (List Int)))) (rows0 : (List (Str × (List (List Int))))) : Option (Res (Str ⊕ (Str ⊕ ((Str × (List Int)) ⊕ (Str × (List Int))))) ((List (Str × (List Str) × (List Str) × (List Int))) × (List Str) × (List (Str × (List ((List Int) × (List Int))))))) := bindO (m_sorted_tables_Vt tables0) fun r1 => resX r1 (fun self2 => bindO (compL (m_Store___init___Vt_c1) self2) fun l5 => letO (l5) fun names6 => bindO (m_filled_shelves ((self2, names6).1) rows0) fun r7 => resX r7 (fun self8 => some (.ok (self2, names6, self8))) (fun e9 => sumO e9 (fun e10 => some (.er (.inr (.inl e10)))) (fun e11 => sumO e11 (fun e12 => some (.er (.inr (.inr (.inl e12))))) (fun e13 => some (.er (.inr (.inr (.inr e13)))))))) (fun e3 => some (.er (.inl e3)))
def m_l_start (script0 : (List Int)) : Option ((List Int) × Int × Int × Int) := letO ((0 : Int)) fun first1 => letO ((decide ((0 : Int) < (script0.length : Int)))) fun c2 => bindO (iteO c2 (bindO (atI script0 (0 : Int)) fun y4 => letO (y4) fun first5 => some first5) (some first1)) fun j3 => bindO (pyScr script0) fun l6 => some (l6, (1 : Int), j3, (0 : Int))
def m_l_draw (st0 : ((List Int) × Int × Int × Int)) (many0 : Int) : Option (Int × ((List Int) × Int × Int × Int)) := letO ((decide (((10 : Int) ^ ((18 : Int)).toNat) ≤ st0.2.2.1))) fun c1 => iteO c1 (bindO (pyMod st0.2.2.1 many0) fun r2 => letO (r2) fun drawn3 => bindO (pyDiv st0.2.2.1 many0) fun q4 => letO ((st0.1, st0.2.1, q4, st0.2.2.2)) fun z5 => some (drawn3, z5)) (letO ((st0.1, st0.2.1, st0.2.2.1, (st0.2.2.2 + (1 : Int)))) fun z6 => letO ((((z6.2.2.1 % (1000000007 : Int)) + ((69621 : Int) * z6.2.2.2)) + (48271 : Int))) fun seed7 => bindO (pyPow seed7 (17 : Int)) fun w8 => letO ((w8 % (170141183460469231731687303715884105727 : Int))) fun mixed9 => letO ((decide (z6.2.1 < (z6.1.length : Int)))) fun c10 => bindO (iteO c10 (bindO (atI z6.1 z6.2.1) fun y12 => letO ((z6.1, z6.2.1, y12, z6.2.2.2)) fun z13 => letO ((z13.1, (z13.2.1 + (1 : Int)), z13.2.2.1, z13.2.2.2)) fun z14 => some z14) (some z6)) fun j11 => bindO (pyMod (mixed9 / (64 : Int)) many0) fun r15 => some (r15, j11))
def m_l_tables_b1 (k12 : Int) (s11 : ((List (Str × (List Str) × (List Str) × (List Int))) × (List (Str × (List Str) × (List Str) × (List Int))) × ((List Int) × Int × Int × Int))) : Option (Step ((List (Str × (List Str) × (List Str) × (List Int))) × ((List Int) × Int × Int × Int) × Unit) ((List (Str × (List Str) × (List Str) × (List Int))) × (List (Str × (List Str) × (List Str) × (List Int))) × ((List Int) × Int × Int × Int))) := bindO (m_l_draw s11.2.2 (s11.2.1.length : Int)) fun p13 => bindO (pyPop s11.2.1 p13.1) fun o14 => bindO (pyApp s11.1 o14.1) fun found15 => some (.nx (found15, o14.2, p13.2))
def m_l_tables (state0 : ((List Int) × Int × Int × Int)) : Option ((List (Str × (List Str) × (List Str) × (List Int))) × ((List Int) × Int × Int × Int) × Unit) := bindO (m_Table___init (Str.ofString "stock") [(Str.ofString "amount"), (Str.ofString "shop"), (Str.ofString "code")] [(Str.ofString "code"), (Str.ofString "shop")]) fun o1 => bindO (m_Table___init (Str.ofString "people") [(Str.ofString "id"), (Str.ofString "city")] [(Str.ofString "id")]) fun o2 => letO ([o1, o2]) fun some3 => bindO (m_Table___init (Str.ofString "b") [(Str.ofString "x")] [(Str.ofString "x")]) fun o4 => bindO (m_Table___init (Str.ofString "b_2") [(Str.ofString "y"), (Str.ofString "z")] [(Str.ofString "z")]) fun o5 => bindO (pyCat some3 [o4, o5]) fun l6 => letO (l6) fun some7 => letO ([]) fun found8 => bindO (m_l_draw state0 (3 : Int)) fun p9 => bindO (pyRng ((2 : Int) + p9.1)) fun l10 => bindO (forL (m_l_tables_b1) l10 (found8, some7, p9.2)) fun R16 => stepO R16 fun e17 => some (e17.1, (e17.2.2, ()))
def m_l_key (name0 : Str) (row_here0 : (List Int)) : Option (List Int) := bindO (getM ([((Str.ofString "stock"), (cut row_here0 (some (1 : Int)) none)), ((Str.ofString "people"), (cut row_here0 none (some (1 : Int)))), ((Str.ofString "b"), row_here0), ((Str.ofString "b_2"), (cut row_here0 (some (1 : Int)) none))] : (List (Str × (List Int)))) name0) fun y1 => some y1
def m_l_size (name0 : Str) : Option Int := bindO (getM ([((Str.ofString "stock"), (3 : Int)), ((Str.ofString "people"), (2 : Int)), ((Str.ofString "b"), (1 : Int)), ((Str.ofString "b_2"), (2 : Int))] : (List (Str × Int))) name0) fun y1 => some y1
def m_l_row_c1 (j3 : Int) (st4 : ((List Int) × Int × Int × Int)) : Option (Option Int × ((List Int) × Int × Int × Int)) := bindO (m_l_draw st4 (6 : Int)) fun p5 => bindO (atI [(0 : Int), (9 : Int), (10 : Int), (99 : Int), (-(3 : Int)), ((10 : Int) ^ ((29 : Int)).toNat)] p5.1) fun y6 => some (some y6, p5.2)
def m_l_row (state0 : ((List Int) × Int × Int × Int)) (name0 : Str) : Option ((List Int) × ((List Int) × Int × Int × Int) × Unit) := bindO (m_l_size name0) fun v1 => bindO (pyRng v1) fun l2 => bindO (compS (m_l_row_c1) l2 state0) fun l7 => some (l7.1, (l7.2, ()))
def m_l_rows_c1 (name0 : Str) (other9 : (List Int)) : Option (Option (List Int)) := bindO (m_l_key name0 other9) fun v10 => some (some v10)
def m_l_rows_b1 (name0 : Str) (k5 : Int) (s4 : (((List Int) × Int × Int × Int) × (List (List Int)))) : Option (Step ((List (List Int)) × ((List Int) × Int × Int × Int) × Unit) (((List Int) × Int × Int × Int) × (List (List Int)))) := bindO (m_l_row s4.1 name0) fun p6 => letO (p6.1) fun row_here7 => bindO (m_l_key name0 row_here7) fun v8 => bindO (compL (m_l_rows_c1 name0) s4.2) fun l11 => bindO (pyInD ((dTpl PyData.int) v8) (List.map (dTpl PyData.int) l11)) fun n12 => letO ((!n12)) fun c13 => iteO c13 (bindO (pyApp s4.2 row_here7) fun found14 => some (.nx (p6.2.1, found14))) (some (.nx (p6.2.1, s4.2)))
def m_l_rows (state0 : ((List Int) × Int × Int × Int)) (name0 : Str) : Option ((List (List Int)) × ((List Int) × Int × Int × Int) × Unit) := letO ([]) fun found1 => bindO (m_l_draw state0 (7 : Int)) fun p2 => bindO (pyRng p2.1) fun l3 => bindO (forL (m_l_rows_b1 name0) l3 (p2.2, found1)) fun R15 => stepO R15 fun e16 => some (e16.2, (e16.1, ()))
def m_l_spoil (state0 : ((List Int) × Int × Int × Int)) (tables_here0 : (List (Str × (List Str) × (List Str) × (List Int)))) (handed0 : (List (Str × (List (List Int))))) : Option (Unit × ((List Int) × Int × Int × Int) × (List (Str × (List Str) × (List Str) × (List Int))) × (List (Str × (List (List Int)))) × Unit) := bindO (m_l_draw state0 (5 : Int)) fun p1 => letO (p1.1) fun kind2 => bindO (m_l_draw p1.2 (8 : Int)) fun p3 => letO (p3.1) fun spot4 => bindO (m_l_draw p3.2 (tables_here0.length : Int)) fun p5 => bindO (atI tables_here0 p5.1) fun y6 => letO (y6.1) fun name7 => bindO (getM handed0 name7) fun here8 => bindO (m_l_row p5.2 name7) fun p9 => letO (p9.1) fun row_here10 => letO ((decide (kind2 = (0 : Int)))) fun c11 => bindO (iteO c11 (bindO (pyMod spot4 ((tables_here0.length : Int) + (1 : Int))) fun r13 => bindO (m_Table___init name7 [(Str.ofString "q")] [(Str.ofString "q")]) fun o14 => bindO (pyIns tables_here0 r13 o14) fun tables_here15 => some tables_here15) (some tables_here0)) fun j12 => letO ((decide (kind2 = (1 : Int)))) fun c16 => bindO (iteO c16 (bindO (atI [(Str.ofString "aa"), (Str.ofString "zz"), (Str.ofString "bb"), (Str.ofString "c")] (spot4 % (4 : Int))) fun y18 => bindO (pyNe y18 name7) fun _ => bindO (pyPutD handed0 y18 []) fun d19 => some d19) (some handed0)) fun j17 => letO ((decide (kind2 = (2 : Int)))) fun c21 => bindO (iteO c21 (bindO (pyMod spot4 ((here8.length : Int) + (1 : Int))) fun r23 => bindO (pyCat row_here10 [(1 : Int)]) fun l24 => bindO (pyIns here8 r23 l24) fun here25 => some here25) (some here8)) fun j22 => letO ((decide (kind2 = (3 : Int)))) fun c26 => bindO (iteO c26 (bindO (pyMod spot4 ((j22.length : Int) + (1 : Int))) fun r28 => bindO (pyIns j22 r28 (cut row_here10 (some (1 : Int)) none)) fun here29 => some here29) (some j22)) fun j27 => letO ((decide (kind2 = (4 : Int)))) fun c30 => iteO c30 (bindO (pyEq ((dLst (dTpl PyData.int)) j27) ((dHls dw0) ())) fun q31 => letO (q31) fun c32 => bindO (iteO c32 (bindO (pyApp j27 row_here10) fun here34 => some here34) (some j27)) fun j33 => bindO (m_l_draw p9.2.1 (j33.length : Int)) fun p35 => bindO (atI j33 p35.1) fun y36 => letO (y36) fun twin37 => bindO (pyMod spot4 ((j33.length : Int) + (1 : Int))) fun r38 => bindO (pyIns j33 r38 twin37) fun here39 => some ((), (p35.2, j12, (putM j17 name7 here39), ()))) (some ((), (p9.2.1, j12, (putM j17 name7 j27), ())))
def m_l_due_c1 (table1 : (Str × (List Str) × (List Str) × (List Int))) : Option (Option Str) := some (some table1.1)
def m_l_due_b1 (names3 : (List Str)) (k6 : Int) (s5 : Unit) : Option (Step ((Str × Str) ⊕ ((Str × Str × (List Int)) ⊕ Str)) Unit) := bindO (atI names3 k6) fun y7 => letO ((decide (y7 ∈ (cut names3 none (some k6))))) fun c8 => iteO c8 (bindO (atI names3 k6) fun y9 => some (.ret (.inl ((Str.ofString "DuplicateTable"), y9) : ((Str × Str) ⊕ ((Str × Str × (List Int)) ⊕ Str))))) (some (.nx ()))
def m_l_due_c2 (names3 : (List Str)) (name13 : Str) : Option (Option Str) := letO ((!decide (name13 ∈ names3))) fun c14 => iteO c14 (some (some name13)) (some (none))
def m_l_due_c3 (name23 : Str) (other34 : (List Int)) : Option (Option (List Int)) := bindO (m_l_key name23 other34) fun v35 => some (some v35)
def m_l_due_b2 (name23 : Str) (here24 : (List (List Int))) (k27 : Int) (s26 : Unit) : Option (Step ((Str × Str) ⊕ ((Str × Str × (List Int)) ⊕ Str)) Unit) := bindO (atI here24 k27) fun y28 => bindO (m_l_size name23) fun v29 => letO ((!decide ((y28.length : Int) = v29))) fun c30 => iteO c30 (bindO (atI here24 k27) fun y31 => some (.ret (.inr (.inl ((Str.ofString "InvalidRow"), name23, y31) : ((Str × Str × (List Int)) ⊕ Str)) : ((Str × Str) ⊕ ((Str × Str × (List Int)) ⊕ Str))))) (bindO (atI here24 k27) fun y32 => bindO (m_l_key name23 y32) fun v33 => bindO (compL (m_l_due_c3 name23) (cut here24 none (some k27))) fun l36 => bindO (pyInD ((dTpl PyData.int) v33) (List.map (dTpl PyData.int) l36)) fun n37 => letO (n37) fun c38 => iteO c38 (bindO (atI here24 k27) fun y39 => bindO (m_l_key name23 y39) fun v40 => some (.ret (.inr (.inl ((Str.ofString "DuplicateKey"), name23, v40) : ((Str × Str × (List Int)) ⊕ Str)) : ((Str × Str) ⊕ ((Str × Str × (List Int)) ⊕ Str))))) (some (.nx ())))
def m_l_due_b3 (handed0 : (List (Str × (List (List Int))))) (name23 : Str) (s22 : Unit) : Option (Step ((Str × Str) ⊕ ((Str × Str × (List Int)) ⊕ Str)) Unit) := letO (((getM handed0 name23).getD [])) fun here24 => bindO (pyRng (here24.length : Int)) fun l25 => bindO (forL (m_l_due_b2 name23 here24) l25 ()) fun R41 => stepL R41 fun e42 => some (.nx ())
def m_l_due (tables_here0 : (List (Str × (List Str) × (List Str) × (List Int)))) (handed0 : (List (Str × (List (List Int))))) : Option ((Str × Str) ⊕ ((Str × Str × (List Int)) ⊕ Str)) := bindO (compL (m_l_due_c1) tables_here0) fun l2 => letO (l2) fun names3 => bindO (pyRng (names3.length : Int)) fun l4 => bindO (forL (m_l_due_b1 names3) l4 ()) fun R10 => stepO R10 fun e11 => bindO (pyKeysD handed0) fun l12 => bindO (compL (m_l_due_c2 names3) l12) fun l15 => bindO (pySortS l15) fun l16 => letO (l16) fun strange17 => bindO (pyEq ((dLst PyData.str) strange17) ((dHls dw0) ())) fun q18 => letO ((!q18)) fun c19 => iteO c19 (bindO (atI strange17 (0 : Int)) fun y20 => some (.inl ((Str.ofString "NoTable"), y20) : ((Str × Str) ⊕ ((Str × Str × (List Int)) ⊕ Str)))) (bindO (pySortS names3) fun l21 => bindO (forL (m_l_due_b3 handed0) l21 ()) fun R43 => stepO R43 fun e44 => some (.inr (.inr (Str.ofString "made") : ((Str × Str × (List Int)) ⊕ Str)) : ((Str × Str) ⊕ ((Str × Str × (List Int)) ⊕ Str))))
def m_l_made (tables_here0 : (List (Str × (List Str) × (List Str) × (List Int)))) (handed0 : (List (Str × (List (List Int))))) : Option ((Str × Str) ⊕ ((Str × Str × (List Int)) ⊕ Str)) := letO ((none : Option ((Str × Str) ⊕ (Str × Str × (List Int))))) fun caught1 => bindO (m_Store___init tables_here0 handed0) fun r2 => resX r2 (fun law_store3 => letO (caught1.isSome) fun c5 => iteO c5 (bindO (caught1) fun g6 => some ((fun (z : ((Str × Str) ⊕ (Str × Str × (List Int)))) => altO z (fun (z : (Str × Str)) => (.inl ((fun (z : (Str × Str)) => z) z) : ((Str × Str) ⊕ ((Str × Str × (List Int)) ⊕ Str)))) (fun (z : (Str × Str × (List Int))) => (.inr ((fun (z : (Str × Str × (List Int))) => (.inl ((fun (z : (Str × Str × (List Int))) => z) z) : ((Str × Str × (List Int)) ⊕ Str))) z) : ((Str × Str) ⊕ ((Str × Str × (List Int)) ⊕ Str))))) g6)) (some (.inr (.inr (Str.ofString "made") : ((Str × Str × (List Int)) ⊕ Str)) : ((Str × Str) ⊕ ((Str × Str × (List Int)) ⊕ Str))))) (fun e4 => sumO e4 (fun e7 => letO ((some (.inl ((Str.ofString "DuplicateTable"), e7) : ((Str × Str) ⊕ (Str × Str × (List Int)))))) fun caught11 => letO (caught11.isSome) fun c12 => iteO c12 (bindO (caught11) fun g13 => some ((fun (z : ((Str × Str) ⊕ (Str × Str × (List Int)))) => altO z (fun (z : (Str × Str)) => (.inl ((fun (z : (Str × Str)) => z) z) : ((Str × Str) ⊕ ((Str × Str × (List Int)) ⊕ Str)))) (fun (z : (Str × Str × (List Int))) => (.inr ((fun (z : (Str × Str × (List Int))) => (.inl ((fun (z : (Str × Str × (List Int))) => z) z) : ((Str × Str × (List Int)) ⊕ Str))) z) : ((Str × Str) ⊕ ((Str × Str × (List Int)) ⊕ Str))))) g13)) (some (.inr (.inr (Str.ofString "made") : ((Str × Str × (List Int)) ⊕ Str)) : ((Str × Str) ⊕ ((Str × Str × (List Int)) ⊕ Str))))) (fun e8 => sumO e8 (fun e14 => letO ((some (.inl ((Str.ofString "NoTable"), e14) : ((Str × Str) ⊕ (Str × Str × (List Int)))))) fun caught18 => letO (caught18.isSome) fun c19 => iteO c19 (bindO (caught18) fun g20 => some ((fun (z : ((Str × Str) ⊕ (Str × Str × (List Int)))) => altO z (fun (z : (Str × Str)) => (.inl ((fun (z : (Str × Str)) => z) z) : ((Str × Str) ⊕ ((Str × Str × (List Int)) ⊕ Str)))) (fun (z : (Str × Str × (List Int))) => (.inr ((fun (z : (Str × Str × (List Int))) => (.inl ((fun (z : (Str × Str × (List Int))) => z) z) : ((Str × Str × (List Int)) ⊕ Str))) z) : ((Str × Str) ⊕ ((Str × Str × (List Int)) ⊕ Str))))) g20)) (some (.inr (.inr (Str.ofString "made") : ((Str × Str × (List Int)) ⊕ Str)) : ((Str × Str) ⊕ ((Str × Str × (List Int)) ⊕ Str))))) (fun e15 => sumO e15 (fun e21 => letO ((some (.inr ((Str.ofString "InvalidRow"), e21.1, e21.2) : ((Str × Str) ⊕ (Str × Str × (List Int)))))) fun caught25 => letO (caught25.isSome) fun c26 => iteO c26 (bindO (caught25) fun g27 => some ((fun (z : ((Str × Str) ⊕ (Str × Str × (List Int)))) => altO z (fun (z : (Str × Str)) => (.inl ((fun (z : (Str × Str)) => z) z) : ((Str × Str) ⊕ ((Str × Str × (List Int)) ⊕ Str)))) (fun (z : (Str × Str × (List Int))) => (.inr ((fun (z : (Str × Str × (List Int))) => (.inl ((fun (z : (Str × Str × (List Int))) => z) z) : ((Str × Str × (List Int)) ⊕ Str))) z) : ((Str × Str) ⊕ ((Str × Str × (List Int)) ⊕ Str))))) g27)) (some (.inr (.inr (Str.ofString "made") : ((Str × Str × (List Int)) ⊕ Str)) : ((Str × Str) ⊕ ((Str × Str × (List Int)) ⊕ Str))))) (fun e22 => letO ((some (.inr ((Str.ofString "DuplicateKey"), e22.1, e22.2) : ((Str × Str) ⊕ (Str × Str × (List Int)))))) fun caught30 => letO (caught30.isSome) fun c31 => iteO c31 (bindO (caught30) fun g32 => some ((fun (z : ((Str × Str) ⊕ (Str × Str × (List Int)))) => altO z (fun (z : (Str × Str)) => (.inl ((fun (z : (Str × Str)) => z) z) : ((Str × Str) ⊕ ((Str × Str × (List Int)) ⊕ Str)))) (fun (z : (Str × Str × (List Int))) => (.inr ((fun (z : (Str × Str × (List Int))) => (.inl ((fun (z : (Str × Str × (List Int))) => z) z) : ((Str × Str × (List Int)) ⊕ Str))) z) : ((Str × Str) ⊕ ((Str × Str × (List Int)) ⊕ Str))))) g32)) (some (.inr (.inr (Str.ofString "made") : ((Str × Str × (List Int)) ⊕ Str)) : ((Str × Str) ⊕ ((Str × Str × (List Int)) ⊕ Str))))))))
def m_l_base_caught_c1 (word0 : Str) (name15 : Str) : Option (Option Bool) := some (some (decide (name15 = word0)))
def m_l_base_caught_c2 (word0 : Str) (name31 : Str) : Option (Option Bool) := some (some (decide (name31 = word0)))
def m_l_base_caught_c3 (word0 : Str) (name47 : Str) : Option (Option Bool) := some (some (decide (name47 = word0)))
def m_l_base_caught_c4 (word0 : Str) (name61 : Str) : Option (Option Bool) := some (some (decide (name61 = word0)))
def m_l_base_caught (tables_here0 : (List (Str × (List Str) × (List Str) × (List Int)))) (handed0 : (List (Str × (List (List Int))))) (word0 : Str) : Option Bool := letO ((none : Option Bool)) fun caught1 => bindO (m_Store___init___Vt tables_here0 handed0) fun r2 => resX r2 (fun y3 => letO (caught1.isSome) fun c5 => iteO c5 (bindO (caught1) fun g6 => some g6) (some (decide (word0 = (Str.ofString "made"))))) (fun e4 => sumO e4 (fun e7 => letO ([true, false, false]) fun classes11 => bindO (pyCat classes11 [false, false]) fun l12 => letO (l12) fun classes13 => letO ([(Str.ofString "DuplicateTable"), (Str.ofString "NoTable"), (Str.ofString "InvalidRow"), (Str.ofString "DuplicateKey"), (Str.ofString "Unlike")]) fun names14 => letO (true) fun c19 => bindO (iteO c19 (bindO (compL (m_l_base_caught_c1 word0) names14) fun l16 => bindO (pyEq ((dLst PyData.bool) classes13) ((dLst PyData.bool) l16)) fun q17 => some q17) (some false)) fun b18 => letO ((some b18)) fun caught20 => letO (caught20.isSome) fun c21 => iteO c21 (bindO (caught20) fun g22 => some g22) (some (decide (word0 = (Str.ofString "made"))))) (fun e8 => sumO e8 (fun e23 => letO ([false, true, false]) fun classes27 => bindO (pyCat classes27 [false, false]) fun l28 => letO (l28) fun classes29 => letO ([(Str.ofString "DuplicateTable"), (Str.ofString "NoTable"), (Str.ofString "InvalidRow"), (Str.ofString "DuplicateKey"), (Str.ofString "Unlike")]) fun names30 => letO (true) fun c35 => bindO (iteO c35 (bindO (compL (m_l_base_caught_c2 word0) names30) fun l32 => bindO (pyEq ((dLst PyData.bool) classes29) ((dLst PyData.bool) l32)) fun q33 => some q33) (some false)) fun b34 => letO ((some b34)) fun caught36 => letO (caught36.isSome) fun c37 => iteO c37 (bindO (caught36) fun g38 => some g38) (some (decide (word0 = (Str.ofString "made"))))) (fun e24 => sumO e24 (fun e39 => letO ([false, false, true]) fun classes43 => bindO (pyCat classes43 [false, false]) fun l44 => letO (l44) fun classes45 => letO ([(Str.ofString "DuplicateTable"), (Str.ofString "NoTable"), (Str.ofString "InvalidRow"), (Str.ofString "DuplicateKey"), (Str.ofString "Unlike")]) fun names46 => letO (true) fun c51 => bindO (iteO c51 (bindO (compL (m_l_base_caught_c3 word0) names46) fun l48 => bindO (pyEq ((dLst PyData.bool) classes45) ((dLst PyData.bool) l48)) fun q49 => some q49) (some false)) fun b50 => letO ((some b50)) fun caught52 => letO (caught52.isSome) fun c53 => iteO c53 (bindO (caught52) fun g54 => some g54) (some (decide (word0 = (Str.ofString "made"))))) (fun e40 => letO ([false, false, false]) fun classes57 => bindO (pyCat classes57 [true, false]) fun l58 => letO (l58) fun classes59 => letO ([(Str.ofString "DuplicateTable"), (Str.ofString "NoTable"), (Str.ofString "InvalidRow"), (Str.ofString "DuplicateKey"), (Str.ofString "Unlike")]) fun names60 => letO (true) fun c65 => bindO (iteO c65 (bindO (compL (m_l_base_caught_c4 word0) names60) fun l62 => bindO (pyEq ((dLst PyData.bool) classes59) ((dLst PyData.bool) l62)) fun q63 => some q63) (some false)) fun b64 => letO ((some b64)) fun caught66 => letO (caught66.isSome) fun c67 => iteO c67 (bindO (caught66) fun g68 => some g68) (some (decide (word0 = (Str.ofString "made"))))))))
def m_law_c1 (table8 : (Str × (List Str) × (List Str) × (List Int))) : Option (Option Str) := some (some table8.1)
def m_law_b1 (name16 : Str) (s15 : ((List (Str × (List (List Int)))) × ((List Int) × Int × Int × Int))) : Option (Step Bool ((List (Str × (List (List Int)))) × ((List Int) × Int × Int × Int))) := bindO (m_l_rows s15.2 name16) fun p17 => bindO (pyPutD s15.1 name16 p17.1) fun d18 => some (.nx (d18, p17.2.1))
def m_law_b2 (k23 : Int) (s22 : (((List Int) × Int × Int × Int) × (List (Str × (List Str) × (List Str) × (List Int))) × (List (Str × (List (List Int)))))) : Option (Step Bool (((List Int) × Int × Int × Int) × (List (Str × (List Str) × (List Str) × (List Int))) × (List (Str × (List (List Int)))))) := bindO (m_l_spoil s22.1 s22.2.1 s22.2.2) fun p24 => some (.nx (p24.2.1, p24.2.2.1, p24.2.2.2.1))
def m_law_c2 (e26 : (((List Int) × Int × Int × Int) × (List (Str × (List Str) × (List Str) × (List Int))) × (List (Str × (List (List Int)))))) (name31 : Str) : Option (Option (List (List Int))) := bindO (getM e26.2.2 name31) fun y32 => some (some y32)
def m_law_c3 (e26 : (((List Int) × Int × Int × Int) × (List (Str × (List Str) × (List Str) × (List Int))) × (List (Str × (List (List Int)))))) (name38 : Str) : Option (Option (List (List Int))) := bindO (getM e26.2.2 name38) fun y39 => some (some y39)
def m_law (script0 : (List Int)) : Option Bool := bindO (m_l_start script0) fun v1 => letO (v1) fun state2 => bindO (m_l_draw state2 (3 : Int)) fun p3 => letO (p3.1) fun faults4 => bindO (m_l_tables p3.2) fun p5 => letO (p5.1) fun tables_here6 => bindO (compL (m_law_c1) tables_here6) fun l9 => letO (l9) fun order10 => bindO (m_l_draw p5.2.1 (2 : Int)) fun p11 => letO ((decide (p11.1 = (0 : Int)))) fun c12 => bindO (iteO c12 (letO (order10.reverse) fun order14 => some order14) (some order10)) fun j13 => bindO (forL (m_law_b1) j13 (([] : (List (Str × (List (List Int))))), p11.2)) fun R19 => stepO R19 fun e20 => bindO (pyRng faults4) fun l21 => bindO (forL (m_law_b2) l21 (e20.2, tables_here6, e20.1)) fun R25 => stepO R25 fun e26 => bindO (m_l_due e26.2.1 e26.2.2) fun v28 => letO (v28) fun due_here29 => bindO (pyKeysD e26.2.2) fun l30 => bindO (compL (m_law_c2 e26) l30) fun l33 => letO (l33) fun kept34 => bindO (m_l_made e26.2.1 e26.2.2) fun v35 => bindO (pyEq ((dAlt (dTup (dwC PyData.str (dw1 PyData.str))) (dAlt (dTup (dwC PyData.str (dwC PyData.str (dw1 (dTpl PyData.int))))) (dTup (dw1 PyData.str)))) v35) ((dAlt (dTup (dwC PyData.str (dw1 PyData.str))) (dAlt (dTup (dwC PyData.str (dwC PyData.str (dw1 (dTpl PyData.int))))) (dTup (dw1 PyData.str)))) due_here29)) fun q36 => letO ((!q36)) fun c43 => bindO (iteO c43 (some true) (bindO (pyKeysD e26.2.2) fun l37 => bindO (compL (m_law_c3 e26) l37) fun l40 => bindO (pyEq ((dLst (dLst (dTpl PyData.int))) l40) ((dLst (dLst (dTpl PyData.int))) kept34)) fun q41 => some (!q41))) fun b42 => letO (b42) fun c44 => iteO c44 (some false) (bindO (m_l_base_caught e26.2.1 e26.2.2 (altO due_here29 (fun (z : (Str × Str)) => z.1) (fun (z : ((Str × Str × (List Int)) ⊕ Str)) => altO z (fun (z : (Str × Str × (List Int))) => z.1) (fun (z : Str) => z)))) fun v45 => some v45)
end Law
set_option maxHeartbeats 4000000
namespace Law
open PySem PySem.Spec PyProof.Rows L2 G
abbrev topS (i : Nat) : Stmt := PySem.Challenge.pw_shownwrites_k16_store_refusals.main.body.getD i (.Pass ⟨0, 0, 0, 0⟩)
abbrev s_is_name : Stmt := topS 31
abbrev N_is_name : List Str := ["text", "letter"]
theorem sc_is_name : FnScope N_is_name ["text"] (defScope s_is_name) := ⟨rfl, rfl, rfl, by decide +kernel, rfl, by decide +kernel, by decide +kernel⟩
abbrev s_are_columns : Stmt := topS 32
abbrev N_are_columns : List Str := ["columns", "distinct", "column"]
theorem sc_are_columns : FnScope N_are_columns ["columns"] (defScope s_are_columns) := ⟨rfl, rfl, rfl, by decide +kernel, rfl, by decide +kernel, by decide +kernel⟩
abbrev s_is_key : Stmt := topS 33
abbrev N_is_key : List Str := ["key", "columns", "distinct", "column"]
theorem sc_is_key : FnScope N_is_key ["key", "columns"] (defScope s_is_key) := ⟨rfl, rfl, rfl, by decide +kernel, rfl, by decide +kernel, by decide +kernel⟩
abbrev s_Table___init : Stmt := inClass (topS 34) 0
abbrev N_Table___init : List Str := ["self", "name", "columns", "key", "column", "at"]
theorem sc_Table___init : FnScope N_Table___init ["self", "name", "columns", "key"] (defScope s_Table___init) := ⟨rfl, rfl, rfl, by decide +kernel, rfl, by decide +kernel, by decide +kernel⟩
abbrev s_Table_fits : Stmt := inClass (topS 34) 2
abbrev N_Table_fits : List Str := ["self", "row"]
theorem sc_Table_fits : FnScope N_Table_fits ["self", "row"] (defScope s_Table_fits) := ⟨rfl, rfl, rfl, by decide +kernel, rfl, by decide +kernel, by decide +kernel⟩
abbrev s_Table_key_of : Stmt := inClass (topS 34) 3
abbrev N_Table_key_of : List Str := ["self", "row", "at"]
theorem sc_Table_key_of : FnScope N_Table_key_of ["self", "row"] (defScope s_Table_key_of) := ⟨rfl, rfl, rfl, by decide +kernel, rfl, by decide +kernel, by decide +kernel⟩
abbrev s_sorted_tables : Stmt := topS 19
abbrev N_sorted_tables : List Str := ["tables", "named", "table", "name"]
theorem sc_sorted_tables : FnScope N_sorted_tables ["tables"] (defScope s_sorted_tables) := ⟨rfl, rfl, rfl, by decide +kernel, rfl, by decide +kernel, by decide +kernel⟩
abbrev s_Shelf___init : Stmt := inClass (topS 25) 0
abbrev N_Shelf___init : List Str := ["self", "held"]
theorem sc_Shelf___init : FnScope N_Shelf___init ["self", "held"] (defScope s_Shelf___init) := ⟨rfl, rfl, rfl, by decide +kernel, rfl, by decide +kernel, by decide +kernel⟩
abbrev s_shelf_of : Stmt := topS 21
abbrev N_shelf_of : List Str := ["table", "rows", "held", "row", "key"]
theorem sc_shelf_of : FnScope N_shelf_of ["table", "rows"] (defScope s_shelf_of) := ⟨rfl, rfl, rfl, by decide +kernel, rfl, by decide +kernel, by decide +kernel⟩
abbrev s_filled_shelves : Stmt := topS 20
abbrev N_filled_shelves : List Str := ["tables", "rows", "names", "name", "table"]
theorem sc_filled_shelves : FnScope N_filled_shelves ["tables", "rows"] (defScope s_filled_shelves) := ⟨rfl, rfl, rfl, by decide +kernel, rfl, by decide +kernel, by decide +kernel⟩
abbrev s_Store___init : Stmt := inClass (topS 26) 0
abbrev N_Store___init : List Str := ["self", "tables", "rows", "table"]
theorem sc_Store___init : FnScope N_Store___init ["self", "tables", "rows"] (defScope s_Store___init) := ⟨rfl, rfl, rfl, by decide +kernel, rfl, by decide +kernel, by decide +kernel⟩
abbrev s_l_start : Stmt := topS 36
abbrev N_l_start : List Str := ["_law_script", "_law_first"]
theorem sc_l_start : FnScope N_l_start ["_law_script"] (defScope s_l_start) := ⟨rfl, rfl, rfl, by decide +kernel, rfl, by decide +kernel, by decide +kernel⟩
abbrev s_l_draw : Stmt := topS 37
abbrev N_l_draw : List Str := ["_law_state", "_law_many", "_law_drawn", "_law_seed", "_law_mixed"]
theorem sc_l_draw : FnScope N_l_draw ["_law_state", "_law_many"] (defScope s_l_draw) := ⟨rfl, rfl, rfl, by decide +kernel, rfl, by decide +kernel, by decide +kernel⟩
abbrev s_l_tables : Stmt := topS 38
abbrev N_l_tables : List Str := ["_law_state", "_law_some", "_law_found", "_law_k"]
theorem sc_l_tables : FnScope N_l_tables ["_law_state"] (defScope s_l_tables) := ⟨rfl, rfl, rfl, by decide +kernel, rfl, by decide +kernel, by decide +kernel⟩
abbrev s_l_key : Stmt := topS 39
abbrev N_l_key : List Str := ["_law_name", "_law_row_here"]
theorem sc_l_key : FnScope N_l_key ["_law_name", "_law_row_here"] (defScope s_l_key) := ⟨rfl, rfl, rfl, by decide +kernel, rfl, by decide +kernel, by decide +kernel⟩
abbrev s_l_size : Stmt := topS 40
abbrev N_l_size : List Str := ["_law_name"]
theorem sc_l_size : FnScope N_l_size ["_law_name"] (defScope s_l_size) := ⟨rfl, rfl, rfl, by decide +kernel, rfl, by decide +kernel, by decide +kernel⟩
abbrev s_l_row : Stmt := topS 41
abbrev N_l_row : List Str := ["_law_state", "_law_name", "_law_j"]
theorem sc_l_row : FnScope N_l_row ["_law_state", "_law_name"] (defScope s_l_row) := ⟨rfl, rfl, rfl, by decide +kernel, rfl, by decide +kernel, by decide +kernel⟩
abbrev s_l_rows : Stmt := topS 42
abbrev N_l_rows : List Str := ["_law_state", "_law_name", "_law_found", "_law_k", "_law_row_here", "_law_other"]
theorem sc_l_rows : FnScope N_l_rows ["_law_state", "_law_name"] (defScope s_l_rows) := ⟨rfl, rfl, rfl, by decide +kernel, rfl, by decide +kernel, by decide +kernel⟩
abbrev s_l_spoil : Stmt := topS 43
abbrev N_l_spoil : List Str := ["_law_state", "_law_tables_here", "_law_handed", "_law_kind", "_law_spot", "_law_name", "_law_here", "_law_row_here", "_law_twin"]
theorem sc_l_spoil : FnScope N_l_spoil ["_law_state", "_law_tables_here", "_law_handed"] (defScope s_l_spoil) := ⟨rfl, rfl, rfl, by decide +kernel, rfl, by decide +kernel, by decide +kernel⟩
abbrev s_l_due : Stmt := topS 44
abbrev N_l_due : List Str := ["_law_tables_here", "_law_handed", "_law_names", "_law_k", "_law_strange", "_law_name", "_law_here", "_law_table", "_law_other"]
theorem sc_l_due : FnScope N_l_due ["_law_tables_here", "_law_handed"] (defScope s_l_due) := ⟨rfl, rfl, rfl, by decide +kernel, rfl, by decide +kernel, by decide +kernel⟩
abbrev s_l_made : Stmt := topS 45
abbrev N_l_made : List Str := ["_law_tables_here", "_law_handed", "_law_caught", "_law_store", "e"]
theorem sc_l_made : FnScope N_l_made ["_law_tables_here", "_law_handed"] (defScope s_l_made) := ⟨rfl, rfl, rfl, by decide +kernel, rfl, by decide +kernel, by decide +kernel⟩
abbrev s_l_base_caught : Stmt := topS 46
abbrev N_l_base_caught : List Str := ["_law_tables_here", "_law_handed", "_law_word", "_law_caught", "e", "_law_classes", "_law_names", "_law_name"]
theorem sc_l_base_caught : FnScope N_l_base_caught ["_law_tables_here", "_law_handed", "_law_word"] (defScope s_l_base_caught) := ⟨rfl, rfl, rfl, by decide +kernel, rfl, by decide +kernel, by decide +kernel⟩
abbrev s_law : Stmt := topS 47
abbrev N_law : List Str := ["_law_script", "_law_state", "_law_faults", "_law_tables_here", "_law_handed", "_law_order", "_law_name", "_law_k", "_law_due_here", "_law_kept", "_law_table"]
theorem sc_law : FnScope N_law ["_law_script"] (defScope s_law) := ⟨rfl, rfl, rfl, by decide +kernel, rfl, by decide +kernel, by decide +kernel⟩
abbrev s_e_DuplicateKey : Stmt := inClass (topS 7) 0
theorem sc_e_DuplicateKey : FnScope ["self", "name", "key"] ["self", "name", "key"] (defScope s_e_DuplicateKey) := ⟨rfl, rfl, rfl, by decide +kernel, rfl, by decide +kernel, by decide +kernel⟩
abbrev s_e_DuplicateTable : Stmt := inClass (topS 4) 0
theorem sc_e_DuplicateTable : FnScope ["self", "name"] ["self", "name"] (defScope s_e_DuplicateTable) := ⟨rfl, rfl, rfl, by decide +kernel, rfl, by decide +kernel, by decide +kernel⟩
abbrev s_e_InvalidRow : Stmt := inClass (topS 6) 0
theorem sc_e_InvalidRow : FnScope ["self", "name", "row"] ["self", "name", "row"] (defScope s_e_InvalidRow) := ⟨rfl, rfl, rfl, by decide +kernel, rfl, by decide +kernel, by decide +kernel⟩
abbrev s_e_NoTable : Stmt := inClass (topS 3) 0
theorem sc_e_NoTable : FnScope ["self", "name"] ["self", "name"] (defScope s_e_NoTable) := ⟨rfl, rfl, rfl, by decide +kernel, rfl, by decide +kernel, by decide +kernel⟩
structure Ad where
  f_is_name : Addr
  d_is_name : FuncData
  f_are_columns : Addr
  d_are_columns : FuncData
  f_is_key : Addr
  d_is_key : FuncData
  f_Table___init : Addr
  d_Table___init : FuncData
  f_Table_fits : Addr
  d_Table_fits : FuncData
  f_Table_key_of : Addr
  d_Table_key_of : FuncData
  f_sorted_tables : Addr
  d_sorted_tables : FuncData
  f_Shelf___init : Addr
  d_Shelf___init : FuncData
  f_shelf_of : Addr
  d_shelf_of : FuncData
  f_filled_shelves : Addr
  d_filled_shelves : FuncData
  f_Store___init : Addr
  d_Store___init : FuncData
  f_l_start : Addr
  d_l_start : FuncData
  f_l_draw : Addr
  d_l_draw : FuncData
  f_l_tables : Addr
  d_l_tables : FuncData
  f_l_key : Addr
  d_l_key : FuncData
  f_l_size : Addr
  d_l_size : FuncData
  f_l_row : Addr
  d_l_row : FuncData
  f_l_rows : Addr
  d_l_rows : FuncData
  f_l_spoil : Addr
  d_l_spoil : FuncData
  f_l_due : Addr
  d_l_due : FuncData
  f_l_made : Addr
  d_l_made : FuncData
  f_l_base_caught : Addr
  d_l_base_caught : FuncData
  f_law : Addr
  d_law : FuncData
  z_Store___init_1 : List Value
  C_Table : Addr
  C_InvalidRow : Addr
  C_DuplicateTable : Addr
  C_Shelf : Addr
  C_DuplicateKey : Addr
  C_NoTable : Addr
  C_Store : Addr
  C_ShownError : Addr
  C_Unlike : Addr
  f_e_DuplicateKey : Addr
  d_e_DuplicateKey : FuncData
  f_e_DuplicateTable : Addr
  d_e_DuplicateTable : FuncData
  f_e_InvalidRow : Addr
  d_e_InvalidRow : FuncData
  f_e_NoTable : Addr
  d_e_NoTable : FuncData
abbrev r_Table [TabL] (P : Program) (w : World) (a : Ad) := rIns a.C_Table [("name" : Str), ("columns" : Str), ("key" : Str), ("_key_places" : Str)] (wC rStr (wC (rOb (cTpl rStr)) (wC (rOb (cTpl rStr)) (w1 (rOb (cTpl rInt))))))
abbrev r_Shelf [TabL] (P : Program) (w : World) (a : Ad) := rIns a.C_Shelf [("held" : Str)] (w1 (rDicN P w kyTpl (rOb (cTpl rInt))))
abbrev r_Store [TabL] (P : Program) (w : World) (a : Ad) := rIns a.C_Store [("tables" : Str), ("names" : Str), ("_shelves" : Str)] (wC (rOb (cTpl (r_Table P w a))) (wC (rOb (cTX rStr)) (w1 (rDicF P w kyStr (r_Shelf P w a)))))
structure Txt [TabL] (K : PySem.W.Frag) (mg : Str → Option Value) (a : Ad) : Prop where
  F_is_name : Fun K "is_name" "is_name" s_is_name a.f_is_name a.d_is_name
  g_is_name : mg "is_name" = some (.ref a.f_is_name)
  n_is_name : Binds K a.d_is_name ["text"] []
  F_are_columns : Fun K "are_columns" "are_columns" s_are_columns a.f_are_columns a.d_are_columns
  g_are_columns : mg "are_columns" = some (.ref a.f_are_columns)
  n_are_columns : Binds K a.d_are_columns ["columns"] []
  F_is_key : Fun K "is_key" "is_key" s_is_key a.f_is_key a.d_is_key
  g_is_key : mg "is_key" = some (.ref a.f_is_key)
  n_is_key : Binds K a.d_is_key ["key", "columns"] []
  F_Table___init : Fun K "__init__" "Table.__init__" s_Table___init a.f_Table___init a.d_Table___init
  n_Table___init : Binds K a.d_Table___init ["self", "name", "columns", "key"] []
  F_Table_fits : Fun K "fits" "Table.fits" s_Table_fits a.f_Table_fits a.d_Table_fits
  n_Table_fits : Binds K a.d_Table_fits ["self", "row"] []
  F_Table_key_of : Fun K "key_of" "Table.key_of" s_Table_key_of a.f_Table_key_of a.d_Table_key_of
  n_Table_key_of : Binds K a.d_Table_key_of ["self", "row"] []
  F_sorted_tables : Fun K "sorted_tables" "sorted_tables" s_sorted_tables a.f_sorted_tables a.d_sorted_tables
  g_sorted_tables : mg "sorted_tables" = some (.ref a.f_sorted_tables)
  n_sorted_tables : Binds K a.d_sorted_tables ["tables"] []
  F_Shelf___init : Fun K "__init__" "Shelf.__init__" s_Shelf___init a.f_Shelf___init a.d_Shelf___init
  n_Shelf___init : Binds K a.d_Shelf___init ["self", "held"] []
  F_shelf_of : Fun K "shelf_of" "shelf_of" s_shelf_of a.f_shelf_of a.d_shelf_of
  g_shelf_of : mg "shelf_of" = some (.ref a.f_shelf_of)
  n_shelf_of : Binds K a.d_shelf_of ["table", "rows"] []
  F_filled_shelves : Fun K "filled_shelves" "filled_shelves" s_filled_shelves a.f_filled_shelves a.d_filled_shelves
  g_filled_shelves : mg "filled_shelves" = some (.ref a.f_filled_shelves)
  n_filled_shelves : Binds K a.d_filled_shelves ["tables", "rows"] []
  F_Store___init : FunD K "__init__" "Store.__init__" (defArgs s_Store___init) (defBody s_Store___init) (defScope s_Store___init) [V.non] [] a.f_Store___init a.d_Store___init
  n_Store___init_1 : Binds K a.d_Store___init ["self", "tables", "rows"] a.z_Store___init_1
  v_Store___init_1 : Vals [] a.z_Store___init_1
  F_l_start : Fun K "_law_start" "_law_start" s_l_start a.f_l_start a.d_l_start
  g_l_start : mg "_law_start" = some (.ref a.f_l_start)
  n_l_start : Binds K a.d_l_start ["_law_script"] []
  F_l_draw : Fun K "_law_draw" "_law_draw" s_l_draw a.f_l_draw a.d_l_draw
  g_l_draw : mg "_law_draw" = some (.ref a.f_l_draw)
  n_l_draw : Binds K a.d_l_draw ["_law_state", "_law_many"] []
  F_l_tables : Fun K "_law_tables" "_law_tables" s_l_tables a.f_l_tables a.d_l_tables
  g_l_tables : mg "_law_tables" = some (.ref a.f_l_tables)
  n_l_tables : Binds K a.d_l_tables ["_law_state"] []
  F_l_key : Fun K "_law_key" "_law_key" s_l_key a.f_l_key a.d_l_key
  g_l_key : mg "_law_key" = some (.ref a.f_l_key)
  n_l_key : Binds K a.d_l_key ["_law_name", "_law_row_here"] []
  F_l_size : Fun K "_law_size" "_law_size" s_l_size a.f_l_size a.d_l_size
  g_l_size : mg "_law_size" = some (.ref a.f_l_size)
  n_l_size : Binds K a.d_l_size ["_law_name"] []
  F_l_row : Fun K "_law_row" "_law_row" s_l_row a.f_l_row a.d_l_row
  g_l_row : mg "_law_row" = some (.ref a.f_l_row)
  n_l_row : Binds K a.d_l_row ["_law_state", "_law_name"] []
  F_l_rows : Fun K "_law_rows" "_law_rows" s_l_rows a.f_l_rows a.d_l_rows
  g_l_rows : mg "_law_rows" = some (.ref a.f_l_rows)
  n_l_rows : Binds K a.d_l_rows ["_law_state", "_law_name"] []
  F_l_spoil : Fun K "_law_spoil" "_law_spoil" s_l_spoil a.f_l_spoil a.d_l_spoil
  g_l_spoil : mg "_law_spoil" = some (.ref a.f_l_spoil)
  n_l_spoil : Binds K a.d_l_spoil ["_law_state", "_law_tables_here", "_law_handed"] []
  F_l_due : Fun K "_law_due" "_law_due" s_l_due a.f_l_due a.d_l_due
  g_l_due : mg "_law_due" = some (.ref a.f_l_due)
  n_l_due : Binds K a.d_l_due ["_law_tables_here", "_law_handed"] []
  F_l_made : Fun K "_law_made" "_law_made" s_l_made a.f_l_made a.d_l_made
  g_l_made : mg "_law_made" = some (.ref a.f_l_made)
  n_l_made : Binds K a.d_l_made ["_law_tables_here", "_law_handed"] []
  F_l_base_caught : Fun K "_law_base_caught" "_law_base_caught" s_l_base_caught a.f_l_base_caught a.d_l_base_caught
  g_l_base_caught : mg "_law_base_caught" = some (.ref a.f_l_base_caught)
  n_l_base_caught : Binds K a.d_l_base_caught ["_law_tables_here", "_law_handed", "_law_word"] []
  F_law : Fun K "law" "law" s_law a.f_law a.d_law
  g_law : mg "law" = some (.ref a.f_law)
  n_law : Binds K a.d_law ["_law_script"] []
  nt : ∀ q, ¬ isTab q
  b_ValueError : mg "ValueError" = none
  b_all : mg "all" = none
  b_enumerate : mg "enumerate" = none
  b_int : mg "int" = none
  b_isinstance : mg "isinstance" = none
  b_len : mg "len" = none
  b_list : mg "list" = none
  b_range : mg "range" = none
  b_set : mg "set" = none
  b_sorted : mg "sorted" = none
  b_tuple : mg "tuple" = none
  c_FIRST : ∃ u, mg "FIRST" = some u ∧ RelV (.str (Str.ofString "abcdefghijklmnopqrstuvwxyz")) u
  c_FURTHER : ∃ u, mg "FURTHER" = some u ∧ RelV (.str (Str.ofString "abcdefghijklmnopqrstuvwxyz0123456789_")) u
  c_LONGEST : ∃ u, mg "LONGEST" = some u ∧ RelV (.int 20) u
  g_Table : mg "Table" = some (.ref a.C_Table)
  cl_Table : Cls K a.C_Table
  na_Table_name : NoAttr K a.C_Table "name"
  na_Table_columns : NoAttr K a.C_Table "columns"
  na_Table_key : NoAttr K a.C_Table "key"
  na_Table__key_places : NoAttr K a.C_Table "_key_places"
  me_Table_fits : Meth K a.C_Table "fits" a.f_Table_fits
  g_InvalidRow : mg "InvalidRow" = some (.ref a.C_InvalidRow)
  g_DuplicateTable : mg "DuplicateTable" = some (.ref a.C_DuplicateTable)
  g_Shelf : mg "Shelf" = some (.ref a.C_Shelf)
  q_list_Shelf : PySem.W.kitOne K (.type "list") (.ref a.C_Shelf) = some false
  me_Table_key_of : Meth K a.C_Table "key_of" a.f_Table_key_of
  g_DuplicateKey : mg "DuplicateKey" = some (.ref a.C_DuplicateKey)
  cl_Shelf : Cls K a.C_Shelf
  M_Shelf : Mk K a.C_Shelf a.f_Shelf___init
  na_Shelf_held : NoAttr K a.C_Shelf "held"
  q_tuple_Shelf : PySem.W.kitOne K (.type "tuple") (.ref a.C_Shelf) = some false
  g_NoTable : mg "NoTable" = some (.ref a.C_NoTable)
  g_Store : mg "Store" = some (.ref a.C_Store)
  cl_Store : Cls K a.C_Store
  na_Store_tables : NoAttr K a.C_Store "tables"
  na_Store_names : NoAttr K a.C_Store "names"
  na_Store__shelves : NoAttr K a.C_Store "_shelves"
  M_Table : Mk K a.C_Table a.f_Table___init
  M_Store : Mk K a.C_Store a.f_Store___init
  e_DuplicateTable_DuplicateTable : PySem.W.exmOne K (.ref a.C_DuplicateTable) (.ref a.C_DuplicateTable) = some true
  xf_DuplicateTable : XfC K a.C_DuplicateTable
  na_DuplicateTable_name : PySem.W.findIn K (.ref a.C_DuplicateTable) "name" = some none
  e_NoTable_DuplicateTable : PySem.W.exmOne K (.ref a.C_NoTable) (.ref a.C_DuplicateTable) = some false
  e_NoTable_NoTable : PySem.W.exmOne K (.ref a.C_NoTable) (.ref a.C_NoTable) = some true
  xf_NoTable : XfC K a.C_NoTable
  na_NoTable_name : PySem.W.findIn K (.ref a.C_NoTable) "name" = some none
  e_InvalidRow_DuplicateTable : PySem.W.exmOne K (.ref a.C_InvalidRow) (.ref a.C_DuplicateTable) = some false
  e_InvalidRow_NoTable : PySem.W.exmOne K (.ref a.C_InvalidRow) (.ref a.C_NoTable) = some false
  e_InvalidRow_InvalidRow : PySem.W.exmOne K (.ref a.C_InvalidRow) (.ref a.C_InvalidRow) = some true
  xf_InvalidRow : XfC K a.C_InvalidRow
  na_InvalidRow_name : PySem.W.findIn K (.ref a.C_InvalidRow) "name" = some none
  na_InvalidRow_row : PySem.W.findIn K (.ref a.C_InvalidRow) "row" = some none
  e_DuplicateKey_DuplicateTable : PySem.W.exmOne K (.ref a.C_DuplicateKey) (.ref a.C_DuplicateTable) = some false
  e_DuplicateKey_NoTable : PySem.W.exmOne K (.ref a.C_DuplicateKey) (.ref a.C_NoTable) = some false
  e_DuplicateKey_InvalidRow : PySem.W.exmOne K (.ref a.C_DuplicateKey) (.ref a.C_InvalidRow) = some false
  e_DuplicateKey_DuplicateKey : PySem.W.exmOne K (.ref a.C_DuplicateKey) (.ref a.C_DuplicateKey) = some true
  xf_DuplicateKey : XfC K a.C_DuplicateKey
  na_DuplicateKey_name : PySem.W.findIn K (.ref a.C_DuplicateKey) "name" = some none
  na_DuplicateKey_key : PySem.W.findIn K (.ref a.C_DuplicateKey) "key" = some none
  g_ShownError : mg "ShownError" = some (.ref a.C_ShownError)
  e_DuplicateTable_ShownError : PySem.W.exmOne K (.ref a.C_DuplicateTable) (.ref a.C_ShownError) = some true
  xc_DuplicateTable : ExcC K a.C_DuplicateTable
  q_DuplicateTable_DuplicateTable : PySem.W.kitOne K (.ref a.C_DuplicateTable) (.ref a.C_DuplicateTable) = some true
  q_DuplicateTable_NoTable : PySem.W.kitOne K (.ref a.C_DuplicateTable) (.ref a.C_NoTable) = some false
  q_DuplicateTable_InvalidRow : PySem.W.kitOne K (.ref a.C_DuplicateTable) (.ref a.C_InvalidRow) = some false
  q_DuplicateTable_DuplicateKey : PySem.W.kitOne K (.ref a.C_DuplicateTable) (.ref a.C_DuplicateKey) = some false
  g_Unlike : mg "Unlike" = some (.ref a.C_Unlike)
  q_DuplicateTable_Unlike : PySem.W.kitOne K (.ref a.C_DuplicateTable) (.ref a.C_Unlike) = some false
  q_DuplicateTable_ValueError : PySem.W.kitOne K (.ref a.C_DuplicateTable) (.type "ValueError") = some true
  e_NoTable_ShownError : PySem.W.exmOne K (.ref a.C_NoTable) (.ref a.C_ShownError) = some true
  xc_NoTable : ExcC K a.C_NoTable
  q_NoTable_DuplicateTable : PySem.W.kitOne K (.ref a.C_NoTable) (.ref a.C_DuplicateTable) = some false
  q_NoTable_NoTable : PySem.W.kitOne K (.ref a.C_NoTable) (.ref a.C_NoTable) = some true
  q_NoTable_InvalidRow : PySem.W.kitOne K (.ref a.C_NoTable) (.ref a.C_InvalidRow) = some false
  q_NoTable_DuplicateKey : PySem.W.kitOne K (.ref a.C_NoTable) (.ref a.C_DuplicateKey) = some false
  q_NoTable_Unlike : PySem.W.kitOne K (.ref a.C_NoTable) (.ref a.C_Unlike) = some false
  q_NoTable_ValueError : PySem.W.kitOne K (.ref a.C_NoTable) (.type "ValueError") = some true
  e_InvalidRow_ShownError : PySem.W.exmOne K (.ref a.C_InvalidRow) (.ref a.C_ShownError) = some true
  xc_InvalidRow : ExcC K a.C_InvalidRow
  q_InvalidRow_DuplicateTable : PySem.W.kitOne K (.ref a.C_InvalidRow) (.ref a.C_DuplicateTable) = some false
  q_InvalidRow_NoTable : PySem.W.kitOne K (.ref a.C_InvalidRow) (.ref a.C_NoTable) = some false
  q_InvalidRow_InvalidRow : PySem.W.kitOne K (.ref a.C_InvalidRow) (.ref a.C_InvalidRow) = some true
  q_InvalidRow_DuplicateKey : PySem.W.kitOne K (.ref a.C_InvalidRow) (.ref a.C_DuplicateKey) = some false
  q_InvalidRow_Unlike : PySem.W.kitOne K (.ref a.C_InvalidRow) (.ref a.C_Unlike) = some false
  q_InvalidRow_ValueError : PySem.W.kitOne K (.ref a.C_InvalidRow) (.type "ValueError") = some true
  e_DuplicateKey_ShownError : PySem.W.exmOne K (.ref a.C_DuplicateKey) (.ref a.C_ShownError) = some true
  xc_DuplicateKey : ExcC K a.C_DuplicateKey
  q_DuplicateKey_DuplicateTable : PySem.W.kitOne K (.ref a.C_DuplicateKey) (.ref a.C_DuplicateTable) = some false
  q_DuplicateKey_NoTable : PySem.W.kitOne K (.ref a.C_DuplicateKey) (.ref a.C_NoTable) = some false
  q_DuplicateKey_InvalidRow : PySem.W.kitOne K (.ref a.C_DuplicateKey) (.ref a.C_InvalidRow) = some false
  q_DuplicateKey_DuplicateKey : PySem.W.kitOne K (.ref a.C_DuplicateKey) (.ref a.C_DuplicateKey) = some true
  q_DuplicateKey_Unlike : PySem.W.kitOne K (.ref a.C_DuplicateKey) (.ref a.C_Unlike) = some false
  q_DuplicateKey_ValueError : PySem.W.kitOne K (.ref a.C_DuplicateKey) (.type "ValueError") = some true
  x_DuplicateKey : OexC K a.C_DuplicateKey
  i_DuplicateKey : PySem.W.findIn K (.ref a.C_DuplicateKey) "__init__" = some (some (.ref a.f_e_DuplicateKey))
  t_DuplicateKey : PySem.W.typeIn K (.ref a.f_e_DuplicateKey) = some (.type "function")
  F_e_DuplicateKey : Fun K "__init__" "DuplicateKey.__init__" s_e_DuplicateKey a.f_e_DuplicateKey a.d_e_DuplicateKey
  n_e_DuplicateKey : Binds K a.d_e_DuplicateKey ["self", "name", "key"] []
  x_DuplicateTable : OexC K a.C_DuplicateTable
  i_DuplicateTable : PySem.W.findIn K (.ref a.C_DuplicateTable) "__init__" = some (some (.ref a.f_e_DuplicateTable))
  t_DuplicateTable : PySem.W.typeIn K (.ref a.f_e_DuplicateTable) = some (.type "function")
  F_e_DuplicateTable : Fun K "__init__" "DuplicateTable.__init__" s_e_DuplicateTable a.f_e_DuplicateTable a.d_e_DuplicateTable
  n_e_DuplicateTable : Binds K a.d_e_DuplicateTable ["self", "name"] []
  x_InvalidRow : OexC K a.C_InvalidRow
  i_InvalidRow : PySem.W.findIn K (.ref a.C_InvalidRow) "__init__" = some (some (.ref a.f_e_InvalidRow))
  t_InvalidRow : PySem.W.typeIn K (.ref a.f_e_InvalidRow) = some (.type "function")
  F_e_InvalidRow : Fun K "__init__" "InvalidRow.__init__" s_e_InvalidRow a.f_e_InvalidRow a.d_e_InvalidRow
  n_e_InvalidRow : Binds K a.d_e_InvalidRow ["self", "name", "row"] []
  x_NoTable : OexC K a.C_NoTable
  i_NoTable : PySem.W.findIn K (.ref a.C_NoTable) "__init__" = some (some (.ref a.f_e_NoTable))
  t_NoTable : PySem.W.typeIn K (.ref a.f_e_NoTable) = some (.type "function")
  F_e_NoTable : Fun K "__init__" "NoTable.__init__" s_e_NoTable a.f_e_NoTable a.d_e_NoTable
  n_e_NoTable : Binds K a.d_e_NoTable ["self", "name"] []
section
variable [TabL] {P : Program} {w : World} {K : PySem.W.Frag} {mg : Str → Option Value} {base : Heap} {a : Ad}
theorem ok_e_DuplicateKey (T : Txt K mg a) : FnOk P w K mg base CX0 1 a.f_e_DuplicateKey a.d_e_DuplicateKey ["self", "name", "key"] (SpF2 a.C_DuplicateKey "name" "key") := okE2 T.F_e_DuplicateKey sc_e_DuplicateKey T.x_DuplicateKey T.na_DuplicateKey_name T.na_DuplicateKey_key rfl rfl rfl rfl (Or.inl rfl) (Or.inl rfl) (Or.inl rfl) (by decide) (by decide) (by decide) (by decide) rfl
theorem ok_e_DuplicateTable (T : Txt K mg a) : FnOk P w K mg base CX0 1 a.f_e_DuplicateTable a.d_e_DuplicateTable ["self", "name"] (SpE1 a.C_DuplicateTable "name") := okE1 T.F_e_DuplicateTable sc_e_DuplicateTable T.x_DuplicateTable T.na_DuplicateTable_name rfl rfl rfl (Or.inl rfl) (Or.inl rfl) (by decide) (by decide) rfl
theorem ok_e_InvalidRow (T : Txt K mg a) : FnOk P w K mg base CX0 1 a.f_e_InvalidRow a.d_e_InvalidRow ["self", "name", "row"] (SpF2 a.C_InvalidRow "name" "row") := okE2 T.F_e_InvalidRow sc_e_InvalidRow T.x_InvalidRow T.na_InvalidRow_name T.na_InvalidRow_row rfl rfl rfl rfl (Or.inl rfl) (Or.inl rfl) (Or.inl rfl) (by decide) (by decide) (by decide) (by decide) rfl
theorem ok_e_NoTable (T : Txt K mg a) : FnOk P w K mg base CX0 1 a.f_e_NoTable a.d_e_NoTable ["self", "name"] (SpE1 a.C_NoTable "name") := okE1 T.F_e_NoTable sc_e_NoTable T.x_NoTable T.na_NoTable_name rfl rfl rfl (Or.inl rfl) (Or.inl rfl) (by decide) (by decide) rfl
theorem ok_is_name (T : Txt K mg a) : FnOk P w K mg base CX0 1 a.f_is_name a.d_is_name ["text"] (SpP (w1 rStr) rBool (fun x => m_is_name x)) := by
  refine T.F_is_name.ok sc_is_name (fun vs H Q E h => ?_) (fun cdv A outer s H vs Q E hr h => ?_)
  · obtain ⟨B, x, b, z, sm, hw, h, kr⟩ := h
    rw [WLen.len hw]; rfl
  · obtain ⟨B, text0, b, z, sm, hw, h, kr⟩ := h
    have h : m_is_name text0 = some b := h
    refine ⟨_, (pss_cons (ps_if (PW.pt (pw_or (pt_cmpR op_eq (pe_callB call_len_str (by rfl) T.b_len (by decide +kernel) (pa_cons (pv 0) pa_nil)) pe_int (nomark _)) (pw_or1 (pt_cmpR op_gt (pe_callB call_len_str (by rfl) T.b_len (by decide +kernel) (pa_cons (pv 0) pa_nil)) (C8.pe_gc rfl T.c_LONGEST) (nomark _))))) (pss_cons (ps_ret pe_bl) pss_nil) pss_nil) (pss_cons (ps_ret (pe_and (pe_cmpR op_in_sign (pe_ix ix_str (pv 0) pe_int (fun _ _ => rfl)) (C8.pe_gc rfl T.c_FIRST) rfl) (pe_one (pe_callB (allK (K := K) rfl rfl) (by rfl) T.b_all (by decide +kernel) (pa_cons (pe_lc (own := [("letter", 1)]) rfl sc_is_name.nd (pi_str (pv 0)) (blkOk_by (N := N_is_name) (sc := defScope s_is_name) (by decide +kernel)) (fun _ _ _ _ _ => (pg_name (i := 1) sc_is_name.nd rfl (by first | exact Or.inl rfl | exact Or.inr rfl))) (fun _ _ _ _ _ => pts_nil) (fun _ _ _ _ _ => (pe_cmpR op_in_sign (pv 1) (C8.pe_gc rfl T.c_FURTHER) rfl))) pa_nil))))) pss_nil)), ?_⟩
    refine nx_go (frm_start (N := N_is_name) (n := 1) z sm hw (by rw [WLen.len hw]; rfl)) ?_
    show Nx _ _ [.imm rStr text0, .no]
    unfold m_is_name at h
    obtain ⟨n1, hn1, h⟩ := bindO_some h
    obtain ⟨c4, hc4, h⟩ := letO_some h
    obtain ⟨b3, hb3, h⟩ := bindO_some h
    obtain ⟨c5, hc5, h⟩ := letO_some h
    refine (sq_if (et_to (et_or (et_to (et_T (ev_eqS scInt (ev_lenS (ev_var rfl) hn1) ev_int rfl)) hc4.symm) (fun hc => by have hx := iteO_f hc hb3; obtain ⟨n2, hn2, hx⟩ := bindO_some hx; exact et_to (et_T (ev_gt (ev_lenS (ev_var rfl) hn2) ev_int)) (Option.some.inj hx)) (fun hc => ⟨(Option.some.inj (iteO_t hc hb3)).symm, rfl⟩)) hc5.symm) (fun hc => ?_) (fun hc => ?_))
    · have h := iteO_t hc h
      exact (sq_ret ev_bl h kr)
    · have h := iteO_f hc h
      refine nx_next ?_
      try dsimp only
      obtain ⟨y6, hy6, h⟩ := bindO_some h
      obtain ⟨n7, hn7, h⟩ := bindO_some h
      obtain ⟨c13, hc13, h⟩ := letO_some h
      obtain ⟨b12, hb12, h⟩ := bindO_some h
      exact (sq_ret (ev_and (ev_to (ev_inSg (ev_ixS (ev_var rfl) ev_int hy6) ev_str hn7) hc13.symm) (fun hc => by have hx := iteO_t hc hb12; obtain ⟨l8, hl8, hx⟩ := bindO_some hx; obtain ⟨l11, hl11, hx⟩ := bindO_some hx; exact ev_to (ev_allL (ev_new (ec_lc (m_is_name_c1) (it_str (ev_var rfl) hl8) hl11 tg_name (fun k hk => hk) (by rfl) (fun _ => by rfl) (fun letter9 o ho => by unfold m_is_name_c1 at ho; obtain ⟨n10, hn10, ho⟩ := bindO_some ho; cases ho; exact ⟨et_yes, fun y hy => by cases hy; exact ev_to (ev_inSg (ev_var rfl) ev_str hn10) rfl⟩)))) (Option.some.inj hx)) (fun hc => ⟨(Option.some.inj (iteO_f hc hb12)).symm, rfl⟩)) h kr)
theorem ok_are_columns (T : Txt K mg a) : FnOk P w K mg base CX0 2 a.f_are_columns a.d_are_columns ["columns"] (SpP (w1 (rOb (cLst rStr))) rBool (fun x => m_are_columns x)) := by
  refine T.F_are_columns.ok sc_are_columns (fun vs H Q E h => ?_) (fun cdv A outer s H vs Q E hr h => ?_)
  · obtain ⟨B, x, b, z, sm, hw, h, kr⟩ := h
    rw [WLen.len hw]; rfl
  · obtain ⟨B, columns0, b, z, sm, hw, h, kr⟩ := h
    have h : m_are_columns columns0 = some b := h
    refine ⟨_, (pss_cons (ps_set (i := 1) sc_are_columns.nd rfl (by first | exact Or.inl rfl | exact Or.inr rfl) (pe_and (pe_cmpR op_gt (pe_callB (len_seqK (K := K) rfl) (by rfl) T.b_len (by decide +kernel) (pa_cons (pv 0) pa_nil)) pe_int (nomark _)) (pe_one (pe_cmpR op_eq (lenStK (K := K) rfl rfl (by rfl) T.b_len (by rfl) T.b_set (pv 0)) (pe_callB (len_seqK (K := K) rfl) (by rfl) T.b_len (by decide +kernel) (pa_cons (pv 0) pa_nil)) (nomark _))))) (pss_cons (ps_ret (pe_and (pv 1) (pe_one (pe_callB (allK (K := K) rfl rfl) (by rfl) T.b_all (by decide +kernel) (pa_cons (pe_lc (own := [("column", 2)]) rfl sc_are_columns.nd (pi_listK (K := K) rfl (pv 0)) (blkOk_by (N := N_are_columns) (sc := defScope s_are_columns) (by decide +kernel)) (fun _ _ _ _ _ => (pg_name (i := 2) sc_are_columns.nd rfl (by first | exact Or.inl rfl | exact Or.inr rfl))) (fun _ _ _ _ _ => pts_nil) (fun _ _ _ _ _ => (pe_call (ok_is_name (P := P) (w := w) (base := base) T) (hr.mono (Nat.le_of_ble_eq_true rfl)) rfl T.g_is_name T.F_is_name.kp T.n_is_name .nil pass0 (pa_cons (pv 2) pa_nil)))) pa_nil))))) pss_nil)), ?_⟩
    refine nx_go (frm_start (N := N_are_columns) (n := 2) z sm hw (by rw [WLen.len hw]; rfl)) ?_
    show Nx _ _ [.imm (rOb (cLst rStr)) columns0, .no, .no]
    unfold m_are_columns at h
    obtain ⟨c3, hc3, h⟩ := letO_some h
    obtain ⟨b2, hb2, h⟩ := bindO_some h
    obtain ⟨distinct4, hdistinct4, h⟩ := letO_some h
    refine (sq_asg (ev_to (ev_and (ev_to (ev_gt (ev_lenL (ev_var rfl)) ev_int) hc3.symm) (fun hc => by have hx := iteO_t hc hb2; obtain ⟨n1, hn1, hx⟩ := bindO_some hx; exact ev_to (ev_eqS scInt (ev_lenStL (ev_var rfl) hn1) (ev_lenL (ev_var rfl)) rfl) (Option.some.inj hx)) (fun hc => ⟨(Option.some.inj (iteO_f hc hb2)).symm, rfl⟩)) hdistinct4.symm) ?_)
    show Nx _ _ [.imm (rOb (cLst rStr)) columns0, .imm rBool distinct4, .no]
    obtain ⟨c9, hc9, h⟩ := letO_some h
    obtain ⟨b8, hb8, h⟩ := bindO_some h
    exact (sq_ret (ev_and (ev_to (ev_var rfl) hc9.symm) (fun hc => by have hx := iteO_t hc hb8; obtain ⟨l7, hl7, hx⟩ := bindO_some hx; exact ev_to (ev_allL (ev_new (ec_lc (m_are_columns_c1) (it_list (ev_var rfl)) hl7 tg_name (fun k hk => hk) (by rfl) (fun _ => by rfl) (fun column5 o ho => by unfold m_are_columns_c1 at ho; obtain ⟨v6, hv6, ho⟩ := bindO_some ho; cases ho; exact ⟨et_yes, fun y hy => by cases hy; exact ev_to (ev_call (ew_1 (ev_var rfl)) hv6) rfl⟩)))) (Option.some.inj hx)) (fun hc => ⟨(Option.some.inj (iteO_f hc hb8)).symm, rfl⟩)) h kr)
theorem ok_is_key (T : Txt K mg a) : FnOk P w K mg base CX0 1 a.f_is_key a.d_is_key ["key", "columns"] (SpP (wC (rOb (cLst rStr)) (w1 (rOb (cLst rStr)))) rBool (fun x => m_is_key x.1 x.2)) := by
  refine T.F_is_key.ok sc_is_key (fun vs H Q E h => ?_) (fun cdv A outer s H vs Q E hr h => ?_)
  · obtain ⟨B, x, b, z, sm, hw, h, kr⟩ := h
    rw [WLen.len hw]; rfl
  · obtain ⟨B, ⟨key0, columns0⟩, b, z, sm, hw, h, kr⟩ := h
    have h : m_is_key key0 columns0 = some b := h
    refine ⟨_, (pss_cons (ps_set (i := 2) sc_is_key.nd rfl (by first | exact Or.inl rfl | exact Or.inr rfl) (pe_and (pe_cmpR op_gt (pe_callB (len_seqK (K := K) rfl) (by rfl) T.b_len (by decide +kernel) (pa_cons (pv 0) pa_nil)) pe_int (nomark _)) (pe_one (pe_cmpR op_eq (lenStK (K := K) rfl rfl (by rfl) T.b_len (by rfl) T.b_set (pv 0)) (pe_callB (len_seqK (K := K) rfl) (by rfl) T.b_len (by decide +kernel) (pa_cons (pv 0) pa_nil)) (nomark _))))) (pss_cons (ps_ret (pe_and (pv 2) (pe_one (pe_callB (allK (K := K) rfl rfl) (by rfl) T.b_all (by decide +kernel) (pa_cons (pe_lc (own := [("column", 3)]) rfl sc_is_key.nd (pi_listK (K := K) rfl (pv 0)) (blkOk_by (N := N_is_key) (sc := defScope s_is_key) (by decide +kernel)) (fun _ _ _ _ _ => (pg_name (i := 3) sc_is_key.nd rfl (by first | exact Or.inl rfl | exact Or.inr rfl))) (fun _ _ _ _ _ => pts_nil) (fun _ _ _ _ _ => (pe_cmpR (in_seqK (K := K) rfl) (pv 3) (pv 1) rfl))) pa_nil))))) pss_nil)), ?_⟩
    refine nx_go (frm_start (N := N_is_key) (n := 2) z sm hw (by rw [WLen.len hw]; rfl)) ?_
    show Nx _ _ [.imm (rOb (cLst rStr)) key0, .imm (rOb (cLst rStr)) columns0, .no, .no]
    unfold m_is_key at h
    obtain ⟨c3, hc3, h⟩ := letO_some h
    obtain ⟨b2, hb2, h⟩ := bindO_some h
    obtain ⟨distinct4, hdistinct4, h⟩ := letO_some h
    refine (sq_asg (ev_to (ev_and (ev_to (ev_gt (ev_lenL (ev_var rfl)) ev_int) hc3.symm) (fun hc => by have hx := iteO_t hc hb2; obtain ⟨n1, hn1, hx⟩ := bindO_some hx; exact ev_to (ev_eqS scInt (ev_lenStL (ev_var rfl) hn1) (ev_lenL (ev_var rfl)) rfl) (Option.some.inj hx)) (fun hc => ⟨(Option.some.inj (iteO_f hc hb2)).symm, rfl⟩)) hdistinct4.symm) ?_)
    show Nx _ _ [.imm (rOb (cLst rStr)) key0, .imm (rOb (cLst rStr)) columns0, .imm rBool distinct4, .no]
    obtain ⟨c8, hc8, h⟩ := letO_some h
    obtain ⟨b7, hb7, h⟩ := bindO_some h
    exact (sq_ret (ev_and (ev_to (ev_var rfl) hc8.symm) (fun hc => by have hx := iteO_t hc hb7; obtain ⟨l6, hl6, hx⟩ := bindO_some hx; exact ev_to (ev_allL (ev_new (ec_lc (m_is_key_c1 columns0) (it_list (ev_var rfl)) hl6 tg_name (fun k hk => hk) (by rfl) (fun _ => by rfl) (fun column5 o ho => by unfold m_is_key_c1 at ho; cases ho; exact ⟨et_yes, fun y hy => by cases hy; exact ev_to (ev_inL fl_str (ev_var rfl) (ev_var rfl)) rfl⟩)))) (Option.some.inj hx)) (fun hc => ⟨(Option.some.inj (iteO_f hc hb7)).symm, rfl⟩)) h kr)
theorem ok_Table___init (T : Txt K mg a) : FnOk P w K mg base CX0 3 a.f_Table___init a.d_Table___init ["self", "name", "columns", "key"] (SpJ a.C_Table (wC rStr (wC (rOb (cLst rStr)) (w1 (rOb (cLst rStr))))) (cIns a.C_Table [("name" : Str), ("columns" : Str), ("key" : Str), ("_key_places" : Str)] (wC rStr (wC (rOb (cTpl rStr)) (wC (rOb (cTpl rStr)) (w1 (rOb (cTpl rInt))))))) (fun x => m_Table___init x.1 x.2.1 x.2.2)) := by
  refine T.F_Table___init.ok sc_Table___init (fun vs H Q E h => ?_) (fun cdv A outer s H vs Q E hr h => ?_)
  · obtain ⟨p, dx, vs', B, x, b, rfl, hp, hB, z, sm, hw, h, kr⟩ := h
    show vs'.length + 1 = _; rw [WLen.len hw]; rfl
  · obtain ⟨p, dx, vs', B, ⟨name0, columns0, key0⟩, b, rfl, hp, hB, z, sm, hw, h, kr⟩ := h
    have h : m_Table___init name0 columns0 key0 = some b := h
    refine ⟨_, (pss_cons (ps_if (pt_not (PW.pt (pw_and (pt_val (pe_call (ok_is_name (P := P) (w := w) (base := base) T) (hr.mono (Nat.le_of_ble_eq_true rfl)) rfl T.g_is_name T.F_is_name.kp T.n_is_name .nil pass0 (pa_cons (pv 1) pa_nil))) (pw_and (pt_val (pe_call (ok_are_columns (P := P) (w := w) (base := base) T) (hr.mono (Nat.le_of_ble_eq_true rfl)) rfl T.g_are_columns T.F_are_columns.kp T.n_are_columns .nil pass0 (pa_cons (pv 2) pa_nil))) (pw_and1 (pt_val (pe_call (ok_is_key (P := P) (w := w) (base := base) T) (hr.mono (Nat.le_of_ble_eq_true rfl)) rfl T.g_is_key T.F_is_key.kp T.n_is_key .nil pass0 (pa_cons (pv 3) (pa_cons (pv 2) pa_nil))))))))) (pss_cons G.ps_never pss_nil) pss_nil) (pss_cons (ps_fld (pv 0) (pv 1) rfl) (pss_cons (ps_fld (pv 0) (pe_callTy (tuple_ofK (K := K) rfl) (by rfl) T.b_tuple (by decide +kernel) (pa_cons (pv 2) pa_nil)) rfl) (pss_cons (ps_fld (pv 0) (pe_callTy (tuple_ofK (K := K) rfl) (by rfl) T.b_tuple (by decide +kernel) (pa_cons (pe_lc (own := [("column", 4)]) rfl sc_Table___init.nd (pi_listK (K := K) rfl (pv 2)) (blkOk_by (N := N_Table___init) (sc := defScope s_Table___init) (by decide +kernel)) (fun _ _ _ _ _ => (pg_name (i := 4) sc_Table___init.nd rfl (by first | exact Or.inl rfl | exact Or.inr rfl))) (fun _ _ _ _ _ => (pts_one (pt_cmpR (in_seqK (K := K) rfl) (pv 4) (pv 3) rfl))) (fun _ _ _ _ _ => (pv 4))) pa_nil)) rfl) (pss_cons (ps_fld (pv 0) (pe_callTy (tuple_ofK (K := K) rfl) (by rfl) T.b_tuple (by decide +kernel) (pa_cons (pe_lc (own := [("at", 5), ("column", 4)]) rfl sc_Table___init.nd (pi_enum rfl T.b_enumerate (pa_cons (pv 2) pa_nil)) (blkOk_by (N := N_Table___init) (sc := defScope s_Table___init) (by decide +kernel)) (fun _ _ _ _ _ => (pg_tupK (K := K) rfl 2 rfl (pgs_cons (pg_name (i := 5) sc_Table___init.nd rfl (by first | exact Or.inl rfl | exact Or.inr rfl)) (pgs_cons (pg_name (i := 4) sc_Table___init.nd rfl (by first | exact Or.inl rfl | exact Or.inr rfl)) pgs_nil)))) (fun _ _ _ _ _ => (pts_one (pt_cmpR (in_seqK (K := K) rfl) (pv 4) (pv 3) rfl))) (fun _ _ _ _ _ => (pv 5))) pa_nil)) rfl) pss_nil))))), ?_⟩
    refine nx_go (frm_startS (cc := cIns a.C_Table [] w0) (st := ()) (o := .ins a.C_Table dx []) (N := N_Table___init) (n := 2) z sm hB hp ⟨dx, [], rfl, rfl, rfl⟩ hw (by rw [WLen.len hw]; rfl)) ?_
    show Nx _ _ [.cel p (cIns a.C_Table [] w0) (), .imm rStr name0, .imm (rOb (cLst rStr)) columns0, .imm (rOb (cLst rStr)) key0, .no, .no]
    unfold m_Table___init at h
    obtain ⟨v1, hv1, h⟩ := bindO_some h
    obtain ⟨c7, hc7, h⟩ := letO_some h
    obtain ⟨b6, hb6, h⟩ := bindO_some h
    obtain ⟨c8, hc8, h⟩ := letO_some h
    refine (sq_if (et_to (et_not (et_and (et_to (et_B (ev_call (ew_1 (ev_var rfl)) hv1)) hc7.symm) (fun hc => by have hx := iteO_t hc hb6; obtain ⟨v2, hv2, hx⟩ := bindO_some hx; obtain ⟨c5, hc5, hx⟩ := letO_some hx; obtain ⟨b4, hb4, hx⟩ := bindO_some hx; exact et_to (et_and (et_to (et_B (ev_call (ew_1 (ev_var rfl)) hv2)) hc5.symm) (fun hc => by have hx := iteO_t hc hb4; obtain ⟨v3, hv3, hx⟩ := bindO_some hx; exact et_to (et_B (ev_call (ew_C (ev_var rfl) (ew_1 (ev_var rfl))) hv3)) (Option.some.inj hx)) (fun hc => ⟨(Option.some.inj (iteO_f hc hb4)).symm, rfl⟩)) (Option.some.inj hx)) (fun hc => ⟨(Option.some.inj (iteO_f hc hb6)).symm, rfl⟩))) hc8.symm) (fun hc => ?_) (fun hc => ?_))
    · have h := iteO_t hc h
      cases h
    · have h := iteO_f hc h
      refine nx_next ?_
      try dsimp only
      obtain ⟨name9, hname9, h⟩ := letO_some h
      refine (sq_fld (i := 0) (ev_to (ev_var rfl) hname9.symm) rfl snoc0 (by decide +kernel) (by decide) T.cl_Table T.na_Table_name ?_)
      show Nx _ _ [.cel p (cIns a.C_Table [("name" : Str)] (w1 rStr)) name9, .imm rStr name0, .imm (rOb (cLst rStr)) columns0, .imm (rOb (cLst rStr)) key0, .no, .no]
      obtain ⟨columns10, hcolumns10, h⟩ := letO_some h
      refine (sq_fld (i := 0) (ev_to (ev_new (ec_tupL (ev_var rfl))) hcolumns10.symm) rfl snoc1 (by decide +kernel) (by decide) T.cl_Table T.na_Table_columns ?_)
      show Nx _ _ [.cel p (cIns a.C_Table [("name" : Str), ("columns" : Str)] (wC rStr (w1 (rOb (cTpl rStr))))) (name9, columns10), .imm rStr name0, .imm (rOb (cLst rStr)) columns0, .imm (rOb (cLst rStr)) key0, .no, .no]
      obtain ⟨l13, hl13, h⟩ := bindO_some h
      obtain ⟨key14, hkey14, h⟩ := letO_some h
      refine (sq_fld (i := 0) (ev_to (ev_new (ec_tupL (ev_new (ec_lc (m_Table___init_c1 key0) (it_list (ev_var rfl)) hl13 tg_name (fun k hk => hk) (by rfl) (fun _ => by rfl) (fun column11 o ho => by unfold m_Table___init_c1 at ho; obtain ⟨c12, hc12, ho⟩ := letO_some ho; cases c12 with | true => (have ho : (some (some column11)) = some o := ho; cases ho; exact ⟨et_to (et_T (ev_inL fl_str (ev_var rfl) (ev_var rfl))) hc12.symm, fun y hy => by cases hy; exact ev_to (ev_var rfl) rfl⟩) | false => (have ho : some none = some o := ho; cases ho; exact ⟨et_to (et_T (ev_inL fl_str (ev_var rfl) (ev_var rfl))) hc12.symm, fun y hy => by cases hy⟩)))))) hkey14.symm) rfl (snocC snoc1) (by decide +kernel) (by decide) T.cl_Table T.na_Table_key ?_)
      show Nx _ _ [.cel p (cIns a.C_Table [("name" : Str), ("columns" : Str), ("key" : Str)] (wC rStr (wC (rOb (cTpl rStr)) (w1 (rOb (cTpl rStr)))))) (name9, columns10, key14), .imm rStr name0, .imm (rOb (cLst rStr)) columns0, .imm (rOb (cLst rStr)) key0, .no, .no]
      obtain ⟨l17, hl17, h⟩ := bindO_some h
      obtain ⟨key_places18, hkey_places18, h⟩ := letO_some h
      refine (sq_fld (i := 0) (ev_to (ev_new (ec_tupL (ev_new (ec_lc (m_Table___init_c2 key0) (it_enum (ev_var rfl)) hl17 (tg_tup (tw_C tg_name (fun _ => (tw_1 tg_name)))) (fun k hk => hk) (by rfl) (fun _ => by rfl) (fun at15 o ho => by unfold m_Table___init_c2 at ho; obtain ⟨c16, hc16, ho⟩ := letO_some ho; cases c16 with | true => (have ho : (some (some at15.1)) = some o := ho; cases ho; exact ⟨et_to (et_T (ev_inL fl_str (ev_var rfl) (ev_var rfl))) hc16.symm, fun y hy => by cases hy; exact ev_to (ev_var rfl) rfl⟩) | false => (have ho : some none = some o := ho; cases ho; exact ⟨et_to (et_T (ev_inL fl_str (ev_var rfl) (ev_var rfl))) hc16.symm, fun y hy => by cases hy⟩)))))) hkey_places18.symm) rfl (snocC (snocC snoc1)) (by decide +kernel) (by decide) T.cl_Table T.na_Table__key_places ?_)
      show Nx _ _ [.cel p (cIns a.C_Table [("name" : Str), ("columns" : Str), ("key" : Str), ("_key_places" : Str)] (wC rStr (wC (rOb (cTpl rStr)) (wC (rOb (cTpl rStr)) (w1 (rOb (cTpl rInt))))))) (name9, columns10, key14, key_places18), .imm rStr name0, .imm (rOb (cLst rStr)) columns0, .imm (rOb (cLst rStr)) key0, .no, .no]
      obtain rfl := Option.some.inj h
      exact nx_next (fun σ H B F => kr _ _ F.post (cel_at (i := 0) F rfl).2)
theorem ok_Table_fits (T : Txt K mg a) : FnOk P w K mg base CX0 1 a.f_Table_fits a.d_Table_fits ["self", "row"] (SpP (wC (r_Table P w a) (w1 (rOb (cTpl rInt)))) rBool (fun x => m_Table_fits x.1 x.2)) := by
  refine T.F_Table_fits.ok sc_Table_fits (fun vs H Q E h => ?_) (fun cdv A outer s H vs Q E hr h => ?_)
  · obtain ⟨B, x, b, z, sm, hw, h, kr⟩ := h
    rw [WLen.len hw]; rfl
  · obtain ⟨B, ⟨self0, row0⟩, b, z, sm, hw, h, kr⟩ := h
    have h : m_Table_fits self0 row0 = some b := h
    refine ⟨_, (pss_cons (ps_ret (pe_cmpR op_eq (pe_callB (len_seqK (K := K) rfl) (by rfl) T.b_len (by decide +kernel) (pa_cons (pv 1) pa_nil)) (pe_callB (len_seqK (K := K) rfl) (by rfl) T.b_len (by decide +kernel) (pa_cons (fldK (K := K) rfl (pv 0) rfl) pa_nil)) (nomark _))) pss_nil), ?_⟩
    refine nx_go (frm_start (N := N_Table_fits) (n := 0) z sm hw (by rw [WLen.len hw]; rfl)) ?_
    show Nx _ _ [.imm (r_Table P w a) self0, .imm (rOb (cTpl rInt)) row0]
    unfold m_Table_fits at h
    exact (sq_ret (ev_eqS scInt (ev_lenT (ev_var rfl)) (ev_lenT (ev_fld (ev_var rfl) (accS (acc0)) rfl (by decide +kernel) T.cl_Table T.na_Table_columns)) rfl) h kr)
theorem ok_Table_key_of (T : Txt K mg a) : FnOk P w K mg base (L2N.CX P w) 3 a.f_Table_key_of a.d_Table_key_of ["self", "row"] (SpX (erC a.C_InvalidRow [("name" : Str), ("row" : Str)] (wC rStr (w1 (rOb (cTpl rInt))))) (wC (r_Table P w a) (w1 (rOb (cTpl rInt)))) (rOb (cTpl rInt)) (fun x => m_Table_key_of x.1 x.2)) := by
  refine T.F_Table_key_of.okN sc_Table_key_of (fun vs H Q E h => ?_) (fun cdv A outer s H vs Q E hr h => ?_)
  · obtain ⟨B, x, b, z, sm, hw, h, kr, ke⟩ := h
    rw [WLen.len hw]; rfl
  · obtain ⟨B, ⟨self0, row0⟩, b, z, sm, hw, h, kr, ke⟩ := h
    have h : m_Table_key_of self0 row0 = some b := h
    refine ⟨_, (pss_cons (ps_if (pt_not (pt_val (pe_meth (pv 0) T.cl_Table T.me_Table_fits (ok_Table_fits (P := P) (w := w) (base := base) T) (hr.mono (Nat.le_of_ble_eq_true rfl)) T.n_Table_fits .nil pass0 (pa_cons (pv 1) pa_nil)))) (pss_cons (L2N.ps_raise rfl (L2N.takes_of rfl rfl rfl rfl) (QN.pmk_oex T.x_InvalidRow T.i_InvalidRow T.t_InvalidRow (ok_e_InvalidRow (P := P) (w := w) (base := base) T) (hr.mono (Nat.le_of_ble_eq_true rfl)) T.n_e_InvalidRow .nil pass0 rfl T.g_InvalidRow (pa_cons (fldK (K := K) rfl (pv 0) rfl) (pa_cons (pv 1) pa_nil)))) pss_nil) pss_nil) (pss_cons (ps_ret (pe_callTy (tuple_ofK (K := K) rfl) (by rfl) T.b_tuple (by decide +kernel) (pa_cons (pe_lc (own := [("at", 2)]) rfl sc_Table_key_of.nd (pi_tup (fldK (K := K) rfl (pv 0) rfl)) (blkOk_by (N := N_Table_key_of) (sc := defScope s_Table_key_of) (by decide +kernel)) (fun _ _ _ _ _ => (pg_name (i := 2) sc_Table_key_of.nd rfl (by first | exact Or.inl rfl | exact Or.inr rfl))) (fun _ _ _ _ _ => pts_nil) (fun _ _ _ _ _ => (pe_ix (ix_tupK (K := K) rfl) (pv 1) (pv 2) (fun _ _ => rfl)))) pa_nil))) pss_nil)), ?_⟩
    refine nx_go (frm_start (N := N_Table_key_of) (n := 1) z sm hw (by rw [WLen.len hw]; rfl)) ?_
    show Nx _ _ [.imm (r_Table P w a) self0, .imm (rOb (cTpl rInt)) row0, .no]
    unfold m_Table_key_of at h
    obtain ⟨v1, hv1, h⟩ := bindO_some h
    obtain ⟨c2, hc2, h⟩ := letO_some h
    refine (sq_if (et_to (et_not (et_B (ev_meth (ev_var rfl) (ew_1 (ev_var rfl)) hv1 (by decide +kernel)))) hc2.symm) (fun hc => ?_) (fun hc => ?_))
    · have h := iteO_t hc h
      obtain rfl := Option.some.inj h
      exact (sq_raise2 (ev_fld (ev_var rfl) (acc0) rfl (by decide +kernel) T.cl_Table T.na_Table_name) (ev_var rfl) (by decide +kernel) (ke _ rfl) (fun _ _ _ q => q) (fun _ _ _ _ q => q))
    · have h := iteO_f hc h
      refine nx_next ?_
      try dsimp only
      obtain ⟨l5, hl5, h⟩ := bindO_some h
      obtain rfl := Option.some.inj h
      exact (sq_ret (ev_new (ec_tupL (ev_new (ec_lc (m_Table_key_of_c1 row0) (it_tpl (ev_fld (ev_var rfl) (accS (accS (accS (acc1)))) rfl (by decide +kernel) T.cl_Table T.na_Table__key_places)) hl5 tg_name (fun k hk => hk) (by rfl) (fun _ => by rfl) (fun at3 o ho => by unfold m_Table_key_of_c1 at ho; obtain ⟨y4, hy4, ho⟩ := bindO_some ho; cases ho; exact ⟨et_yes, fun y hy => by cases hy; exact ev_to (ev_ixT (ev_var rfl) (ev_var rfl) hy4) rfl⟩))))) rfl (kr _ rfl))
theorem ok_sorted_tables (T : Txt K mg a) : FnOk P w K mg base (L2N.CX P w) 3 a.f_sorted_tables a.d_sorted_tables ["tables"] (SpX (erC a.C_DuplicateTable [("name" : Str)] (w1 rStr)) (w1 (rOb (cLst (r_Table P w a)))) (rOb (cTpl (r_Table P w a))) (fun x => m_sorted_tables x)) := by
  refine T.F_sorted_tables.okN sc_sorted_tables (fun vs H Q E h => ?_) (fun cdv A outer s H vs Q E hr h => ?_)
  · obtain ⟨B, x, b, z, sm, hw, h, kr, ke⟩ := h
    rw [WLen.len hw]; rfl
  · obtain ⟨B, tables0, b, z, sm, hw, h, kr, ke⟩ := h
    have h : m_sorted_tables tables0 = some b := h
    refine ⟨_, (pss_cons (ps_set (i := 1) sc_sorted_tables.nd rfl (by first | exact Or.inl rfl | exact Or.inr rfl) (dnewFK (P := P) (w := w) rfl rfl)) (pss_cons (ps_for (passes_of rfl) rfl (pi_listK (K := K) rfl (pv 0)) (pg_name (i := 2) sc_sorted_tables.nd rfl (by first | exact Or.inl rfl | exact Or.inr rfl)) (pss_cons (ps_if (pt_cmp (finK (P := P) (w := w) rfl rfl (fldK (K := K) rfl (pv 2) rfl) (pv 1))) (pss_cons (L2N.ps_raise rfl (L2N.takes_of rfl rfl rfl rfl) (QN.pmk_oex T.x_DuplicateTable T.i_DuplicateTable T.t_DuplicateTable (ok_e_DuplicateTable (P := P) (w := w) (base := base) T) (hr.mono (Nat.le_of_ble_eq_true rfl)) T.n_e_DuplicateTable .nil pass0 rfl T.g_DuplicateTable (pa_cons (fldK (K := K) rfl (pv 2) rfl) pa_nil))) pss_nil) pss_nil) (pss_cons (fputK (P := P) (w := w) rfl rfl (pv 1) (fldK (K := K) rfl (pv 2) rfl) (pv 2) rfl) pss_nil))) (pss_cons (ps_ret (pe_callTy (tuple_ofK (K := K) rfl) (by rfl) T.b_tuple (by decide +kernel) (pa_cons (pe_lc (own := [("name", 3)]) rfl sc_sorted_tables.nd (pi_listK (K := K) rfl (pe_callB (sortSK (K := K) rfl) (by rfl) T.b_sorted (by decide +kernel) (pa_cons (pe_callTy (listFK (P := P) (w := w) rfl rfl rfl) (by rfl) T.b_list (by decide +kernel) (pa_cons (pv 1) pa_nil)) pa_nil))) (blkOk_by (N := N_sorted_tables) (sc := defScope s_sorted_tables) (by decide +kernel)) (fun _ _ _ _ _ => (pg_name (i := 3) sc_sorted_tables.nd rfl (by first | exact Or.inl rfl | exact Or.inr rfl))) (fun _ _ _ _ _ => pts_nil) (fun _ _ _ _ _ => (fgetK (P := P) (w := w) rfl rfl (pv 1) (pv 3) (fun _ _ => rfl)))) pa_nil))) pss_nil))), ?_⟩
    refine nx_go (frm_start (N := N_sorted_tables) (n := 3) z sm hw (by rw [WLen.len hw]; rfl)) ?_
    show Nx _ _ [.imm (rOb (cLst (r_Table P w a))) tables0, .no, .no, .no]
    unfold m_sorted_tables at h
    obtain ⟨named1, hnamed1, h⟩ := letO_some h
    refine (sq_asgD (c := cDicF P w kyStr (r_Table P w a)) (ed_to (ed_newF kyStr (r_Table P w a)) hnamed1.symm) (fun a_named1 na_named1 => ?_))
    show Nx _ _ [.imm (rOb (cLst (r_Table P w a))) tables0, .cel a_named1 (cDicF P w kyStr (r_Table P w a) a_named1) named1, .no, .no]
    obtain ⟨R6, hR6, h⟩ := bindO_some h
    refine (sq_forX (ψ := psi (rOb (cTpl (r_Table P w a)))) (R := (erC a.C_DuplicateTable [("name" : Str)] (w1 rStr))) (E := E) (m_sorted_tables_b1) (fun z => [.imm (rOb (cLst (r_Table P w a))) tables0, .cel a_named1 (cDicF P w kyStr (r_Table P w a) a_named1) z, .no, .no]) (it_list (ev_var rfl)) hR6 (fun A1 _ => ?_) (fun _ => tg_name) (fun A1 D1 table3 s2 st hA1 h k1 => ?_) ?_ ?_ ?_)
    · exact nx_fin
    · show Nx _ _ [.imm (rOb (cLst (r_Table P w a))) tables0, .cel a_named1 (cDicF P w kyStr (r_Table P w a) a_named1) s2, .imm (r_Table P w a) table3, .no]
      unfold m_sorted_tables_b1 at h
      obtain ⟨c4, hc4, h⟩ := letO_some h
      refine (sq_if (et_to (et_B (ev_finCel (ev_fld (ev_var rfl) (acc0) rfl (by decide +kernel) T.cl_Table T.na_Table_name) rfl)) hc4.symm) (fun hc => ?_) (fun hc => ?_))
      · have h := iteO_t hc h
        exact (sq_raise1 (ev_fld (ev_var rfl) (acc0) rfl (by decide +kernel) T.cl_Table T.na_Table_name) (k1.er _ (Option.some.inj h).symm) (fun _ _ _ q => q) (fun _ _ _ _ q => q))
      · have h := iteO_f hc h
        refine nx_next ?_
        try dsimp only
        obtain ⟨d5, hd5, h⟩ := bindO_some h
        refine (sq_fput (ev_var rfl) (ev_fld (ev_var rfl) (acc0) rfl (by decide +kernel) T.cl_Table T.na_Table_name) rfl rfl hd5 ?_)
        show Nx _ _ [.imm (rOb (cLst (r_Table P w a))) tables0, .cel a_named1 (cDicF P w kyStr (r_Table P w a) a_named1) d5, .imm (r_Table P w a) table3, .no]
        refine nx_next ?_
        refine nx_forget 2 ?_
        exact k1.nx _ (Option.some.inj h).symm
    · intro b e
      subst e
      obtain rfl := stepO_ret h
      exact kr _ rfl
    · intro b e
      subst e
      obtain rfl := stepO_ret h
      exact ke _ rfl
    · intro e7 e
      subst e
      have h := stepO_nx h
      show Nx _ _ [.imm (rOb (cLst (r_Table P w a))) tables0, .cel a_named1 (cDicF P w kyStr (r_Table P w a) a_named1) e7, .no, .no]
      refine (nx_freezeD (c := cDicF P w kyStr (r_Table P w a)) 1 na_named1 rfl ?_)
      show Nx _ _ [.imm (rOb (cLst (r_Table P w a))) tables0, .imm (rDicF P w kyStr (r_Table P w a)) e7, .no, .no]
      obtain ⟨l8, hl8, h⟩ := bindO_some h
      obtain ⟨l9, hl9, h⟩ := bindO_some h
      obtain ⟨l12, hl12, h⟩ := bindO_some h
      obtain rfl := Option.some.inj h
      exact (sq_ret (ev_new (ec_tupL (ev_new (ec_lc (m_sorted_tables_c1 e7) (it_list (ev_new (ec_sortS (ev_new (ec_listF kyStr (ev_var rfl) hl8)) hl9))) hl12 tg_name (fun k hk => hk) (by rfl) (fun _ => by rfl) (fun name10 o ho => by unfold m_sorted_tables_c1 at ho; obtain ⟨y11, hy11, ho⟩ := bindO_some ho; cases ho; exact ⟨et_yes, fun y hy => by cases hy; exact ev_to (ev_fget kyStr (ev_var rfl) (ev_var rfl) hy11) rfl⟩))))) rfl (kr _ rfl))
theorem ok_sorted_tables_Vt (T : Txt K mg a) : FnOk P w K mg base (L2N.CX P w) 3 a.f_sorted_tables a.d_sorted_tables ["tables"] (SpX (erC a.C_DuplicateTable [("name" : Str)] (w1 rStr)) (w1 (rOb (cTpl (r_Table P w a)))) (rOb (cTpl (r_Table P w a))) (fun x => m_sorted_tables_Vt x)) := by
  refine T.F_sorted_tables.okN sc_sorted_tables (fun vs H Q E h => ?_) (fun cdv A outer s H vs Q E hr h => ?_)
  · obtain ⟨B, x, b, z, sm, hw, h, kr, ke⟩ := h
    rw [WLen.len hw]; rfl
  · obtain ⟨B, tables0, b, z, sm, hw, h, kr, ke⟩ := h
    have h : m_sorted_tables_Vt tables0 = some b := h
    refine ⟨_, (pss_cons (ps_set (i := 1) sc_sorted_tables.nd rfl (by first | exact Or.inl rfl | exact Or.inr rfl) (dnewFK (P := P) (w := w) rfl rfl)) (pss_cons (ps_for (passes_of rfl) rfl (pi_tup (pv 0)) (pg_name (i := 2) sc_sorted_tables.nd rfl (by first | exact Or.inl rfl | exact Or.inr rfl)) (pss_cons (ps_if (pt_cmp (finK (P := P) (w := w) rfl rfl (fldK (K := K) rfl (pv 2) rfl) (pv 1))) (pss_cons (L2N.ps_raise rfl (L2N.takes_of rfl rfl rfl rfl) (QN.pmk_oex T.x_DuplicateTable T.i_DuplicateTable T.t_DuplicateTable (ok_e_DuplicateTable (P := P) (w := w) (base := base) T) (hr.mono (Nat.le_of_ble_eq_true rfl)) T.n_e_DuplicateTable .nil pass0 rfl T.g_DuplicateTable (pa_cons (fldK (K := K) rfl (pv 2) rfl) pa_nil))) pss_nil) pss_nil) (pss_cons (fputK (P := P) (w := w) rfl rfl (pv 1) (fldK (K := K) rfl (pv 2) rfl) (pv 2) rfl) pss_nil))) (pss_cons (ps_ret (pe_callTy (tuple_ofK (K := K) rfl) (by rfl) T.b_tuple (by decide +kernel) (pa_cons (pe_lc (own := [("name", 3)]) rfl sc_sorted_tables.nd (pi_listK (K := K) rfl (pe_callB (sortSK (K := K) rfl) (by rfl) T.b_sorted (by decide +kernel) (pa_cons (pe_callTy (listFK (P := P) (w := w) rfl rfl rfl) (by rfl) T.b_list (by decide +kernel) (pa_cons (pv 1) pa_nil)) pa_nil))) (blkOk_by (N := N_sorted_tables) (sc := defScope s_sorted_tables) (by decide +kernel)) (fun _ _ _ _ _ => (pg_name (i := 3) sc_sorted_tables.nd rfl (by first | exact Or.inl rfl | exact Or.inr rfl))) (fun _ _ _ _ _ => pts_nil) (fun _ _ _ _ _ => (fgetK (P := P) (w := w) rfl rfl (pv 1) (pv 3) (fun _ _ => rfl)))) pa_nil))) pss_nil))), ?_⟩
    refine nx_go (frm_start (N := N_sorted_tables) (n := 3) z sm hw (by rw [WLen.len hw]; rfl)) ?_
    show Nx _ _ [.imm (rOb (cTpl (r_Table P w a))) tables0, .no, .no, .no]
    unfold m_sorted_tables_Vt at h
    obtain ⟨named1, hnamed1, h⟩ := letO_some h
    refine (sq_asgD (c := cDicF P w kyStr (r_Table P w a)) (ed_to (ed_newF kyStr (r_Table P w a)) hnamed1.symm) (fun a_named1 na_named1 => ?_))
    show Nx _ _ [.imm (rOb (cTpl (r_Table P w a))) tables0, .cel a_named1 (cDicF P w kyStr (r_Table P w a) a_named1) named1, .no, .no]
    obtain ⟨R6, hR6, h⟩ := bindO_some h
    refine (sq_forX (ψ := psi (rOb (cTpl (r_Table P w a)))) (R := (erC a.C_DuplicateTable [("name" : Str)] (w1 rStr))) (E := E) (m_sorted_tables_Vt_b1) (fun z => [.imm (rOb (cTpl (r_Table P w a))) tables0, .cel a_named1 (cDicF P w kyStr (r_Table P w a) a_named1) z, .no, .no]) (it_tpl (ev_var rfl)) hR6 (fun A1 _ => ?_) (fun _ => tg_name) (fun A1 D1 table3 s2 st hA1 h k1 => ?_) ?_ ?_ ?_)
    · exact nx_fin
    · show Nx _ _ [.imm (rOb (cTpl (r_Table P w a))) tables0, .cel a_named1 (cDicF P w kyStr (r_Table P w a) a_named1) s2, .imm (r_Table P w a) table3, .no]
      unfold m_sorted_tables_Vt_b1 at h
      obtain ⟨c4, hc4, h⟩ := letO_some h
      refine (sq_if (et_to (et_B (ev_finCel (ev_fld (ev_var rfl) (acc0) rfl (by decide +kernel) T.cl_Table T.na_Table_name) rfl)) hc4.symm) (fun hc => ?_) (fun hc => ?_))
      · have h := iteO_t hc h
        exact (sq_raise1 (ev_fld (ev_var rfl) (acc0) rfl (by decide +kernel) T.cl_Table T.na_Table_name) (k1.er _ (Option.some.inj h).symm) (fun _ _ _ q => q) (fun _ _ _ _ q => q))
      · have h := iteO_f hc h
        refine nx_next ?_
        try dsimp only
        obtain ⟨d5, hd5, h⟩ := bindO_some h
        refine (sq_fput (ev_var rfl) (ev_fld (ev_var rfl) (acc0) rfl (by decide +kernel) T.cl_Table T.na_Table_name) rfl rfl hd5 ?_)
        show Nx _ _ [.imm (rOb (cTpl (r_Table P w a))) tables0, .cel a_named1 (cDicF P w kyStr (r_Table P w a) a_named1) d5, .imm (r_Table P w a) table3, .no]
        refine nx_next ?_
        refine nx_forget 2 ?_
        exact k1.nx _ (Option.some.inj h).symm
    · intro b e
      subst e
      obtain rfl := stepO_ret h
      exact kr _ rfl
    · intro b e
      subst e
      obtain rfl := stepO_ret h
      exact ke _ rfl
    · intro e7 e
      subst e
      have h := stepO_nx h
      show Nx _ _ [.imm (rOb (cTpl (r_Table P w a))) tables0, .cel a_named1 (cDicF P w kyStr (r_Table P w a) a_named1) e7, .no, .no]
      refine (nx_freezeD (c := cDicF P w kyStr (r_Table P w a)) 1 na_named1 rfl ?_)
      show Nx _ _ [.imm (rOb (cTpl (r_Table P w a))) tables0, .imm (rDicF P w kyStr (r_Table P w a)) e7, .no, .no]
      obtain ⟨l8, hl8, h⟩ := bindO_some h
      obtain ⟨l9, hl9, h⟩ := bindO_some h
      obtain ⟨l12, hl12, h⟩ := bindO_some h
      obtain rfl := Option.some.inj h
      exact (sq_ret (ev_new (ec_tupL (ev_new (ec_lc (m_sorted_tables_Vt_c1 e7) (it_list (ev_new (ec_sortS (ev_new (ec_listF kyStr (ev_var rfl) hl8)) hl9))) hl12 tg_name (fun k hk => hk) (by rfl) (fun _ => by rfl) (fun name10 o ho => by unfold m_sorted_tables_Vt_c1 at ho; obtain ⟨y11, hy11, ho⟩ := bindO_some ho; cases ho; exact ⟨et_yes, fun y hy => by cases hy; exact ev_to (ev_fget kyStr (ev_var rfl) (ev_var rfl) hy11) rfl⟩))))) rfl (kr _ rfl))
theorem ok_Shelf___init (T : Txt K mg a) : FnOk P w K mg base CX0 1 a.f_Shelf___init a.d_Shelf___init ["self", "held"] (SpJ a.C_Shelf (w1 (rDicN P w kyTpl (rOb (cTpl rInt)))) (cIns a.C_Shelf [("held" : Str)] (w1 (rDicN P w kyTpl (rOb (cTpl rInt))))) (fun x => m_Shelf___init x)) := by
  refine T.F_Shelf___init.ok sc_Shelf___init (fun vs H Q E h => ?_) (fun cdv A outer s H vs Q E hr h => ?_)
  · obtain ⟨p, dx, vs', B, x, b, rfl, hp, hB, z, sm, hw, h, kr⟩ := h
    show vs'.length + 1 = _; rw [WLen.len hw]; rfl
  · obtain ⟨p, dx, vs', B, held0, b, rfl, hp, hB, z, sm, hw, h, kr⟩ := h
    have h : m_Shelf___init held0 = some b := h
    refine ⟨_, (pss_cons (ps_fld (pv 0) (pv 1) rfl) pss_nil), ?_⟩
    refine nx_go (frm_startS (cc := cIns a.C_Shelf [] w0) (st := ()) (o := .ins a.C_Shelf dx []) (N := N_Shelf___init) (n := 0) z sm hB hp ⟨dx, [], rfl, rfl, rfl⟩ hw (by rw [WLen.len hw]; rfl)) ?_
    show Nx _ _ [.cel p (cIns a.C_Shelf [] w0) (), .imm (rDicN P w kyTpl (rOb (cTpl rInt))) held0]
    unfold m_Shelf___init at h
    obtain ⟨held1, hheld1, h⟩ := letO_some h
    refine (sq_fld (i := 0) (ev_to (ev_var rfl) hheld1.symm) rfl snoc0 (by decide +kernel) (by decide) T.cl_Shelf T.na_Shelf_held ?_)
    show Nx _ _ [.cel p (cIns a.C_Shelf [("held" : Str)] (w1 (rDicN P w kyTpl (rOb (cTpl rInt))))) held1, .imm (rDicN P w kyTpl (rOb (cTpl rInt))) held0]
    obtain rfl := Option.some.inj h
    exact nx_next (fun σ H B F => kr _ _ F.post (cel_at (i := 0) F rfl).2)
theorem ok_shelf_of (T : Txt K mg a) : FnOk P w K mg base (L2N.CX P w) 4 a.f_shelf_of a.d_shelf_of ["table", "rows"] (SpX (erS (erC a.C_InvalidRow [("name" : Str), ("row" : Str)] (wC rStr (w1 (rOb (cTpl rInt))))) (erC a.C_DuplicateKey [("name" : Str), ("key" : Str)] (wC rStr (w1 (rOb (cTpl rInt)))))) (wC (r_Table P w a) (w1 (rOb (cLst (rOb (cTpl rInt)))))) (r_Shelf P w a) (fun x => m_shelf_of x.1 x.2)) := by
  refine T.F_shelf_of.okN sc_shelf_of (fun vs H Q E h => ?_) (fun cdv A outer s H vs Q E hr h => ?_)
  · obtain ⟨B, x, b, z, sm, hw, h, kr, ke⟩ := h
    rw [WLen.len hw]; rfl
  · obtain ⟨B, ⟨table0, rows0⟩, b, z, sm, hw, h, kr, ke⟩ := h
    have h : m_shelf_of table0 rows0 = some b := h
    refine ⟨_, (pss_cons (ps_if (pt_val (pe_callB (isiK (K := K) rfl) (by rfl) T.b_isinstance (by decide +kernel) (pa_cons (pv 1) (pa_cons (pe_glob (v := .ref a.C_Shelf) (by rfl) T.g_Shelf rfl) pa_nil)))) (pss_cons (ps_ret (pv 1)) pss_nil) pss_nil) (pss_cons (ps_set (i := 2) sc_shelf_of.nd rfl (by first | exact Or.inl rfl | exact Or.inr rfl) (dnewK (P := P) (w := w) rfl rfl)) (pss_cons (ps_for (passes_of rfl) rfl (pi_listK (K := K) rfl (pv 1)) (pg_name (i := 3) sc_shelf_of.nd rfl (by first | exact Or.inl rfl | exact Or.inr rfl)) (pss_cons (ps_set (i := 4) sc_shelf_of.nd rfl (by first | exact Or.inl rfl | exact Or.inr rfl) (pe_methX (pv 0) T.cl_Table T.me_Table_key_of (ok_Table_key_of (P := P) (w := w) (base := base) T) (hr.mono (Nat.le_of_ble_eq_true rfl)) T.n_Table_key_of (fun σ => L2N.passAt (L2N.takes_of rfl rfl rfl rfl) σ) (pa_cons (pv 3) pa_nil))) (pss_cons (ps_if (pt_cmp (ninK (P := P) (w := w) rfl rfl hr.units8 (pv 4) (pv 2))) (pss_cons (L2N.ps_raise rfl (L2N.takes_of rfl rfl rfl rfl) (QN.pmk_oex T.x_DuplicateKey T.i_DuplicateKey T.t_DuplicateKey (ok_e_DuplicateKey (P := P) (w := w) (base := base) T) (hr.mono (Nat.le_of_ble_eq_true rfl)) T.n_e_DuplicateKey .nil pass0 rfl T.g_DuplicateKey (pa_cons (fldK (K := K) rfl (pv 0) rfl) (pa_cons (pv 4) pa_nil)))) pss_nil) pss_nil) (pss_cons (nputK (P := P) (w := w) rfl rfl hr.units8 (pv 2) (pv 4) (pv 3) rfl) pss_nil)))) (pss_cons (ps_ret (makeNK (P := P) (w := w) (K := K) (mg := mg) (base := base) rfl rfl rfl rfl rfl T.M_Shelf (ok_Shelf___init (P := P) (w := w) (base := base) T) (hr.mono (Nat.le_of_ble_eq_true rfl)) (by rfl) T.g_Shelf T.n_Shelf___init .nil pass0 (pa_cons (pe_dcN (P := P) (w := w) rfl rfl hr.units65 (own := [("key", 4)]) rfl sc_shelf_of.nd (pi_listK (K := K) rfl (pe_callB (sortUK (K := K) rfl hr.units16) (by rfl) T.b_sorted (by decide +kernel) (pa_cons (pe_callTy (listNK (P := P) (w := w) rfl rfl rfl) (by rfl) T.b_list (by decide +kernel) (pa_cons (pv 2) pa_nil)) pa_nil))) (blkOk_by (N := N_shelf_of) (sc := defScope s_shelf_of) (by decide +kernel)) (fun _ _ _ _ _ => (pg_name (i := 4) sc_shelf_of.nd rfl (by first | exact Or.inl rfl | exact Or.inr rfl))) (fun _ _ _ _ _ => pts_nil) (fun _ _ _ _ _ => (pv 4)) (fun _ _ _ _ _ => (ngetK (P := P) (w := w) rfl rfl hr.units8 (pv 2) (pv 4) (fun _ _ => rfl)))) pa_nil))) pss_nil)))), ?_⟩
    refine nx_go (frm_start (N := N_shelf_of) (n := 3) z sm hw (by rw [WLen.len hw]; rfl)) ?_
    show Nx _ _ [.imm (r_Table P w a) table0, .imm (rOb (cLst (rOb (cTpl rInt)))) rows0, .no, .no, .no]
    unfold m_shelf_of at h
    obtain ⟨c1, hc1, h⟩ := letO_some h
    refine (sq_if (et_to (et_B (ev_isi (ev_var rfl) ty_lst (.own _) T.q_list_Shelf)) hc1.symm) (fun hc => ?_) (fun hc => ?_))
    · have h := iteO_t hc h
      cases h
    · have h := iteO_f hc h
      refine nx_next ?_
      try dsimp only
      refine (sq_newN kyTpl (rOb (cTpl rInt)) (fun a_held2 na_held2 => ?_))
      show Nx _ _ [.imm (r_Table P w a) table0, .imm (rOb (cLst (rOb (cTpl rInt)))) rows0, .cel a_held2 (cDicN P w a_held2 kyTpl (rOb (cTpl rInt))) ([] : (List ((List Int) × (List Int)))), .no, .no]
      obtain ⟨R10, hR10, h⟩ := bindO_some h
      refine (sq_forX (ψ := psi (r_Shelf P w a)) (R := (erS (erC a.C_InvalidRow [("name" : Str), ("row" : Str)] (wC rStr (w1 (rOb (cTpl rInt))))) (erC a.C_DuplicateKey [("name" : Str), ("key" : Str)] (wC rStr (w1 (rOb (cTpl rInt))))))) (E := E) (m_shelf_of_b1 table0) (fun z => [.imm (r_Table P w a) table0, .imm (rOb (cLst (rOb (cTpl rInt)))) rows0, .cel a_held2 (cDicN P w a_held2 kyTpl (rOb (cTpl rInt))) z, .no, .no]) (it_list (ev_var rfl)) hR10 (fun A1 _ => ?_) (fun _ => tg_name) (fun A1 D1 row4 s3 st hA1 h k1 => ?_) ?_ ?_ ?_)
      · exact nx_fin
      · show Nx _ _ [.imm (r_Table P w a) table0, .imm (rOb (cLst (rOb (cTpl rInt)))) rows0, .cel a_held2 (cDicN P w a_held2 kyTpl (rOb (cTpl rInt))) s3, .imm (rOb (cTpl rInt)) row4, .no]
        unfold m_shelf_of_b1 at h
        obtain ⟨r5, hr5, h⟩ := bindO_some h
        refine (xaMe (ev_var rfl) (ew_1 (ev_var rfl)) hr5 (by decide +kernel) h (fun key6 h => ?_) (fun e7 h => ?_))
        · show Nx _ _ [.imm (r_Table P w a) table0, .imm (rOb (cLst (rOb (cTpl rInt)))) rows0, .cel a_held2 (cDicN P w a_held2 kyTpl (rOb (cTpl rInt))) s3, .imm (rOb (cTpl rInt)) row4, .imm (rOb (cTpl rInt)) key6]
          obtain ⟨c8, hc8, h⟩ := letO_some h
          refine (sq_if (et_to (et_B (ev_ninCelN (ev_var rfl) rfl)) hc8.symm) (fun hc => ?_) (fun hc => ?_))
          · have h := iteO_t hc h
            exact (sq_raise2 (ev_fld (ev_var rfl) (acc0) rfl (by decide +kernel) T.cl_Table T.na_Table_name) (ev_var rfl) (by decide +kernel) (k1.er _ (Option.some.inj h).symm) (fun _ _ _ q => q) (fun _ _ _ _ q => q))
          · have h := iteO_f hc h
            refine nx_next ?_
            try dsimp only
            obtain ⟨d9, hd9, h⟩ := bindO_some h
            refine (sq_nput (ev_var rfl) (ev_var rfl) rfl rfl hd9 ?_)
            show Nx _ _ [.imm (r_Table P w a) table0, .imm (rOb (cLst (rOb (cTpl rInt)))) rows0, .cel a_held2 (cDicN P w a_held2 kyTpl (rOb (cTpl rInt))) d9, .imm (rOb (cTpl rInt)) row4, .imm (rOb (cTpl rInt)) key6]
            refine nx_next ?_
            refine nx_forget 3 ?_
            refine nx_forget 4 ?_
            exact k1.nx _ (Option.some.inj h).symm
        · exact nxe_out (k1.er _ (Option.some.inj h).symm)
      · intro b e
        subst e
        obtain rfl := stepO_ret h
        exact kr _ rfl
      · intro b e
        subst e
        obtain rfl := stepO_ret h
        exact ke _ rfl
      · intro e11 e
        subst e
        have h := stepO_nx h
        show Nx _ _ [.imm (r_Table P w a) table0, .imm (rOb (cLst (rOb (cTpl rInt)))) rows0, .cel a_held2 (cDicN P w a_held2 kyTpl (rOb (cTpl rInt))) e11, .no, .no]
        refine (nx_freezeN kyTpl 2 na_held2 rfl ?_)
        show Nx _ _ [.imm (r_Table P w a) table0, .imm (rOb (cLst (rOb (cTpl rInt)))) rows0, .imm (rDicN P w kyTpl (rOb (cTpl rInt))) e11, .no, .no]
        obtain ⟨l12, hl12, h⟩ := bindO_some h
        obtain ⟨l13, hl13, h⟩ := bindO_some h
        obtain ⟨d16, hd16, h⟩ := bindO_some h
        obtain ⟨o17, ho17, h⟩ := bindO_some h
        obtain rfl := Option.some.inj h
        exact (sq_ret (ev_make (ew_1 (ev_newN kyTpl (ed_dcN kyTpl (m_shelf_of_c1 e11) (it_list (ev_new (ec_sortU (ev_new (ec_listN' kyTpl (ev_var rfl) hl12)) hl13))) hd16 tg_name (fun k hk => hk) (by rfl) (fun _ => by rfl) (fun key14 o ho => by unfold m_shelf_of_c1 at ho; obtain ⟨y15, hy15, ho⟩ := bindO_some ho; cases ho; exact ⟨et_yes, fun y hy => by cases hy; exact ⟨ev_to (ev_var rfl) rfl, ev_to (ev_nget kyTpl (ev_var rfl) (ev_var rfl) hy15) rfl⟩⟩)))) ho17) rfl (kr _ rfl))
theorem ok_shelf_of_Ve (T : Txt K mg a) : FnOk P w K mg base (L2N.CX P w) 4 a.f_shelf_of a.d_shelf_of ["table", "rows"] (SpX (erS (erC a.C_InvalidRow [("name" : Str), ("row" : Str)] (wC rStr (w1 (rOb (cTpl rInt))))) (erC a.C_DuplicateKey [("name" : Str), ("key" : Str)] (wC rStr (w1 (rOb (cTpl rInt)))))) (wC (r_Table P w a) (w1 (rOb (cTup w0)))) (r_Shelf P w a) (fun x => m_shelf_of_Ve x.1 x.2)) := by
  refine T.F_shelf_of.okN sc_shelf_of (fun vs H Q E h => ?_) (fun cdv A outer s H vs Q E hr h => ?_)
  · obtain ⟨B, x, b, z, sm, hw, h, kr, ke⟩ := h
    rw [WLen.len hw]; rfl
  · obtain ⟨B, ⟨table0, rows0⟩, b, z, sm, hw, h, kr, ke⟩ := h
    have h : m_shelf_of_Ve table0 rows0 = some b := h
    refine ⟨_, (pss_cons (ps_if (pt_val (pe_callB (isiK (K := K) rfl) (by rfl) T.b_isinstance (by decide +kernel) (pa_cons (pv 1) (pa_cons (pe_glob (v := .ref a.C_Shelf) (by rfl) T.g_Shelf rfl) pa_nil)))) (pss_cons (ps_ret (pv 1)) pss_nil) pss_nil) (pss_cons (ps_set (i := 2) sc_shelf_of.nd rfl (by first | exact Or.inl rfl | exact Or.inr rfl) (dnewK (P := P) (w := w) rfl rfl)) (pss_cons (ps_for (passes_of rfl) rfl (pi_tup (pv 1)) (pg_name (i := 3) sc_shelf_of.nd rfl (by first | exact Or.inl rfl | exact Or.inr rfl)) (pss_cons (ps_set (i := 4) sc_shelf_of.nd rfl (by first | exact Or.inl rfl | exact Or.inr rfl) (pe_methX (pv 0) T.cl_Table T.me_Table_key_of (ok_Table_key_of (P := P) (w := w) (base := base) T) (hr.mono (Nat.le_of_ble_eq_true rfl)) T.n_Table_key_of (fun σ => L2N.passAt (L2N.takes_of rfl rfl rfl rfl) σ) (pa_cons (pv 3) pa_nil))) (pss_cons (ps_if (pt_cmp (ninK (P := P) (w := w) rfl rfl hr.units8 (pv 4) (pv 2))) (pss_cons (L2N.ps_raise rfl (L2N.takes_of rfl rfl rfl rfl) (QN.pmk_oex T.x_DuplicateKey T.i_DuplicateKey T.t_DuplicateKey (ok_e_DuplicateKey (P := P) (w := w) (base := base) T) (hr.mono (Nat.le_of_ble_eq_true rfl)) T.n_e_DuplicateKey .nil pass0 rfl T.g_DuplicateKey (pa_cons (fldK (K := K) rfl (pv 0) rfl) (pa_cons (pv 4) pa_nil)))) pss_nil) pss_nil) (pss_cons (nputK (P := P) (w := w) rfl rfl hr.units8 (pv 2) (pv 4) (pv 3) rfl) pss_nil)))) (pss_cons (ps_ret (makeNK (P := P) (w := w) (K := K) (mg := mg) (base := base) rfl rfl rfl rfl rfl T.M_Shelf (ok_Shelf___init (P := P) (w := w) (base := base) T) (hr.mono (Nat.le_of_ble_eq_true rfl)) (by rfl) T.g_Shelf T.n_Shelf___init .nil pass0 (pa_cons (pe_dcN (P := P) (w := w) rfl rfl hr.units65 (own := [("key", 4)]) rfl sc_shelf_of.nd (pi_listK (K := K) rfl (pe_callB (sortUK (K := K) rfl hr.units16) (by rfl) T.b_sorted (by decide +kernel) (pa_cons (pe_callTy (listNK (P := P) (w := w) rfl rfl rfl) (by rfl) T.b_list (by decide +kernel) (pa_cons (pv 2) pa_nil)) pa_nil))) (blkOk_by (N := N_shelf_of) (sc := defScope s_shelf_of) (by decide +kernel)) (fun _ _ _ _ _ => (pg_name (i := 4) sc_shelf_of.nd rfl (by first | exact Or.inl rfl | exact Or.inr rfl))) (fun _ _ _ _ _ => pts_nil) (fun _ _ _ _ _ => (pv 4)) (fun _ _ _ _ _ => (ngetK (P := P) (w := w) rfl rfl hr.units8 (pv 2) (pv 4) (fun _ _ => rfl)))) pa_nil))) pss_nil)))), ?_⟩
    refine nx_go (frm_start (N := N_shelf_of) (n := 3) z sm hw (by rw [WLen.len hw]; rfl)) ?_
    show Nx _ _ [.imm (r_Table P w a) table0, .imm (rOb (cTup w0)) rows0, .no, .no, .no]
    unfold m_shelf_of_Ve at h
    obtain ⟨c1, hc1, h⟩ := letO_some h
    refine (sq_if (et_to (et_B (ev_isi (ev_var rfl) ty_tup (.own _) T.q_tuple_Shelf)) hc1.symm) (fun hc => ?_) (fun hc => ?_))
    · have h := iteO_t hc h
      cases h
    · have h := iteO_f hc h
      refine nx_next ?_
      try dsimp only
      refine (sq_newN kyTpl (rOb (cTpl rInt)) (fun a_held2 na_held2 => ?_))
      show Nx _ _ [.imm (r_Table P w a) table0, .imm (rOb (cTup w0)) rows0, .cel a_held2 (cDicN P w a_held2 kyTpl (rOb (cTpl rInt))) ([] : (List ((List Int) × (List Int)))), .no, .no]
      obtain ⟨R10, hR10, h⟩ := bindO_some h
      refine (sq_forX (ψ := psi (r_Shelf P w a)) (R := (erS (erC a.C_InvalidRow [("name" : Str), ("row" : Str)] (wC rStr (w1 (rOb (cTpl rInt))))) (erC a.C_DuplicateKey [("name" : Str), ("key" : Str)] (wC rStr (w1 (rOb (cTpl rInt))))))) (E := E) (m_shelf_of_Ve_b1 table0) (fun z => [.imm (r_Table P w a) table0, .imm (rOb (cTup w0)) rows0, .cel a_held2 (cDicN P w a_held2 kyTpl (rOb (cTpl rInt))) z, .no, .no]) (it_tk (ev_tk (ev_tupE (r := (rOb (cTpl rInt))) (ev_var rfl)))) hR10 (fun A1 _ => ?_) (fun _ => tg_name) (fun A1 D1 row4 s3 st hA1 h k1 => ?_) ?_ ?_ ?_)
      · exact nx_fin
      · show Nx _ _ [.imm (r_Table P w a) table0, .imm (rOb (cTup w0)) rows0, .cel a_held2 (cDicN P w a_held2 kyTpl (rOb (cTpl rInt))) s3, .imm (rOb (cTpl rInt)) row4, .no]
        unfold m_shelf_of_Ve_b1 at h
        obtain ⟨r5, hr5, h⟩ := bindO_some h
        refine (xaMe (ev_var rfl) (ew_1 (ev_var rfl)) hr5 (by decide +kernel) h (fun key6 h => ?_) (fun e7 h => ?_))
        · show Nx _ _ [.imm (r_Table P w a) table0, .imm (rOb (cTup w0)) rows0, .cel a_held2 (cDicN P w a_held2 kyTpl (rOb (cTpl rInt))) s3, .imm (rOb (cTpl rInt)) row4, .imm (rOb (cTpl rInt)) key6]
          obtain ⟨c8, hc8, h⟩ := letO_some h
          refine (sq_if (et_to (et_B (ev_ninCelN (ev_var rfl) rfl)) hc8.symm) (fun hc => ?_) (fun hc => ?_))
          · have h := iteO_t hc h
            exact (sq_raise2 (ev_fld (ev_var rfl) (acc0) rfl (by decide +kernel) T.cl_Table T.na_Table_name) (ev_var rfl) (by decide +kernel) (k1.er _ (Option.some.inj h).symm) (fun _ _ _ q => q) (fun _ _ _ _ q => q))
          · have h := iteO_f hc h
            refine nx_next ?_
            try dsimp only
            obtain ⟨d9, hd9, h⟩ := bindO_some h
            refine (sq_nput (ev_var rfl) (ev_var rfl) rfl rfl hd9 ?_)
            show Nx _ _ [.imm (r_Table P w a) table0, .imm (rOb (cTup w0)) rows0, .cel a_held2 (cDicN P w a_held2 kyTpl (rOb (cTpl rInt))) d9, .imm (rOb (cTpl rInt)) row4, .imm (rOb (cTpl rInt)) key6]
            refine nx_next ?_
            refine nx_forget 3 ?_
            refine nx_forget 4 ?_
            exact k1.nx _ (Option.some.inj h).symm
        · exact nxe_out (k1.er _ (Option.some.inj h).symm)
      · intro b e
        subst e
        obtain rfl := stepO_ret h
        exact kr _ rfl
      · intro b e
        subst e
        obtain rfl := stepO_ret h
        exact ke _ rfl
      · intro e11 e
        subst e
        have h := stepO_nx h
        show Nx _ _ [.imm (r_Table P w a) table0, .imm (rOb (cTup w0)) rows0, .cel a_held2 (cDicN P w a_held2 kyTpl (rOb (cTpl rInt))) e11, .no, .no]
        refine (nx_freezeN kyTpl 2 na_held2 rfl ?_)
        show Nx _ _ [.imm (r_Table P w a) table0, .imm (rOb (cTup w0)) rows0, .imm (rDicN P w kyTpl (rOb (cTpl rInt))) e11, .no, .no]
        obtain ⟨l12, hl12, h⟩ := bindO_some h
        obtain ⟨l13, hl13, h⟩ := bindO_some h
        obtain ⟨d16, hd16, h⟩ := bindO_some h
        obtain ⟨o17, ho17, h⟩ := bindO_some h
        obtain rfl := Option.some.inj h
        exact (sq_ret (ev_make (ew_1 (ev_newN kyTpl (ed_dcN kyTpl (m_shelf_of_Ve_c1 e11) (it_list (ev_new (ec_sortU (ev_new (ec_listN' kyTpl (ev_var rfl) hl12)) hl13))) hd16 tg_name (fun k hk => hk) (by rfl) (fun _ => by rfl) (fun key14 o ho => by unfold m_shelf_of_Ve_c1 at ho; obtain ⟨y15, hy15, ho⟩ := bindO_some ho; cases ho; exact ⟨et_yes, fun y hy => by cases hy; exact ⟨ev_to (ev_var rfl) rfl, ev_to (ev_nget kyTpl (ev_var rfl) (ev_var rfl) hy15) rfl⟩⟩)))) ho17) rfl (kr _ rfl))
theorem ok_shelf_of_Va (T : Txt K mg a) : FnOk P w K mg base (L2N.CX P w) 5 a.f_shelf_of a.d_shelf_of ["table", "rows"] (SpX (erS (erC a.C_InvalidRow [("name" : Str), ("row" : Str)] (wC rStr (w1 (rOb (cTpl rInt))))) (erC a.C_DuplicateKey [("name" : Str), ("key" : Str)] (wC rStr (w1 (rOb (cTpl rInt)))))) (wC (r_Table P w a) (w1 (rAlt (rOb (cLst (rOb (cTpl rInt)))) (rOb (cTup w0))))) (r_Shelf P w a) (fun x => m_shelf_of_Va x.1 x.2)) :=
  fnok_or ((ok_shelf_of (P := P) (w := w) (base := base) T).mono (Nat.le_of_ble_eq_true rfl)) ((ok_shelf_of_Ve (P := P) (w := w) (base := base) T).mono (Nat.le_of_ble_eq_true rfl)) (fun vs H Q E h => sp_altX (fun _ _ => rfl) (fun _ _ => rfl) vs H Q E h)
theorem ok_filled_shelves (T : Txt K mg a) : FnOk P w K mg base (L2N.CX P w) 6 a.f_filled_shelves a.d_filled_shelves ["tables", "rows"] (SpX (erS (erC a.C_NoTable [("name" : Str)] (w1 rStr)) (erS (erC a.C_InvalidRow [("name" : Str), ("row" : Str)] (wC rStr (w1 (rOb (cTpl rInt))))) (erC a.C_DuplicateKey [("name" : Str), ("key" : Str)] (wC rStr (w1 (rOb (cTpl rInt))))))) (wC (rOb (cTpl (r_Table P w a))) (w1 (rDicF P w kyStr (rOb (cLst (rOb (cTpl rInt))))))) (rDicF P w kyStr (r_Shelf P w a)) (fun x => m_filled_shelves x.1 x.2)) := by
  refine T.F_filled_shelves.okN sc_filled_shelves (fun vs H Q E h => ?_) (fun cdv A outer s H vs Q E hr h => ?_)
  · obtain ⟨B, x, b, z, sm, hw, h, kr, ke⟩ := h
    rw [WLen.len hw]; rfl
  · obtain ⟨B, ⟨tables0, rows0⟩, b, z, sm, hw, h, kr, ke⟩ := h
    have h : m_filled_shelves tables0 rows0 = some b := h
    refine ⟨_, (pss_cons (ps_setLc (i := 2) (own := [("table", 4)]) rfl sc_filled_shelves.nd rfl rfl (sw_true rfl rfl rfl (by decide +kernel)) (pi_tup (pv 0)) (blkOk_by (N := N_filled_shelves) (sc := defScope s_filled_shelves) (by decide +kernel)) (fun _ _ _ _ _ => (pg_name (i := 4) sc_filled_shelves.nd rfl (by first | exact Or.inl rfl | exact Or.inr rfl))) (fun _ _ _ _ _ => pts_nil) (fun _ _ _ _ _ => (fldK (K := K) rfl (pv 4) rfl))) (pss_cons (ps_for (passes_of rfl) rfl (pi_listK (K := K) rfl (pe_callB (sortSK (K := K) rfl) (by rfl) T.b_sorted (by decide +kernel) (pa_cons (pe_callTy (listFK (P := P) (w := w) rfl rfl rfl) (by rfl) T.b_list (by decide +kernel) (pa_cons (pv 1) pa_nil)) pa_nil))) (pg_name (i := 3) sc_filled_shelves.nd rfl (by first | exact Or.inl rfl | exact Or.inr rfl)) (pss_cons (ps_if (pt_cmpR (notIn_seqK (K := K) rfl) (pv 3) (pv 2) rfl) (pss_cons (L2N.ps_raise rfl (L2N.takes_of rfl rfl rfl rfl) (QN.pmk_oex T.x_NoTable T.i_NoTable T.t_NoTable (ok_e_NoTable (P := P) (w := w) (base := base) T) (hr.mono (Nat.le_of_ble_eq_true rfl)) T.n_e_NoTable .nil pass0 rfl T.g_NoTable (pa_cons (pv 3) pa_nil))) pss_nil) pss_nil) pss_nil)) (pss_cons (ps_ret (exFK (P := P) (w := w) rfl rfl (pe_dcXN (own := [("table", 4)]) (L2N.takes_of rfl rfl rfl rfl) rfl rfl rfl sc_filled_shelves.nd (pi_tup (pv 0)) (blkOk_by (N := N_filled_shelves) (sc := defScope s_filled_shelves) (by decide +kernel)) (fun _ _ _ _ _ => (pg_name (i := 4) sc_filled_shelves.nd rfl (by first | exact Or.inl rfl | exact Or.inr rfl))) (fun _ _ _ _ _ => pts_nil) (fun _ _ _ _ _ => (fldK (K := K) rfl (pv 4) rfl)) (fun _ _ _ _ _ xe E1 pa => (pe_callS (ok_shelf_of_Va (P := P) (w := w) (base := base) T) (hr.mono (Nat.le_of_ble_eq_true rfl)) rfl T.g_shelf_of T.F_shelf_of.kp T.n_shelf_of (fun σ => pa σ) (pa_cons (pv 4) (pa_cons (fget2K (P := P) (w := w) rfl rfl (pv 1) (fldK (K := K) rfl (pv 4) rfl) (pe_tup pa_nil) ⟨rfl, rfl, rfl, rfl⟩) pa_nil))))))) pss_nil))), ?_⟩
    refine nx_go (frm_start (N := N_filled_shelves) (n := 3) z sm hw (by rw [WLen.len hw]; rfl)) ?_
    show Nx _ _ [.imm (rOb (cTpl (r_Table P w a))) tables0, .imm (rDicF P w kyStr (rOb (cLst (rOb (cTpl rInt))))) rows0, .no, .no, .no]
    unfold m_filled_shelves at h
    obtain ⟨l2, hl2, h⟩ := bindO_some h
    obtain ⟨names3, hnames3, h⟩ := letO_some h
    refine (sq_asg (ev_to (ev_new (ec_lc (m_filled_shelves_c1) (it_tpl (ev_var rfl)) hl2 tg_name (fun k hk => hk) (by rfl) (fun _ => by rfl) (fun table1 o ho => by unfold m_filled_shelves_c1 at ho; cases ho; exact ⟨et_yes, fun y hy => by cases hy; exact ev_to (ev_fld (ev_var rfl) (acc0) rfl (by decide +kernel) T.cl_Table T.na_Table_name) rfl⟩))) hnames3.symm) ?_)
    show Nx _ _ [.imm (rOb (cTpl (r_Table P w a))) tables0, .imm (rDicF P w kyStr (rOb (cLst (rOb (cTpl rInt))))) rows0, .imm (rOb (cLst rStr)) names3, .no, .no]
    obtain ⟨l4, hl4, h⟩ := bindO_some h
    obtain ⟨l5, hl5, h⟩ := bindO_some h
    obtain ⟨R9, hR9, h⟩ := bindO_some h
    refine (sq_forX (ψ := psi (rDicF P w kyStr (r_Shelf P w a))) (R := (erS (erC a.C_NoTable [("name" : Str)] (w1 rStr)) (erS (erC a.C_InvalidRow [("name" : Str), ("row" : Str)] (wC rStr (w1 (rOb (cTpl rInt))))) (erC a.C_DuplicateKey [("name" : Str), ("key" : Str)] (wC rStr (w1 (rOb (cTpl rInt)))))))) (E := E) (m_filled_shelves_b1 names3) (fun z => [.imm (rOb (cTpl (r_Table P w a))) tables0, .imm (rDicF P w kyStr (rOb (cLst (rOb (cTpl rInt))))) rows0, .imm (rOb (cLst rStr)) names3, .no, .no]) (it_list (ev_new (ec_sortS (ev_new (ec_listF kyStr (ev_var rfl) hl4)) hl5))) hR9 (fun A1 _ => ?_) (fun _ => tg_name) (fun A1 D1 name7 s6 st hA1 h k1 => ?_) ?_ ?_ ?_)
    · exact nx_fin
    · show Nx _ _ [.imm (rOb (cTpl (r_Table P w a))) tables0, .imm (rDicF P w kyStr (rOb (cLst (rOb (cTpl rInt))))) rows0, .imm (rOb (cLst rStr)) names3, .imm rStr name7, .no]
      unfold m_filled_shelves_b1 at h
      obtain ⟨c8, hc8, h⟩ := letO_some h
      refine (sq_if (et_to (et_T (ev_ninL fl_str (ev_var rfl) (ev_var rfl))) hc8.symm) (fun hc => ?_) (fun hc => ?_))
      · have h := iteO_t hc h
        exact (sq_raise1 (ev_var rfl) (k1.er _ (Option.some.inj h).symm) (fun _ _ _ q => q) (fun _ _ _ _ q => q))
      · have h := iteO_f hc h
        refine nx_next ?_
        try dsimp only
        refine nx_next ?_
        refine nx_forget 3 ?_
        exact k1.nx _ (Option.some.inj h).symm
    · intro b e
      subst e
      obtain rfl := stepO_ret h
      exact kr _ rfl
    · intro b e
      subst e
      obtain rfl := stepO_ret h
      exact ke _ rfl
    · intro e10 e
      subst e
      have h := stepO_nx h
      show Nx _ _ [.imm (rOb (cTpl (r_Table P w a))) tables0, .imm (rDicF P w kyStr (rOb (cLst (rOb (cTpl rInt))))) rows0, .imm (rOb (cLst rStr)) names3, .no, .no]
      obtain ⟨r12, hr12, h⟩ := bindO_some h
      refine (sq_retDcE kyStr (er_dc kyStr (m_filled_shelves_c2) (m_filled_shelves_c3 rows0) (it_tpl (ev_var rfl)) hr12 tg_name (fun k hk => hk) (by rfl) (fun _ => by rfl) (fun table11 y ho => by unfold m_filled_shelves_c2 at ho; cases ho; exact ev_to (ev_fld (ev_var rfl) (acc0) rfl (by decide +kernel) T.cl_Table T.na_Table_name) rfl) (fun table11 y ho => by unfold m_filled_shelves_c3 at ho; exact (er_callX (ew_C (ev_var rfl) (ew_1 (ev_fget2A kyStr (ev_var rfl) (ev_fld (ev_var rfl) (acc0) rfl (by decide +kernel) T.cl_Table T.na_Table_name) (ev_new (ec_tup ew_0))))) ho))) h (fun y13 h => ?_) (fun e14 h => ?_))
      · obtain rfl := Option.some.inj h
        exact kr _ rfl
      · refine nxe_sum h (fun e15 h => ?_) (fun e16 h => ?_)
        · obtain rfl := Option.some.inj h
          exact nxe_out (ke _ rfl)
        · obtain rfl := Option.some.inj h
          exact nxe_out (ke _ rfl)
theorem ok_Store___init (T : Txt K mg a) : FnOk P w K mg base (L2N.CX P w) 7 a.f_Store___init a.d_Store___init ["self", "tables", "rows"] (SpI (erS (erC a.C_DuplicateTable [("name" : Str)] (w1 rStr)) (erS (erC a.C_NoTable [("name" : Str)] (w1 rStr)) (erS (erC a.C_InvalidRow [("name" : Str), ("row" : Str)] (wC rStr (w1 (rOb (cTpl rInt))))) (erC a.C_DuplicateKey [("name" : Str), ("key" : Str)] (wC rStr (w1 (rOb (cTpl rInt)))))))) a.C_Store (wC (rOb (cLst (r_Table P w a))) (w1 (rDicF P w kyStr (rOb (cLst (rOb (cTpl rInt))))))) (cIns a.C_Store [("tables" : Str), ("names" : Str), ("_shelves" : Str)] (wC (rOb (cTpl (r_Table P w a))) (wC (rOb (cTX rStr)) (w1 (rDicF P w kyStr (r_Shelf P w a)))))) (fun x => m_Store___init x.1 x.2)) := by
  refine FunD.ok (CX := L2N.CX P w) T.F_Store___init sc_Store___init (fun vs H Q E h => ?_) (fun cdv A outer s H vs Q E hr h => ?_)
  · obtain ⟨p, dx, vs', B, x, b, rfl, hp, hB, z, sm, hw, h, kr, ke⟩ := h
    show vs'.length + 1 = _; rw [WLen.len hw]; rfl
  · obtain ⟨p, dx, vs', B, ⟨tables0, rows0⟩, b, rfl, hp, hB, z, sm, hw, h, kr, ke⟩ := h
    have h : m_Store___init tables0 rows0 = some b := h
    refine ⟨_, (pss_cons (ps_fld (pv 0) (pe_callS (ok_sorted_tables (P := P) (w := w) (base := base) T) (hr.mono (Nat.le_of_ble_eq_true rfl)) rfl T.g_sorted_tables T.F_sorted_tables.kp T.n_sorted_tables (fun σ => L2N.passAt (L2N.takes_of rfl rfl rfl rfl) σ) (pa_cons (pv 1) pa_nil)) rfl) (pss_cons (ps_fld (pv 0) (pe_callTy (tupXK (K := K) rfl) (by rfl) T.b_tuple (by decide +kernel) (pa_cons (pe_lc (own := [("table", 3)]) rfl sc_Store___init.nd (pi_tup (fldK (K := K) rfl (pv 0) rfl)) (blkOk_by (N := N_Store___init) (sc := defScope s_Store___init) (by decide +kernel)) (fun _ _ _ _ _ => (pg_name (i := 3) sc_Store___init.nd rfl (by first | exact Or.inl rfl | exact Or.inr rfl))) (fun _ _ _ _ _ => pts_nil) (fun _ _ _ _ _ => (fldK (K := K) rfl (pv 3) rfl))) pa_nil)) rfl) (pss_cons (ps_fld (pv 0) (pe_callS (ok_filled_shelves (P := P) (w := w) (base := base) T) (hr.mono (Nat.le_of_ble_eq_true rfl)) rfl T.g_filled_shelves T.F_filled_shelves.kp T.n_filled_shelves (fun σ => L2N.passAt (L2N.takes_of rfl rfl rfl rfl) σ) (pa_cons (fldK (K := K) rfl (pv 0) rfl) (pa_cons (pe_ifExp (pt_cmp (pc_isN (pv 2))) (dnewFK (P := P) (w := w) rfl rfl) (pv 2)) pa_nil))) rfl) pss_nil))), ?_⟩
    refine nx_go (frm_startS (cc := cIns a.C_Store [] w0) (st := ()) (o := .ins a.C_Store dx []) (N := N_Store___init) (n := 1) z sm hB hp ⟨dx, [], rfl, rfl, rfl⟩ hw (by rw [WLen.len hw]; rfl)) ?_
    show Nx _ _ [.cel p (cIns a.C_Store [] w0) (), .imm (rOb (cLst (r_Table P w a))) tables0, .imm (rDicF P w kyStr (rOb (cLst (rOb (cTpl rInt))))) rows0, .no]
    unfold m_Store___init at h
    obtain ⟨r1, hr1, h⟩ := bindO_some h
    refine (xfCall (i := 0) (ew_1 (ev_var rfl)) hr1 h rfl snoc0 (by decide +kernel) (by decide) T.cl_Store T.na_Store_tables (fun self2 h => ?_) (fun e3 h => ?_))
    · show Nx _ _ [.cel p (cIns a.C_Store [("tables" : Str)] (w1 (rOb (cTpl (r_Table P w a))))) self2, .imm (rOb (cLst (r_Table P w a))) tables0, .imm (rDicF P w kyStr (rOb (cLst (rOb (cTpl rInt))))) rows0, .no]
      obtain ⟨l5, hl5, h⟩ := bindO_some h
      obtain ⟨names6, hnames6, h⟩ := letO_some h
      refine (sq_fld (i := 0) (ev_to (ev_new (ec_tupX (ev_new (ec_lc (m_Store___init_c1) (it_tpl (ev_celFld rfl (acc1) rfl (by decide +kernel) T.cl_Store T.na_Store_tables)) hl5 tg_name (fun k hk => hk) (by rfl) (fun _ => by rfl) (fun table4 o ho => by unfold m_Store___init_c1 at ho; cases ho; exact ⟨et_yes, fun y hy => by cases hy; exact ev_to (ev_fld (ev_var rfl) (acc0) rfl (by decide +kernel) T.cl_Table T.na_Table_name) rfl⟩))))) hnames6.symm) rfl snoc1 (by decide +kernel) (by decide) T.cl_Store T.na_Store_names ?_)
      show Nx _ _ [.cel p (cIns a.C_Store [("tables" : Str), ("names" : Str)] (wC (rOb (cTpl (r_Table P w a))) (w1 (rOb (cTX rStr))))) (self2, names6), .imm (rOb (cLst (r_Table P w a))) tables0, .imm (rDicF P w kyStr (rOb (cLst (rOb (cTpl rInt))))) rows0, .no]
      obtain ⟨r7, hr7, h⟩ := bindO_some h
      refine (xfCall (i := 0) (ew_C (ev_celFld rfl (acc0) rfl (by decide +kernel) T.cl_Store T.na_Store_tables) (ew_1 (ev_if (et_B (ev_to (ev_isN (ev_some nn_op (ev_var rfl))) rfl)) (fun hc => nomatch hc) (fun _ => (ev_var rfl))))) hr7 h rfl (snocC snoc1) (by decide +kernel) (by decide) T.cl_Store T.na_Store__shelves (fun self8 h => ?_) (fun e9 h => ?_))
      · show Nx _ _ [.cel p (cIns a.C_Store [("tables" : Str), ("names" : Str), ("_shelves" : Str)] (wC (rOb (cTpl (r_Table P w a))) (wC (rOb (cTX rStr)) (w1 (rDicF P w kyStr (r_Shelf P w a)))))) (self2, names6, self8), .imm (rOb (cLst (r_Table P w a))) tables0, .imm (rDicF P w kyStr (rOb (cLst (rOb (cTpl rInt))))) rows0, .no]
        obtain rfl := Option.some.inj h
        exact nx_next (fun σ H B F => kr _ rfl _ _ F.post (cel_at (i := 0) F rfl).2)
      · refine nxe_sum h (fun e10 h => ?_) (fun e11 h => ?_)
        · obtain rfl := Option.some.inj h
          exact nxe_out (ke _ rfl)
        · refine nxe_sum h (fun e12 h => ?_) (fun e13 h => ?_)
          · obtain rfl := Option.some.inj h
            exact nxe_out (ke _ rfl)
          · obtain rfl := Option.some.inj h
            exact nxe_out (ke _ rfl)
    · obtain rfl := Option.some.inj h
      exact nxe_out (ke _ rfl)
theorem ok_Store___init___Vt (T : Txt K mg a) : FnOk P w K mg base (L2N.CX P w) 7 a.f_Store___init a.d_Store___init ["self", "tables", "rows"] (SpI (erS (erC a.C_DuplicateTable [("name" : Str)] (w1 rStr)) (erS (erC a.C_NoTable [("name" : Str)] (w1 rStr)) (erS (erC a.C_InvalidRow [("name" : Str), ("row" : Str)] (wC rStr (w1 (rOb (cTpl rInt))))) (erC a.C_DuplicateKey [("name" : Str), ("key" : Str)] (wC rStr (w1 (rOb (cTpl rInt)))))))) a.C_Store (wC (rOb (cTpl (r_Table P w a))) (w1 (rDicF P w kyStr (rOb (cLst (rOb (cTpl rInt))))))) (cIns a.C_Store [("tables" : Str), ("names" : Str), ("_shelves" : Str)] (wC (rOb (cTpl (r_Table P w a))) (wC (rOb (cTX rStr)) (w1 (rDicF P w kyStr (r_Shelf P w a)))))) (fun x => m_Store___init___Vt x.1 x.2)) := by
  refine FunD.ok (CX := L2N.CX P w) T.F_Store___init sc_Store___init (fun vs H Q E h => ?_) (fun cdv A outer s H vs Q E hr h => ?_)
  · obtain ⟨p, dx, vs', B, x, b, rfl, hp, hB, z, sm, hw, h, kr, ke⟩ := h
    show vs'.length + 1 = _; rw [WLen.len hw]; rfl
  · obtain ⟨p, dx, vs', B, ⟨tables0, rows0⟩, b, rfl, hp, hB, z, sm, hw, h, kr, ke⟩ := h
    have h : m_Store___init___Vt tables0 rows0 = some b := h
    refine ⟨_, (pss_cons (ps_fld (pv 0) (pe_callS (ok_sorted_tables_Vt (P := P) (w := w) (base := base) T) (hr.mono (Nat.le_of_ble_eq_true rfl)) rfl T.g_sorted_tables T.F_sorted_tables.kp T.n_sorted_tables (fun σ => L2N.passAt (L2N.takes_of rfl rfl rfl rfl) σ) (pa_cons (pv 1) pa_nil)) rfl) (pss_cons (ps_fld (pv 0) (pe_callTy (tupXK (K := K) rfl) (by rfl) T.b_tuple (by decide +kernel) (pa_cons (pe_lc (own := [("table", 3)]) rfl sc_Store___init.nd (pi_tup (fldK (K := K) rfl (pv 0) rfl)) (blkOk_by (N := N_Store___init) (sc := defScope s_Store___init) (by decide +kernel)) (fun _ _ _ _ _ => (pg_name (i := 3) sc_Store___init.nd rfl (by first | exact Or.inl rfl | exact Or.inr rfl))) (fun _ _ _ _ _ => pts_nil) (fun _ _ _ _ _ => (fldK (K := K) rfl (pv 3) rfl))) pa_nil)) rfl) (pss_cons (ps_fld (pv 0) (pe_callS (ok_filled_shelves (P := P) (w := w) (base := base) T) (hr.mono (Nat.le_of_ble_eq_true rfl)) rfl T.g_filled_shelves T.F_filled_shelves.kp T.n_filled_shelves (fun σ => L2N.passAt (L2N.takes_of rfl rfl rfl rfl) σ) (pa_cons (fldK (K := K) rfl (pv 0) rfl) (pa_cons (pe_ifExp (pt_cmp (pc_isN (pv 2))) (dnewFK (P := P) (w := w) rfl rfl) (pv 2)) pa_nil))) rfl) pss_nil))), ?_⟩
    refine nx_go (frm_startS (cc := cIns a.C_Store [] w0) (st := ()) (o := .ins a.C_Store dx []) (N := N_Store___init) (n := 1) z sm hB hp ⟨dx, [], rfl, rfl, rfl⟩ hw (by rw [WLen.len hw]; rfl)) ?_
    show Nx _ _ [.cel p (cIns a.C_Store [] w0) (), .imm (rOb (cTpl (r_Table P w a))) tables0, .imm (rDicF P w kyStr (rOb (cLst (rOb (cTpl rInt))))) rows0, .no]
    unfold m_Store___init___Vt at h
    obtain ⟨r1, hr1, h⟩ := bindO_some h
    refine (xfCall (i := 0) (ew_1 (ev_var rfl)) hr1 h rfl snoc0 (by decide +kernel) (by decide) T.cl_Store T.na_Store_tables (fun self2 h => ?_) (fun e3 h => ?_))
    · show Nx _ _ [.cel p (cIns a.C_Store [("tables" : Str)] (w1 (rOb (cTpl (r_Table P w a))))) self2, .imm (rOb (cTpl (r_Table P w a))) tables0, .imm (rDicF P w kyStr (rOb (cLst (rOb (cTpl rInt))))) rows0, .no]
      obtain ⟨l5, hl5, h⟩ := bindO_some h
      obtain ⟨names6, hnames6, h⟩ := letO_some h
      refine (sq_fld (i := 0) (ev_to (ev_new (ec_tupX (ev_new (ec_lc (m_Store___init___Vt_c1) (it_tpl (ev_celFld rfl (acc1) rfl (by decide +kernel) T.cl_Store T.na_Store_tables)) hl5 tg_name (fun k hk => hk) (by rfl) (fun _ => by rfl) (fun table4 o ho => by unfold m_Store___init___Vt_c1 at ho; cases ho; exact ⟨et_yes, fun y hy => by cases hy; exact ev_to (ev_fld (ev_var rfl) (acc0) rfl (by decide +kernel) T.cl_Table T.na_Table_name) rfl⟩))))) hnames6.symm) rfl snoc1 (by decide +kernel) (by decide) T.cl_Store T.na_Store_names ?_)
      show Nx _ _ [.cel p (cIns a.C_Store [("tables" : Str), ("names" : Str)] (wC (rOb (cTpl (r_Table P w a))) (w1 (rOb (cTX rStr))))) (self2, names6), .imm (rOb (cTpl (r_Table P w a))) tables0, .imm (rDicF P w kyStr (rOb (cLst (rOb (cTpl rInt))))) rows0, .no]
      obtain ⟨r7, hr7, h⟩ := bindO_some h
      refine (xfCall (i := 0) (ew_C (ev_celFld rfl (acc0) rfl (by decide +kernel) T.cl_Store T.na_Store_tables) (ew_1 (ev_if (et_B (ev_to (ev_isN (ev_some nn_op (ev_var rfl))) rfl)) (fun hc => nomatch hc) (fun _ => (ev_var rfl))))) hr7 h rfl (snocC snoc1) (by decide +kernel) (by decide) T.cl_Store T.na_Store__shelves (fun self8 h => ?_) (fun e9 h => ?_))
      · show Nx _ _ [.cel p (cIns a.C_Store [("tables" : Str), ("names" : Str), ("_shelves" : Str)] (wC (rOb (cTpl (r_Table P w a))) (wC (rOb (cTX rStr)) (w1 (rDicF P w kyStr (r_Shelf P w a)))))) (self2, names6, self8), .imm (rOb (cTpl (r_Table P w a))) tables0, .imm (rDicF P w kyStr (rOb (cLst (rOb (cTpl rInt))))) rows0, .no]
        obtain rfl := Option.some.inj h
        exact nx_next (fun σ H B F => kr _ rfl _ _ F.post (cel_at (i := 0) F rfl).2)
      · refine nxe_sum h (fun e10 h => ?_) (fun e11 h => ?_)
        · obtain rfl := Option.some.inj h
          exact nxe_out (ke _ rfl)
        · refine nxe_sum h (fun e12 h => ?_) (fun e13 h => ?_)
          · obtain rfl := Option.some.inj h
            exact nxe_out (ke _ rfl)
          · obtain rfl := Option.some.inj h
            exact nxe_out (ke _ rfl)
    · obtain rfl := Option.some.inj h
      exact nxe_out (ke _ rfl)
theorem ok_l_start (T : Txt K mg a) : FnOk P w K mg base CX0 1 a.f_l_start a.d_l_start ["_law_script"] (SpC (w1 (rScr K)) (cHls (wC (rOb (cLst rInt)) (wC rInt (wC rInt (w1 rInt))))) (fun x => m_l_start x)) := by
  refine T.F_l_start.ok sc_l_start (fun vs H Q E h => ?_) (fun cdv A outer s H vs Q E hr h => ?_)
  · obtain ⟨B, x, b, z, sm, hw, h, kr⟩ := h
    rw [WLen.len hw]; rfl
  · obtain ⟨B, script0, b, z, sm, hw, h, kr⟩ := h
    have h : m_l_start script0 = some b := h
    have kr : RtC (amb0 B H) (cHls (wC (rOb (cLst rInt)) (wC rInt (wC rInt (w1 rInt))))) b Q := kr
    refine ⟨_, (pss_cons (ps_set (i := 1) sc_l_start.nd rfl (by first | exact Or.inl rfl | exact Or.inr rfl) pe_int) (Evl.pss_cut (ps_if (pt_cmpR op_gt (pe_callB (len_seqK (K := K) rfl) (by rfl) T.b_len (by decide +kernel) (pa_cons (pv 0) pa_nil)) pe_int (nomark _)) (pss_cons (ps_set (i := 1) sc_l_start.nd rfl (by first | exact Or.inl rfl | exact Or.inr rfl) (pe_ix (ix_listK (K := K) rfl) (pv 0) pe_int (fun _ _ => rfl))) pss_nil) pss_nil) (pss_cons (ps_ret (pe_lst (pa_cons (pe_callTy (list_ofK (K := K) rfl) (by rfl) T.b_list (by decide +kernel) (pa_cons (pv 0) pa_nil)) (pa_cons pe_int (pa_cons (pv 1) (pa_cons pe_int pa_nil)))))) pss_nil))), ?_⟩
    refine nx_go (frm_start (N := N_l_start) (n := 1) z sm hw (by rw [WLen.len hw]; rfl)) ?_
    show Nx _ _ [.imm (rScr K) script0, .no]
    unfold m_l_start at h
    obtain ⟨first1, hfirst1, h⟩ := letO_some h
    refine (sq_asg (ev_to ev_int hfirst1.symm) ?_)
    show Nx _ _ [.imm (rScr K) script0, .imm rInt first1]
    obtain ⟨c2, hc2, h⟩ := letO_some h
    obtain ⟨j3, hj3, h2⟩ := bindO_some h
    have h := hj3
    refine nx_cut [.imm (rScr K) script0, .imm rInt j3] (nx_if (et_to (et_T (ev_gt (ev_lenC (ev_var rfl)) ev_int)) hc2.symm) (fun hc => ?_) (fun hc => ?_)) ?_
    · clear h2 hj3
      have h := iteO_t hc h
      obtain ⟨y4, hy4, h⟩ := bindO_some h
      obtain ⟨first5, hfirst5, h⟩ := letO_some h
      refine (sq_asg (ev_to (ev_ixC (ev_var rfl) ev_int hy4) hfirst5.symm) ?_)
      show Nx _ _ [.imm (rScr K) script0, .imm rInt first5]
      obtain rfl := Option.some.inj h
      exact nx_fin
    · clear h2 hj3
      have h := iteO_f hc h
      obtain rfl := Option.some.inj h
      exact nx_fin
    · clear h
      have h := h2
      obtain ⟨l6, hl6, h⟩ := bindO_some h
      exact (sq_retC (ec_hls (ew_C (ev_new (ec_listC (ev_var rfl) hl6)) (ew_C ev_int (ew_C (ev_var rfl) (ew_1 ev_int))))) h kr)
theorem ok_l_draw (T : Txt K mg a) : FnOk P w K mg base CX0 1 a.f_l_draw a.d_l_draw ["_law_state", "_law_many"] (SpS (cHls (wC (rOb (cLst rInt)) (wC rInt (wC rInt (w1 rInt))))) (w1 rInt) rInt (fun st x => m_l_draw st x)) := by
  refine T.F_l_draw.ok sc_l_draw (fun vs H Q E h => ?_) (fun cdv A outer s H vs Q E hr h => ?_)
  · obtain ⟨p, vs', B, o, st, x, b, rfl, z, sm, hB, hp, ko, hw, h, kr⟩ := h
    show vs'.length + 1 = _; rw [WLen.len hw]; rfl
  · obtain ⟨p, vs', B, o, st0, many0, b, rfl, z, sm, hB, hp, ko, hw, h, kr⟩ := h
    have h : m_l_draw st0 many0 = some b := h
    refine ⟨_, (pss_cons (ps_if (pt_cmpR op_ge (pe_ix (ix_listK (K := K) rfl) (pv 0) pe_int (fun _ _ => rfl)) (pe_op op_pow pe_int pe_int) (nomark _)) (pss_cons (ps_set (i := 2) sc_l_draw.nd rfl (by first | exact Or.inl rfl | exact Or.inr rfl) (pe_op op_mod (pe_callTy call_int1 (by rfl) T.b_int (by decide +kernel) (pa_cons (pe_ix (ix_listK (K := K) rfl) (pv 0) pe_int (fun _ _ => rfl)) pa_nil)) (pv 1))) (pss_cons (ps_asg (pe_op op_fdivW (pe_ix (ix_listK (K := K) rfl) (pv 0) pe_int (fun _ _ => rfl)) (pv 1)) (pg_sub (pv 0) pe_int set_list)) (pss_cons (ps_ret (pv 2)) pss_nil))) pss_nil) (pss_cons (ps_asg (pe_op op_add (pe_ix (ix_listK (K := K) rfl) (pv 0) pe_int (fun _ _ => rfl)) pe_int) (pg_sub (pv 0) pe_int set_list)) (pss_cons (ps_set (i := 3) sc_l_draw.nd rfl (by first | exact Or.inl rfl | exact Or.inr rfl) (pe_op op_add (pe_op op_add (pe_op op_mod (pe_callTy call_int1 (by rfl) T.b_int (by decide +kernel) (pa_cons (pe_ix (ix_listK (K := K) rfl) (pv 0) pe_int (fun _ _ => rfl)) pa_nil)) pe_int) (pe_op op_mul pe_int (pe_ix (ix_listK (K := K) rfl) (pv 0) pe_int (fun _ _ => rfl)))) pe_int)) (pss_cons (ps_set (i := 4) sc_l_draw.nd rfl (by first | exact Or.inl rfl | exact Or.inr rfl) (pe_op op_mod (pe_op op_pow (pv 3) pe_int) pe_int)) (Evl.pss_cut (ps_if (pt_cmpR op_lt (pe_ix (ix_listK (K := K) rfl) (pv 0) pe_int (fun _ _ => rfl)) (pe_callB (len_seqK (K := K) rfl) (by rfl) T.b_len (by decide +kernel) (pa_cons (pe_ix (ix_listK (K := K) rfl) (pv 0) pe_int (fun _ _ => rfl)) pa_nil)) (nomark _)) (pss_cons (ps_asg (pe_ix (ix_listK (K := K) rfl) (pe_ix (ix_listK (K := K) rfl) (pv 0) pe_int (fun _ _ => rfl)) (pe_ix (ix_listK (K := K) rfl) (pv 0) pe_int (fun _ _ => rfl)) (fun _ _ => rfl)) (pg_sub (pv 0) pe_int set_list)) (pss_cons (ps_asg (pe_op op_add (pe_ix (ix_listK (K := K) rfl) (pv 0) pe_int (fun _ _ => rfl)) pe_int) (pg_sub (pv 0) pe_int set_list)) pss_nil)) pss_nil) (pss_cons (ps_ret (pe_op op_mod (pe_op op_fdivW (pe_callTy call_int1 (by rfl) T.b_int (by decide +kernel) (pa_cons (pv 4) pa_nil)) pe_int) (pv 1))) pss_nil)))))), ?_⟩
    refine nx_go (frm_startS (N := N_l_draw) (n := 3) z sm hB hp ko hw (by rw [WLen.len hw]; rfl)) ?_
    show Nx _ _ [.cel p (cHls (wC (rOb (cLst rInt)) (wC rInt (wC rInt (w1 rInt))))) st0, .imm rInt many0, .no, .no, .no]
    unfold m_l_draw at h
    obtain ⟨c1, hc1, h⟩ := letO_some h
    refine (sq_if (et_to (et_T (ev_ge (ev_celR (k := 2) rfl (accS (accS (acc0)))) (ev_pow ev_int ev_int (by unfold CPow; decide)))) hc1.symm) (fun hc => ?_) (fun hc => ?_))
    · have h := iteO_t hc h
      obtain ⟨r2, hr2, h⟩ := bindO_some h
      obtain ⟨drawn3, hdrawn3, h⟩ := letO_some h
      refine (sq_asg (ev_to (ev_modP (ev_int1 (ev_celR (k := 2) rfl (accS (accS (acc0))))) (ev_var rfl) hr2) hdrawn3.symm) ?_)
      show Nx _ _ [.cel p (cHls (wC (rOb (cLst rInt)) (wC rInt (wC rInt (w1 rInt))))) st0, .imm rInt many0, .imm rInt drawn3, .no, .no]
      obtain ⟨q4, hq4, h⟩ := bindO_some h
      obtain ⟨z5, hz5, h⟩ := letO_some h
      refine (sq_setR (k := 2) (ev_divP (ev_celR (k := 2) rfl (accS (accS (acc0)))) (ev_var rfl) hq4) rfl (updS (updS (upd0))) (nx_cel (i := 0) rfl hz5.symm ?_))
      show Nx _ _ [.cel p (cHls (wC (rOb (cLst rInt)) (wC rInt (wC rInt (w1 rInt))))) z5, .imm rInt many0, .imm rInt drawn3, .no, .no]
      exact (sq_retS (i := 0) (ev_var rfl) rfl h kr)
    · have h := iteO_f hc h
      refine nx_next ?_
      try dsimp only
      obtain ⟨z6, hz6, h⟩ := letO_some h
      refine (sq_setR (k := 3) (ev_add (ev_celR (k := 3) rfl (accS (accS (accS (acc1))))) ev_int) rfl (updS (updS (updS (upd1)))) (nx_cel (i := 0) rfl hz6.symm ?_))
      show Nx _ _ [.cel p (cHls (wC (rOb (cLst rInt)) (wC rInt (wC rInt (w1 rInt))))) z6, .imm rInt many0, .no, .no, .no]
      obtain ⟨seed7, hseed7, h⟩ := letO_some h
      refine (sq_asg (ev_to (ev_add (ev_add (ev_mod (ev_int1 (ev_celR (k := 2) rfl (accS (accS (acc0))))) ev_int (by decide)) (ev_mul ev_int (ev_celR (k := 3) rfl (accS (accS (accS (acc1))))) (.inl (by decide)))) ev_int) hseed7.symm) ?_)
      show Nx _ _ [.cel p (cHls (wC (rOb (cLst rInt)) (wC rInt (wC rInt (w1 rInt))))) z6, .imm rInt many0, .no, .imm rInt seed7, .no]
      obtain ⟨w8, hw8, h⟩ := bindO_some h
      obtain ⟨mixed9, hmixed9, h⟩ := letO_some h
      refine (sq_asg (ev_to (ev_mod (ev_powP (ev_var rfl) ev_int hw8) ev_int (by decide)) hmixed9.symm) ?_)
      show Nx _ _ [.cel p (cHls (wC (rOb (cLst rInt)) (wC rInt (wC rInt (w1 rInt))))) z6, .imm rInt many0, .no, .imm rInt seed7, .imm rInt mixed9]
      obtain ⟨c10, hc10, h⟩ := letO_some h
      obtain ⟨j11, hj11, h2⟩ := bindO_some h
      have h := hj11
      refine nx_cut [.cel p (cHls (wC (rOb (cLst rInt)) (wC rInt (wC rInt (w1 rInt))))) j11, .imm rInt many0, .no, .imm rInt seed7, .imm rInt mixed9] (nx_if (et_to (et_T (ev_lt (ev_celR (k := 1) rfl (accS (acc0))) (ev_lenL (ev_celR (k := 0) rfl (acc0))))) hc10.symm) (fun hc => ?_) (fun hc => ?_)) ?_
      · clear h2 hj11
        have h := iteO_t hc h
        obtain ⟨y12, hy12, h⟩ := bindO_some h
        obtain ⟨z13, hz13, h⟩ := letO_some h
        refine (sq_setR (k := 2) (ev_ixL (ev_celR (k := 0) rfl (acc0)) (ev_celR (k := 1) rfl (accS (acc0))) hy12) rfl (updS (updS (upd0))) (nx_cel (i := 0) rfl hz13.symm ?_))
        show Nx _ _ [.cel p (cHls (wC (rOb (cLst rInt)) (wC rInt (wC rInt (w1 rInt))))) z13, .imm rInt many0, .no, .imm rInt seed7, .imm rInt mixed9]
        obtain ⟨z14, hz14, h⟩ := letO_some h
        refine (sq_setR (k := 1) (ev_add (ev_celR (k := 1) rfl (accS (acc0))) ev_int) rfl (updS (upd0)) (nx_cel (i := 0) rfl hz14.symm ?_))
        show Nx _ _ [.cel p (cHls (wC (rOb (cLst rInt)) (wC rInt (wC rInt (w1 rInt))))) z14, .imm rInt many0, .no, .imm rInt seed7, .imm rInt mixed9]
        obtain rfl := Option.some.inj h
        exact nx_fin
      · clear h2 hj11
        have h := iteO_f hc h
        obtain rfl := Option.some.inj h
        exact nx_fin
      · clear h
        have h := h2
        obtain ⟨r15, hr15, h⟩ := bindO_some h
        exact (sq_retS (i := 0) (ev_modP (ev_divW (ev_int1 (ev_var rfl)) ev_int (by unfold CDivW; decide)) (ev_var rfl) hr15) rfl h kr)
theorem ok_l_tables (T : Txt K mg a) : FnOk P w K mg base CX0 5 a.f_l_tables a.d_l_tables ["_law_state"] (SpM (mwK (cHls (wC (rOb (cLst rInt)) (wC rInt (wC rInt (w1 rInt))))) mwN) (tK (cLst (r_Table P w a))) (fun g x => m_l_tables g.1)) := by
  refine T.F_l_tables.ok sc_l_tables (fun vs H Q E h => ?_) (fun cdv A outer s H vs Q E hr h => ?_)
  · obtain ⟨B, o, g, x, b, z, sm, ho, hw, hi, h, kr⟩ := h
    exact Mw.olen _ hw
  · obtain ⟨B, o, g, x, b, z, sm, ho, hw, hi, h, kr⟩ := h
    obtain ⟨state0, gu⟩ := g
    obtain ⟨xu⟩ := x
    obtain ⟨p_0, t_0, u_0, rfl, o_0, hp_0, k_0, hw⟩ := hw
    obtain ⟨_, _, e_0, hi⟩ := hi; cases e_0
    cases (show _ = ([] : List V) from hw)
    have h : m_l_tables state0 = some b := h
    refine ⟨_, (pss_cons (ps_set (i := 1) sc_l_tables.nd rfl (by first | exact Or.inl rfl | exact Or.inr rfl) (pe_lst (pa_cons (makeNK (P := P) (w := w) (K := K) (mg := mg) (base := base) rfl rfl rfl rfl rfl T.M_Table (ok_Table___init (P := P) (w := w) (base := base) T) (hr.mono (Nat.le_of_ble_eq_true rfl)) (by rfl) T.g_Table T.n_Table___init .nil pass0 (pa_cons pe_str (pa_cons (pe_lst (pa_cons pe_str (pa_cons pe_str (pa_cons pe_str pa_nil)))) (pa_cons (pe_lst (pa_cons pe_str (pa_cons pe_str pa_nil))) pa_nil)))) (pa_cons (makeNK (P := P) (w := w) (K := K) (mg := mg) (base := base) rfl rfl rfl rfl rfl T.M_Table (ok_Table___init (P := P) (w := w) (base := base) T) (hr.mono (Nat.le_of_ble_eq_true rfl)) (by rfl) T.g_Table T.n_Table___init .nil pass0 (pa_cons pe_str (pa_cons (pe_lst (pa_cons pe_str (pa_cons pe_str pa_nil))) (pa_cons (pe_lst (pa_cons pe_str pa_nil)) pa_nil)))) pa_nil)))) (pss_cons (ps_set (i := 1) sc_l_tables.nd rfl (by first | exact Or.inl rfl | exact Or.inr rfl) (pe_op op_cat (pv 1) (pe_lst (pa_cons (makeNK (P := P) (w := w) (K := K) (mg := mg) (base := base) rfl rfl rfl rfl rfl T.M_Table (ok_Table___init (P := P) (w := w) (base := base) T) (hr.mono (Nat.le_of_ble_eq_true rfl)) (by rfl) T.g_Table T.n_Table___init .nil pass0 (pa_cons pe_str (pa_cons (pe_lst (pa_cons pe_str pa_nil)) (pa_cons (pe_lst (pa_cons pe_str pa_nil)) pa_nil)))) (pa_cons (makeNK (P := P) (w := w) (K := K) (mg := mg) (base := base) rfl rfl rfl rfl rfl T.M_Table (ok_Table___init (P := P) (w := w) (base := base) T) (hr.mono (Nat.le_of_ble_eq_true rfl)) (by rfl) T.g_Table T.n_Table___init .nil pass0 (pa_cons pe_str (pa_cons (pe_lst (pa_cons pe_str (pa_cons pe_str pa_nil))) (pa_cons (pe_lst (pa_cons pe_str pa_nil)) pa_nil)))) pa_nil))))) (pss_cons (ps_set (i := 2) sc_l_tables.nd rfl (by first | exact Or.inl rfl | exact Or.inr rfl) (pe_lst pa_nil)) (pss_cons (ps_for PassesOwn.never rfl (pi_range1 rfl T.b_range (pa_cons (pe_op op_add pe_int (pe_call (ok_l_draw (P := P) (w := w) (base := base) T) (hr.mono (Nat.le_of_ble_eq_true rfl)) rfl T.g_l_draw T.F_l_draw.kp T.n_l_draw .nil pass0 (pa_cons (pv 0) (pa_cons pe_int pa_nil)))) pa_nil)) (pg_name (i := 3) sc_l_tables.nd rfl (by first | exact Or.inl rfl | exact Or.inr rfl)) (pss_cons (ps_expr (pe_bm PySem.F.plainAttrs_list PySem.F.slot_list_append PySem.F.type_list_append mt_append (pv 2) (pa_cons (pe_bm PySem.F.plainAttrs_list PySem.F.slot_list_pop PySem.F.type_list_pop mt_popAt (pv 1) (pa_cons (pe_call (ok_l_draw (P := P) (w := w) (base := base) T) (hr.mono (Nat.le_of_ble_eq_true rfl)) rfl T.g_l_draw T.F_l_draw.kp T.n_l_draw .nil pass0 (pa_cons (pv 0) (pa_cons (pe_callB (len_seqK (K := K) rfl) (by rfl) T.b_len (by decide +kernel) (pa_cons (pv 1) pa_nil)) pa_nil))) pa_nil)) pa_nil))) pss_nil)) (pss_cons (ps_ret (pv 2)) pss_nil))))), ?_⟩
    refine nx_go (frm_startM (N := N_l_tables) (n := 3) (st_K o_0 hp_0 k_0 st_N) z sm ho rfl) ?_
    show Nx _ _ [.cel p_0 (cHls (wC (rOb (cLst rInt)) (wC rInt (wC rInt (w1 rInt))))) state0, .no, .no, .no]
    unfold m_l_tables at h
    obtain ⟨o1, ho1, h⟩ := bindO_some h
    obtain ⟨o2, ho2, h⟩ := bindO_some h
    obtain ⟨some3, hsome3, h⟩ := letO_some h
    refine (sq_asgC (c := (cLst (r_Table P w a))) (ec_to (ec_lst (eh_C (ev_make (ew_C ev_str (ew_C (ev_new (ec_lst (eh_C ev_str (eh_C ev_str (eh_C ev_str eh_0))) (Nat.le_of_ble_eq_true rfl))) (ew_1 (ev_new (ec_lst (eh_C ev_str (eh_C ev_str eh_0)) (Nat.le_of_ble_eq_true rfl)))))) ho1) (eh_C (ev_make (ew_C ev_str (ew_C (ev_new (ec_lst (eh_C ev_str (eh_C ev_str eh_0)) (Nat.le_of_ble_eq_true rfl))) (ew_1 (ev_new (ec_lst (eh_C ev_str eh_0) (Nat.le_of_ble_eq_true rfl)))))) ho2) eh_0)) (Nat.le_of_ble_eq_true rfl)) hsome3.symm) (fun a_some3 na_some3 => ?_))
    show Nx _ _ [.cel p_0 (cHls (wC (rOb (cLst rInt)) (wC rInt (wC rInt (w1 rInt))))) state0, .cel a_some3 (cLst (r_Table P w a)) some3, .no, .no]
    obtain ⟨o4, ho4, h⟩ := bindO_some h
    obtain ⟨o5, ho5, h⟩ := bindO_some h
    obtain ⟨l6, hl6, h⟩ := bindO_some h
    obtain ⟨some7, hsome7, h⟩ := letO_some h
    refine (sq_asgC (c := (cLst (r_Table P w a))) (ec_to (ec_frz (i := 1) rfl (ec_cat (ev_var rfl) (ev_new (ec_lst (eh_C (ev_make (ew_C ev_str (ew_C (ev_new (ec_lst (eh_C ev_str eh_0) (Nat.le_of_ble_eq_true rfl))) (ew_1 (ev_new (ec_lst (eh_C ev_str eh_0) (Nat.le_of_ble_eq_true rfl)))))) ho4) (eh_C (ev_make (ew_C ev_str (ew_C (ev_new (ec_lst (eh_C ev_str (eh_C ev_str eh_0)) (Nat.le_of_ble_eq_true rfl))) (ew_1 (ev_new (ec_lst (eh_C ev_str eh_0) (Nat.le_of_ble_eq_true rfl)))))) ho5) eh_0)) (Nat.le_of_ble_eq_true rfl))) hl6)) hsome7.symm) (fun a_some7 na_some7 => ?_))
    show Nx _ _ [.cel p_0 (cHls (wC (rOb (cLst rInt)) (wC rInt (wC rInt (w1 rInt))))) state0, .cel a_some7 (cLst (r_Table P w a)) some7, .no, .no]
    obtain ⟨found8, hfound8, h⟩ := letO_some h
    refine (sq_asgC (c := (cLst (r_Table P w a))) (ec_to (ec_lst (eh_0 (r := (r_Table P w a))) (Nat.le_of_ble_eq_true rfl)) hfound8.symm) (fun a_found8 na_found8 => ?_))
    show Nx _ _ [.cel p_0 (cHls (wC (rOb (cLst rInt)) (wC rInt (wC rInt (w1 rInt))))) state0, .cel a_some7 (cLst (r_Table P w a)) some7, .cel a_found8 (cLst (r_Table P w a)) found8, .no]
    obtain ⟨p9, hp9, h⟩ := bindO_some h
    obtain ⟨l10, hl10, h⟩ := bindO_some h
    obtain ⟨R16, hR16, h⟩ := bindO_some h
    refine (sq_for (ψ := psiM H o (mwK (cHls (wC (rOb (cLst rInt)) (wC rInt (wC rInt (w1 rInt))))) mwN) [V.ref p_0] (tK (cLst (r_Table P w a)))) (m_l_tables_b1) (fun z => [.cel p_0 (cHls (wC (rOb (cLst rInt)) (wC rInt (wC rInt (w1 rInt))))) z.2.2, .cel a_some7 (cLst (r_Table P w a)) z.2.1, .cel a_found8 (cLst (r_Table P w a)) z.1, .no]) (it_rng1 (ew_1 (ev_add ev_int (ev_callS (ew_1 ev_int) rfl rfl hp9))) hl10) hR16 (fun A1 _ => ?_) (fun _ => tg_name) (fun A1 D1 k12 s11 st hA1 h k1 => ?_) ?_ ?_)
    · exact nx_fin
    · show Nx _ _ [.cel p_0 (cHls (wC (rOb (cLst rInt)) (wC rInt (wC rInt (w1 rInt))))) s11.2.2, .cel a_some7 (cLst (r_Table P w a)) s11.2.1, .cel a_found8 (cLst (r_Table P w a)) s11.1, .imm rInt k12]
      unfold m_l_tables_b1 at h
      obtain ⟨p13, hp13, h⟩ := bindO_some h
      obtain ⟨o14, ho14, h⟩ := bindO_some h
      obtain ⟨found15, hfound15, h⟩ := bindO_some h
      refine (sq_app (ev_popCel (ev_callS (ew_1 (ev_lenCel rfl)) rfl rfl hp13) rfl rfl ho14) rfl rfl hfound15 ?_)
      show Nx _ _ [.cel p_0 (cHls (wC (rOb (cLst rInt)) (wC rInt (wC rInt (w1 rInt))))) p13.2, .cel a_some7 (cLst (r_Table P w a)) o14.2, .cel a_found8 (cLst (r_Table P w a)) found15, .imm rInt k12]
      refine nx_next ?_
      refine nx_forget 3 ?_
      exact k1.nx _ (Option.some.inj h).symm
    · intro b e
      subst e
      obtain rfl := stepO_ret h; exact kr
    · intro e17 e
      subst e
      have h := stepO_nx h
      show Nx _ _ [.cel p_0 (cHls (wC (rOb (cLst rInt)) (wC rInt (wC rInt (w1 rInt))))) e17.2.2, .cel a_some7 (cLst (r_Table P w a)) e17.2.1, .cel a_found8 (cLst (r_Table P w a)) e17.1, .no]
      exact (sq_retMV (i := 2) ⟨rfl, rfl⟩ rfl na_found8 (by decide) ((oa_K rfl oa_N) : OwnAt _ 1 0 _ _ _) h kr)
theorem ok_l_key (T : Txt K mg a) : FnOk P w K mg base CX0 1 a.f_l_key a.d_l_key ["_law_name", "_law_row_here"] (SpP (wC rStr (w1 (rOb (cTpl rInt)))) (rOb (cTpl rInt)) (fun x => m_l_key x.1 x.2)) := by
  refine T.F_l_key.ok sc_l_key (fun vs H Q E h => ?_) (fun cdv A outer s H vs Q E hr h => ?_)
  · obtain ⟨B, x, b, z, sm, hw, h, kr⟩ := h
    rw [WLen.len hw]; rfl
  · obtain ⟨B, ⟨name0, row_here0⟩, b, z, sm, hw, h, kr⟩ := h
    have h : m_l_key name0 row_here0 = some b := h
    refine ⟨_, (pss_cons (ps_ret (fgetK (P := P) (w := w) rfl rfl (exFK (P := P) (w := w) rfl rfl (pe_disp (pps_cons pe_str (pe_slice (sl_tupAK (K := K) rfl) (pv 1) (po_some pe_int) po_none) (pps_cons pe_str (pe_slice (sl_tupAK (K := K) rfl) (pv 1) po_none (po_some pe_int)) (pps_cons pe_str (pv 1) (pps_cons pe_str (pe_slice (sl_tupAK (K := K) rfl) (pv 1) (po_some pe_int) po_none) pps_nil)))) rfl rfl (fun h => nomatch h) (by decide))) (pv 0) (fun _ _ => rfl))) pss_nil), ?_⟩
    refine nx_go (frm_start (N := N_l_key) (n := 0) z sm hw (by rw [WLen.len hw]; rfl)) ?_
    show Nx _ _ [.imm rStr name0, .imm (rOb (cTpl rInt)) row_here0]
    unfold m_l_key at h
    obtain ⟨y1, hy1, h⟩ := bindO_some h
    exact (sq_ret (ev_fget kyStr (ev_newD (ed_exF kyStr (ec_disp kyStr [(Str.ofString "stock"), (Str.ofString "people"), (Str.ofString "b"), (Str.ofString "b_2")] (ep_C ev_str (ev_slA (ev_var rfl) (eo_some ev_int) eo_none) (ep_C ev_str (ev_slA (ev_var rfl) eo_none (eo_some ev_int)) (ep_C ev_str (ev_var rfl) (ep_C ev_str (ev_slA (ev_var rfl) (eo_some ev_int) eo_none) ep_0)))) rfl (by decide +kernel) (Nat.le_of_ble_eq_true rfl)))) (ev_var rfl) hy1) h kr)
theorem ok_l_size (T : Txt K mg a) : FnOk P w K mg base CX0 1 a.f_l_size a.d_l_size ["_law_name"] (SpP (w1 rStr) rInt (fun x => m_l_size x)) := by
  refine T.F_l_size.ok sc_l_size (fun vs H Q E h => ?_) (fun cdv A outer s H vs Q E hr h => ?_)
  · obtain ⟨B, x, b, z, sm, hw, h, kr⟩ := h
    rw [WLen.len hw]; rfl
  · obtain ⟨B, name0, b, z, sm, hw, h, kr⟩ := h
    have h : m_l_size name0 = some b := h
    refine ⟨_, (pss_cons (ps_ret (fgetK (P := P) (w := w) rfl rfl (exFK (P := P) (w := w) rfl rfl (pe_disp (pps_cons pe_str pe_int (pps_cons pe_str pe_int (pps_cons pe_str pe_int (pps_cons pe_str pe_int pps_nil)))) rfl rfl (fun h => nomatch h) (by decide))) (pv 0) (fun _ _ => rfl))) pss_nil), ?_⟩
    refine nx_go (frm_start (N := N_l_size) (n := 0) z sm hw (by rw [WLen.len hw]; rfl)) ?_
    show Nx _ _ [.imm rStr name0]
    unfold m_l_size at h
    obtain ⟨y1, hy1, h⟩ := bindO_some h
    exact (sq_ret (ev_fget kyStr (ev_newD (ed_exF kyStr (ec_disp kyStr [(Str.ofString "stock"), (Str.ofString "people"), (Str.ofString "b"), (Str.ofString "b_2")] (ep_C ev_str ev_int (ep_C ev_str ev_int (ep_C ev_str ev_int (ep_C ev_str ev_int ep_0)))) rfl (by decide +kernel) (Nat.le_of_ble_eq_true rfl)))) (ev_var rfl) hy1) h kr)
theorem ok_l_row (T : Txt K mg a) : FnOk P w K mg base CX0 2 a.f_l_row a.d_l_row ["_law_state", "_law_name"] (SpM (mwK (cHls (wC (rOb (cLst rInt)) (wC rInt (wC rInt (w1 rInt))))) (mwI rStr mwN)) (tI (rOb (cTpl rInt))) (fun g x => m_l_row g.1 x.1)) := by
  refine T.F_l_row.ok sc_l_row (fun vs H Q E h => ?_) (fun cdv A outer s H vs Q E hr h => ?_)
  · obtain ⟨B, o, g, x, b, z, sm, ho, hw, hi, h, kr⟩ := h
    exact Mw.olen _ hw
  · obtain ⟨B, o, g, x, b, z, sm, ho, hw, hi, h, kr⟩ := h
    obtain ⟨state0, gu⟩ := g
    obtain ⟨name0, xu⟩ := x
    obtain ⟨p_0, t_0, u_0, rfl, o_0, hp_0, k_0, hw⟩ := hw
    obtain ⟨_, _, e_0, hi⟩ := hi; cases e_0
    obtain ⟨v_1, t_1, rfl, hw⟩ := hw
    obtain ⟨_, _, e_1, r_1, hi⟩ := hi; cases e_1
    cases (show _ = ([] : List V) from hw)
    have h : m_l_row state0 name0 = some b := h
    refine ⟨_, (pss_cons (ps_ret (pe_callTy (tuple_ofK (K := K) rfl) (by rfl) T.b_tuple (by decide +kernel) (pa_cons (pe_lc (own := [("_law_j", 2)]) rfl sc_l_row.nd (pi_range1 rfl T.b_range (pa_cons (pe_call (ok_l_size (P := P) (w := w) (base := base) T) (hr.mono (Nat.le_of_ble_eq_true rfl)) rfl T.g_l_size T.F_l_size.kp T.n_l_size .nil pass0 (pa_cons (pv 1) pa_nil)) pa_nil)) (blkOk_by (N := N_l_row) (sc := defScope s_l_row) (by decide +kernel)) (fun _ _ _ _ _ => (pg_name (i := 2) sc_l_row.nd rfl (by first | exact Or.inl rfl | exact Or.inr rfl))) (fun _ _ _ _ _ => pts_nil) (fun _ _ _ _ _ => (pe_ix (ix_listK (K := K) rfl) (pe_lst (pa_cons pe_int (pa_cons pe_int (pa_cons pe_int (pa_cons pe_int (pa_cons (pe_un un_neg pe_int) (pa_cons (pe_op op_pow pe_int pe_int) pa_nil))))))) (pe_call (ok_l_draw (P := P) (w := w) (base := base) T) (hr.mono (Nat.le_of_ble_eq_true rfl)) rfl T.g_l_draw T.F_l_draw.kp T.n_l_draw .nil pass0 (pa_cons (pv 0) (pa_cons pe_int pa_nil))) (fun _ _ => rfl)))) pa_nil))) pss_nil), ?_⟩
    refine nx_go (frm_startM (N := N_l_row) (n := 1) (st_K o_0 hp_0 k_0 (st_I r_1 st_N)) z sm ho rfl) ?_
    show Nx _ _ [.cel p_0 (cHls (wC (rOb (cLst rInt)) (wC rInt (wC rInt (w1 rInt))))) state0, .imm rStr name0, .no]
    unfold m_l_row at h
    obtain ⟨v1, hv1, h⟩ := bindO_some h
    obtain ⟨l2, hl2, h⟩ := bindO_some h
    obtain ⟨l7, hl7, h⟩ := bindO_some h
    exact (sq_retM ⟨rfl, rfl⟩ (ev_new (ec_tupL (ev_new (ec_lcS m_l_row_c1 (fun z => [.cel p_0 (cHls (wC (rOb (cLst rInt)) (wC rInt (wC rInt (w1 rInt))))) z, .imm rStr name0, .no]) (it_rng1 (ew_1 (ev_call (ew_1 (ev_var rfl)) hv1)) hl2) hl7 (fun A2 => nx_fin) (fun _ => rfl) (fun _ => tg_name) (fun k hk => hk) (fun _ _ => rfl) (fun j3 st4 o s2 ho => by unfold m_l_row_c1 at ho; obtain ⟨p5, hp5, ho⟩ := bindO_some ho; obtain ⟨y6, hy6, ho⟩ := bindO_some ho; obtain ⟨ho1, ho2⟩ := Prod.mk.inj (Option.some.inj ho); subst ho1; subst ho2; exact ⟨st4, et_yes, fun y hy => by cases hy; exact ev_to (ev_ixL (ev_new (ec_lst (eh_C ev_int (eh_C ev_int (eh_C ev_int (eh_C ev_int (eh_C (ev_neg ev_int) (eh_C (ev_pow ev_int ev_int (by unfold CPow; decide)) eh_0)))))) (Nat.le_of_ble_eq_true rfl))) (ev_callS (ew_1 ev_int) rfl rfl hp5) hy6) rfl, fun hn => by cases hn⟩))))) ((oa_K rfl (oa_I oa_N)) : OwnAt _ 2 0 _ _ _) h kr)
theorem ok_l_rows (T : Txt K mg a) : FnOk P w K mg base CX0 3 a.f_l_rows a.d_l_rows ["_law_state", "_law_name"] (SpM (mwK (cHls (wC (rOb (cLst rInt)) (wC rInt (wC rInt (w1 rInt))))) (mwI rStr mwN)) (tK (cLst (rOb (cTpl rInt)))) (fun g x => m_l_rows g.1 x.1)) := by
  refine T.F_l_rows.ok sc_l_rows (fun vs H Q E h => ?_) (fun cdv A outer s H vs Q E hr h => ?_)
  · obtain ⟨B, o, g, x, b, z, sm, ho, hw, hi, h, kr⟩ := h
    exact Mw.olen _ hw
  · obtain ⟨B, o, g, x, b, z, sm, ho, hw, hi, h, kr⟩ := h
    obtain ⟨state0, gu⟩ := g
    obtain ⟨name0, xu⟩ := x
    obtain ⟨p_0, t_0, u_0, rfl, o_0, hp_0, k_0, hw⟩ := hw
    obtain ⟨_, _, e_0, hi⟩ := hi; cases e_0
    obtain ⟨v_1, t_1, rfl, hw⟩ := hw
    obtain ⟨_, _, e_1, r_1, hi⟩ := hi; cases e_1
    cases (show _ = ([] : List V) from hw)
    have h : m_l_rows state0 name0 = some b := h
    refine ⟨_, (pss_cons (ps_set (i := 2) sc_l_rows.nd rfl (by first | exact Or.inl rfl | exact Or.inr rfl) (pe_lst pa_nil)) (pss_cons (ps_for PassesOwn.never rfl (pi_range1 rfl T.b_range (pa_cons (pe_call (ok_l_draw (P := P) (w := w) (base := base) T) (hr.mono (Nat.le_of_ble_eq_true rfl)) rfl T.g_l_draw T.F_l_draw.kp T.n_l_draw .nil pass0 (pa_cons (pv 0) (pa_cons pe_int pa_nil))) pa_nil)) (pg_name (i := 3) sc_l_rows.nd rfl (by first | exact Or.inl rfl | exact Or.inr rfl)) (pss_cons (ps_set (i := 4) sc_l_rows.nd rfl (by first | exact Or.inl rfl | exact Or.inr rfl) (pe_call (ok_l_row (P := P) (w := w) (base := base) T) (hr.mono (Nat.le_of_ble_eq_true rfl)) rfl T.g_l_row T.F_l_row.kp T.n_l_row .nil pass0 (pa_cons (pv 0) (pa_cons (pv 1) pa_nil)))) (pss_cons (ps_if (pt_cmpR (notInDK (K := K) rfl hr.units65) (pe_call (ok_l_key (P := P) (w := w) (base := base) T) (hr.mono (Nat.le_of_ble_eq_true rfl)) rfl T.g_l_key T.F_l_key.kp T.n_l_key .nil pass0 (pa_cons (pv 1) (pa_cons (pv 4) pa_nil))) (pe_lc (own := [("_law_other", 5)]) rfl sc_l_rows.nd (pi_listK (K := K) rfl (pv 2)) (blkOk_by (N := N_l_rows) (sc := defScope s_l_rows) (by decide +kernel)) (fun _ _ _ _ _ => (pg_name (i := 5) sc_l_rows.nd rfl (by first | exact Or.inl rfl | exact Or.inr rfl))) (fun _ _ _ _ _ => pts_nil) (fun _ _ _ _ _ => (pe_call (ok_l_key (P := P) (w := w) (base := base) T) (hr.mono (Nat.le_of_ble_eq_true rfl)) rfl T.g_l_key T.F_l_key.kp T.n_l_key .nil pass0 (pa_cons (pv 1) (pa_cons (pv 5) pa_nil))))) rfl) (pss_cons (ps_expr (pe_bm PySem.F.plainAttrs_list PySem.F.slot_list_append PySem.F.type_list_append mt_append (pv 2) (pa_cons (pv 4) pa_nil))) pss_nil) pss_nil) pss_nil))) (pss_cons (ps_ret (pv 2)) pss_nil))), ?_⟩
    refine nx_go (frm_startM (N := N_l_rows) (n := 4) (st_K o_0 hp_0 k_0 (st_I r_1 st_N)) z sm ho rfl) ?_
    show Nx _ _ [.cel p_0 (cHls (wC (rOb (cLst rInt)) (wC rInt (wC rInt (w1 rInt))))) state0, .imm rStr name0, .no, .no, .no, .no]
    unfold m_l_rows at h
    obtain ⟨found1, hfound1, h⟩ := letO_some h
    refine (sq_asgC (c := (cLst (rOb (cTpl rInt)))) (ec_to (ec_lst (eh_0 (r := (rOb (cTpl rInt)))) (Nat.le_of_ble_eq_true rfl)) hfound1.symm) (fun a_found1 na_found1 => ?_))
    show Nx _ _ [.cel p_0 (cHls (wC (rOb (cLst rInt)) (wC rInt (wC rInt (w1 rInt))))) state0, .imm rStr name0, .cel a_found1 (cLst (rOb (cTpl rInt))) found1, .no, .no, .no]
    obtain ⟨p2, hp2, h⟩ := bindO_some h
    obtain ⟨l3, hl3, h⟩ := bindO_some h
    obtain ⟨R15, hR15, h⟩ := bindO_some h
    refine (sq_for (ψ := psiM H o (mwK (cHls (wC (rOb (cLst rInt)) (wC rInt (wC rInt (w1 rInt))))) (mwI rStr mwN)) [V.ref p_0, v_1] (tK (cLst (rOb (cTpl rInt))))) (m_l_rows_b1 name0) (fun z => [.cel p_0 (cHls (wC (rOb (cLst rInt)) (wC rInt (wC rInt (w1 rInt))))) z.1, .imm rStr name0, .cel a_found1 (cLst (rOb (cTpl rInt))) z.2, .no, .no, .no]) (it_rng1 (ew_1 (ev_callS (ew_1 ev_int) rfl rfl hp2)) hl3) hR15 (fun A1 _ => ?_) (fun _ => tg_name) (fun A1 D1 k5 s4 st hA1 h k1 => ?_) ?_ ?_)
    · exact nx_fin
    · show Nx _ _ [.cel p_0 (cHls (wC (rOb (cLst rInt)) (wC rInt (wC rInt (w1 rInt))))) s4.1, .imm rStr name0, .cel a_found1 (cLst (rOb (cTpl rInt))) s4.2, .imm rInt k5, .no, .no]
      unfold m_l_rows_b1 at h
      obtain ⟨p6, hp6, h⟩ := bindO_some h
      obtain ⟨row_here7, hrow_here7, h⟩ := letO_some h
      refine (sq_asg (ev_to (ev_callM (us := [(0, .cel p_0 (cHls (wC (rOb (cLst rInt)) (wC rInt (wC rInt (w1 rInt))))) p6.2.1)]) (ea_K (i := 0) rfl (ea_I (ev_var rfl) ea_0)) (co_K rfl (by decide) (co_I co_0)) (bo_K rfl rfl (by decide) (bo_I bo_0)) hp6) hrow_here7.symm) ?_)
      show Nx _ _ [.cel p_0 (cHls (wC (rOb (cLst rInt)) (wC rInt (wC rInt (w1 rInt))))) p6.2.1, .imm rStr name0, .cel a_found1 (cLst (rOb (cTpl rInt))) s4.2, .imm rInt k5, .imm (rOb (cTpl rInt)) row_here7, .no]
      obtain ⟨v8, hv8, h⟩ := bindO_some h
      obtain ⟨l11, hl11, h⟩ := bindO_some h
      obtain ⟨n12, hn12, h⟩ := bindO_some h
      obtain ⟨c13, hc13, h⟩ := letO_some h
      refine (sq_if (et_to (et_T (ev_ninD (da_tpl da_int) (da_tpl da_int) (ev_call (ew_C (ev_var rfl) (ew_1 (ev_var rfl))) hv8) (ev_new (ec_frz (i := 2) rfl (ec_lc (m_l_rows_c1 name0) (it_list (ev_var rfl)) hl11 tg_name (fun k hk => hk) (by rfl) (fun _ => by rfl) (fun other9 o ho => by unfold m_l_rows_c1 at ho; obtain ⟨v10, hv10, ho⟩ := bindO_some ho; cases ho; exact ⟨et_yes, fun y hy => by cases hy; exact ev_to (ev_call (ew_C (ev_var rfl) (ew_1 (ev_var rfl))) hv10) rfl⟩)))) hn12)) hc13.symm) (fun hc => ?_) (fun hc => ?_))
      · have h := iteO_t hc h
        obtain ⟨found14, hfound14, h⟩ := bindO_some h
        refine (sq_app (ev_var rfl) rfl rfl hfound14 ?_)
        show Nx _ _ [.cel p_0 (cHls (wC (rOb (cLst rInt)) (wC rInt (wC rInt (w1 rInt))))) p6.2.1, .imm rStr name0, .cel a_found1 (cLst (rOb (cTpl rInt))) found14, .imm rInt k5, .imm (rOb (cTpl rInt)) row_here7, .no]
        refine nx_next ?_
        refine nx_forget 3 ?_
        refine nx_forget 4 ?_
        exact k1.nx _ (Option.some.inj h).symm
      · have h := iteO_f hc h
        refine nx_next ?_
        refine nx_forget 3 ?_
        refine nx_forget 4 ?_
        exact k1.nx _ (Option.some.inj h).symm
    · intro b e
      subst e
      obtain rfl := stepO_ret h; exact kr
    · intro e16 e
      subst e
      have h := stepO_nx h
      show Nx _ _ [.cel p_0 (cHls (wC (rOb (cLst rInt)) (wC rInt (wC rInt (w1 rInt))))) e16.1, .imm rStr name0, .cel a_found1 (cLst (rOb (cTpl rInt))) e16.2, .no, .no, .no]
      exact (sq_retMV (i := 2) ⟨rfl, rfl⟩ rfl na_found1 (by decide) ((oa_K rfl (oa_I oa_N)) : OwnAt _ 2 0 _ _ _) h kr)
theorem ok_l_spoil (T : Txt K mg a) : FnOk P w K mg base CX0 5 a.f_l_spoil a.d_l_spoil ["_law_state", "_law_tables_here", "_law_handed"] (SpM (mwK (cHls (wC (rOb (cLst rInt)) (wC rInt (wC rInt (w1 rInt))))) (mwK (cLst (r_Table P w a)) (mwT (tDL P w kyStr (rOb (cTpl rInt))) mwN))) (tI rNon) (fun g x => m_l_spoil g.1 g.2.1 g.2.2.1)) := by
  refine T.F_l_spoil.ok sc_l_spoil (fun vs H Q E h => ?_) (fun cdv A outer s H vs Q E hr h => ?_)
  · obtain ⟨B, o, g, x, b, z, sm, ho, hw, hi, h, kr⟩ := h
    exact Mw.olen _ hw
  · obtain ⟨B, o, g, x, b, z, sm, ho, hw, hi, h, kr⟩ := h
    obtain ⟨state0, tables_here0, handed0, gu⟩ := g
    obtain ⟨xu⟩ := x
    obtain ⟨p_0, t_0, u_0, rfl, o_0, hp_0, k_0, hw⟩ := hw
    obtain ⟨_, _, e_0, hi⟩ := hi; cases e_0
    obtain ⟨p_1, t_1, u_1, rfl, o_1, hp_1, k_1, hw⟩ := hw
    obtain ⟨_, _, e_1, hi⟩ := hi; cases e_1
    obtain ⟨v_2, t_2, a_2, b_2, rfl, c_2, d_2, f_2, k_2, hw⟩ := hw
    obtain ⟨_, _, e_2, hi⟩ := hi; cases e_2
    obtain ⟨p_2, _, _, _, g_2, _⟩ := id k_2; cases g_2
    cases (show _ = ([] : List V) from hw)
    have h : m_l_spoil state0 tables_here0 handed0 = some b := h
    refine ⟨_, (pss_cons (ps_set (i := 3) sc_l_spoil.nd rfl (by first | exact Or.inl rfl | exact Or.inr rfl) (pe_call (ok_l_draw (P := P) (w := w) (base := base) T) (hr.mono (Nat.le_of_ble_eq_true rfl)) rfl T.g_l_draw T.F_l_draw.kp T.n_l_draw .nil pass0 (pa_cons (pv 0) (pa_cons pe_int pa_nil)))) (pss_cons (ps_set (i := 4) sc_l_spoil.nd rfl (by first | exact Or.inl rfl | exact Or.inr rfl) (pe_call (ok_l_draw (P := P) (w := w) (base := base) T) (hr.mono (Nat.le_of_ble_eq_true rfl)) rfl T.g_l_draw T.F_l_draw.kp T.n_l_draw .nil pass0 (pa_cons (pv 0) (pa_cons pe_int pa_nil)))) (pss_cons (ps_set (i := 5) sc_l_spoil.nd rfl (by first | exact Or.inl rfl | exact Or.inr rfl) (fldK (K := K) rfl (pe_ix (ix_listK (K := K) rfl) (pv 1) (pe_call (ok_l_draw (P := P) (w := w) (base := base) T) (hr.mono (Nat.le_of_ble_eq_true rfl)) rfl T.g_l_draw T.F_l_draw.kp T.n_l_draw .nil pass0 (pa_cons (pv 0) (pa_cons (pe_callB (len_seqK (K := K) rfl) (by rfl) T.b_len (by decide +kernel) (pa_cons (pv 1) pa_nil)) pa_nil))) (fun _ _ => rfl)) rfl)) (pss_cons (ps_set (i := 6) sc_l_spoil.nd rfl (by first | exact Or.inl rfl | exact Or.inr rfl) (fgetK (P := P) (w := w) rfl rfl (pv 2) (pv 5) (fun _ _ => rfl))) (pss_cons (ps_set (i := 7) sc_l_spoil.nd rfl (by first | exact Or.inl rfl | exact Or.inr rfl) (pe_call (ok_l_row (P := P) (w := w) (base := base) T) (hr.mono (Nat.le_of_ble_eq_true rfl)) rfl T.g_l_row T.F_l_row.kp T.n_l_row .nil pass0 (pa_cons (pv 0) (pa_cons (pv 5) pa_nil)))) (Evl.pss_cut (ps_if (pt_cmpR op_eq (pv 3) pe_int (nomark _)) (pss_cons (ps_expr (pe_bm PySem.F.plainAttrs_list PySem.F.slot_list_insert PySem.F.type_list_insert mt_ins (pv 1) (pa_cons (pe_op op_mod (pv 4) (pe_op op_add (pe_callB (len_seqK (K := K) rfl) (by rfl) T.b_len (by decide +kernel) (pa_cons (pv 1) pa_nil)) pe_int)) (pa_cons (makeNK (P := P) (w := w) (K := K) (mg := mg) (base := base) rfl rfl rfl rfl rfl T.M_Table (ok_Table___init (P := P) (w := w) (base := base) T) (hr.mono (Nat.le_of_ble_eq_true rfl)) (by rfl) T.g_Table T.n_Table___init .nil pass0 (pa_cons (pv 5) (pa_cons (pe_lst (pa_cons pe_str pa_nil)) (pa_cons (pe_lst (pa_cons pe_str pa_nil)) pa_nil)))) pa_nil)))) pss_nil) pss_nil) (Evl.pss_cut (ps_if (pt_cmpR op_eq (pv 3) pe_int (nomark _)) (pss_cons (fputK (P := P) (w := w) rfl rfl (pv 2) (pe_ix (ix_listK (K := K) rfl) (pe_lst (pa_cons pe_str (pa_cons pe_str (pa_cons pe_str (pa_cons pe_str pa_nil))))) (pe_op op_mod (pv 4) pe_int) (fun _ _ => rfl)) (pe_lst pa_nil) rfl) pss_nil) pss_nil) (Evl.pss_cut (ps_if (pt_cmpR op_eq (pv 3) pe_int (nomark _)) (pss_cons (ps_expr (pe_bm PySem.F.plainAttrs_list PySem.F.slot_list_insert PySem.F.type_list_insert mt_ins (pv 6) (pa_cons (pe_op op_mod (pv 4) (pe_op op_add (pe_callB (len_seqK (K := K) rfl) (by rfl) T.b_len (by decide +kernel) (pa_cons (pv 6) pa_nil)) pe_int)) (pa_cons (pe_op (catAK (K := K) rfl) (pv 7) (pe_tup (pa_cons pe_int pa_nil))) pa_nil)))) pss_nil) pss_nil) (Evl.pss_cut (ps_if (pt_cmpR op_eq (pv 3) pe_int (nomark _)) (pss_cons (ps_expr (pe_bm PySem.F.plainAttrs_list PySem.F.slot_list_insert PySem.F.type_list_insert mt_ins (pv 6) (pa_cons (pe_op op_mod (pv 4) (pe_op op_add (pe_callB (len_seqK (K := K) rfl) (by rfl) T.b_len (by decide +kernel) (pa_cons (pv 6) pa_nil)) pe_int)) (pa_cons (pe_slice (sl_tupAK (K := K) rfl) (pv 7) (po_some pe_int) po_none) pa_nil)))) pss_nil) pss_nil) (pss_cons (ps_if (pt_cmpR op_eq (pv 3) pe_int (nomark _)) (Evl.pss_cut (ps_if (pt_cmpR (eqDK (K := K) rfl hr.units) (pv 6) (pe_lst pa_nil) (nomark _)) (pss_cons (ps_expr (pe_bm PySem.F.plainAttrs_list PySem.F.slot_list_append PySem.F.type_list_append mt_append (pv 6) (pa_cons (pv 7) pa_nil))) pss_nil) pss_nil) (pss_cons (ps_set (i := 8) sc_l_spoil.nd rfl (by first | exact Or.inl rfl | exact Or.inr rfl) (pe_ix (ix_listK (K := K) rfl) (pv 6) (pe_call (ok_l_draw (P := P) (w := w) (base := base) T) (hr.mono (Nat.le_of_ble_eq_true rfl)) rfl T.g_l_draw T.F_l_draw.kp T.n_l_draw .nil pass0 (pa_cons (pv 0) (pa_cons (pe_callB (len_seqK (K := K) rfl) (by rfl) T.b_len (by decide +kernel) (pa_cons (pv 6) pa_nil)) pa_nil))) (fun _ _ => rfl))) (pss_cons (ps_expr (pe_bm PySem.F.plainAttrs_list PySem.F.slot_list_insert PySem.F.type_list_insert mt_ins (pv 6) (pa_cons (pe_op op_mod (pv 4) (pe_op op_add (pe_callB (len_seqK (K := K) rfl) (by rfl) T.b_len (by decide +kernel) (pa_cons (pv 6) pa_nil)) pe_int)) (pa_cons (pv 8) pa_nil)))) pss_nil))) pss_nil) pss_nil)))))))))), ?_⟩
    refine nx_go (frm_startM (N := N_l_spoil) (n := 6) (st_K o_0 hp_0 k_0 (st_K o_1 hp_1 k_1 (st_T c_2 d_2 f_2 k_2 st_N))) z sm ho rfl) ?_
    show Nx _ _ [.cel p_0 (cHls (wC (rOb (cLst rInt)) (wC rInt (wC rInt (w1 rInt))))) state0, .cel p_1 (cLst (r_Table P w a)) tables_here0, .tre (.ref p_2) (tDL P w kyStr (rOb (cTpl rInt))) handed0, .no, .no, .no, .no, .no, .no]
    unfold m_l_spoil at h
    obtain ⟨p1, hp1, h⟩ := bindO_some h
    obtain ⟨kind2, hkind2, h⟩ := letO_some h
    refine (sq_asg (ev_to (ev_callS (ew_1 ev_int) rfl rfl hp1) hkind2.symm) ?_)
    show Nx _ _ [.cel p_0 (cHls (wC (rOb (cLst rInt)) (wC rInt (wC rInt (w1 rInt))))) p1.2, .cel p_1 (cLst (r_Table P w a)) tables_here0, .tre (.ref p_2) (tDL P w kyStr (rOb (cTpl rInt))) handed0, .imm rInt kind2, .no, .no, .no, .no, .no]
    obtain ⟨p3, hp3, h⟩ := bindO_some h
    obtain ⟨spot4, hspot4, h⟩ := letO_some h
    refine (sq_asg (ev_to (ev_callS (ew_1 ev_int) rfl rfl hp3) hspot4.symm) ?_)
    show Nx _ _ [.cel p_0 (cHls (wC (rOb (cLst rInt)) (wC rInt (wC rInt (w1 rInt))))) p3.2, .cel p_1 (cLst (r_Table P w a)) tables_here0, .tre (.ref p_2) (tDL P w kyStr (rOb (cTpl rInt))) handed0, .imm rInt kind2, .imm rInt spot4, .no, .no, .no, .no]
    obtain ⟨p5, hp5, h⟩ := bindO_some h
    obtain ⟨y6, hy6, h⟩ := bindO_some h
    obtain ⟨name7, hname7, h⟩ := letO_some h
    refine (sq_asg (ev_to (ev_fld (ev_ixCel rfl rfl (ev_callS (ew_1 (ev_lenCel rfl)) rfl rfl hp5) hy6) (acc0) rfl (by decide +kernel) T.cl_Table T.na_Table_name) hname7.symm) ?_)
    show Nx _ _ [.cel p_0 (cHls (wC (rOb (cLst rInt)) (wC rInt (wC rInt (w1 rInt))))) p5.2, .cel p_1 (cLst (r_Table P w a)) tables_here0, .tre (.ref p_2) (tDL P w kyStr (rOb (cTpl rInt))) handed0, .imm rInt kind2, .imm rInt spot4, .imm rStr name7, .no, .no, .no]
    obtain ⟨here8, hhere8, h⟩ := bindO_some h
    refine (nx_lend (ev_var rfl) (by decide) rfl ⟨_, rfl⟩ hhere8 (fun q_here8 => ?_))
    show Nx _ _ [.cel p_0 (cHls (wC (rOb (cLst rInt)) (wC rInt (wC rInt (w1 rInt))))) p5.2, .cel p_1 (cLst (r_Table P w a)) tables_here0, .tre (.ref p_2) (tDH P w kyStr (rOb (cTpl rInt)) name7 q_here8) handed0, .imm rInt kind2, .imm rInt spot4, .imm rStr name7, .cel q_here8 (cLst (rOb (cTpl rInt))) here8, .no, .no]
    obtain ⟨p9, hp9, h⟩ := bindO_some h
    obtain ⟨row_here10, hrow_here10, h⟩ := letO_some h
    refine (sq_asg (ev_to (ev_callM (us := [(0, .cel p_0 (cHls (wC (rOb (cLst rInt)) (wC rInt (wC rInt (w1 rInt))))) p9.2.1)]) (ea_K (i := 0) rfl (ea_I (ev_var rfl) ea_0)) (co_K rfl (by decide) (co_I co_0)) (bo_K rfl rfl (by decide) (bo_I bo_0)) hp9) hrow_here10.symm) ?_)
    show Nx _ _ [.cel p_0 (cHls (wC (rOb (cLst rInt)) (wC rInt (wC rInt (w1 rInt))))) p9.2.1, .cel p_1 (cLst (r_Table P w a)) tables_here0, .tre (.ref p_2) (tDH P w kyStr (rOb (cTpl rInt)) name7 q_here8) handed0, .imm rInt kind2, .imm rInt spot4, .imm rStr name7, .cel q_here8 (cLst (rOb (cTpl rInt))) here8, .imm (rOb (cTpl rInt)) row_here10, .no]
    obtain ⟨c11, hc11, h⟩ := letO_some h
    obtain ⟨j12, hj12, h2⟩ := bindO_some h
    have h := hj12
    refine nx_cut [.cel p_0 (cHls (wC (rOb (cLst rInt)) (wC rInt (wC rInt (w1 rInt))))) p9.2.1, .cel p_1 (cLst (r_Table P w a)) j12, .tre (.ref p_2) (tDH P w kyStr (rOb (cTpl rInt)) name7 q_here8) handed0, .imm rInt kind2, .imm rInt spot4, .imm rStr name7, .cel q_here8 (cLst (rOb (cTpl rInt))) here8, .imm (rOb (cTpl rInt)) row_here10, .no] (nx_if (et_to (et_T (ev_eqS scInt (ev_var rfl) ev_int rfl)) hc11.symm) (fun hc => ?_) (fun hc => ?_)) ?_
    · clear h2 hj12
      have h := iteO_t hc h
      obtain ⟨r13, hr13, h⟩ := bindO_some h
      obtain ⟨o14, ho14, h⟩ := bindO_some h
      obtain ⟨tables_here15, htables_here15, h⟩ := bindO_some h
      refine (sq_insCel (ev_modP (ev_var rfl) (ev_add (ev_lenCel rfl) ev_int) hr13) (ev_make (ew_C (ev_var rfl) (ew_C (ev_new (ec_lst (eh_C ev_str eh_0) (Nat.le_of_ble_eq_true rfl))) (ew_1 (ev_new (ec_lst (eh_C ev_str eh_0) (Nat.le_of_ble_eq_true rfl)))))) ho14) rfl rfl htables_here15 ?_)
      show Nx _ _ [.cel p_0 (cHls (wC (rOb (cLst rInt)) (wC rInt (wC rInt (w1 rInt))))) p9.2.1, .cel p_1 (cLst (r_Table P w a)) tables_here15, .tre (.ref p_2) (tDH P w kyStr (rOb (cTpl rInt)) name7 q_here8) handed0, .imm rInt kind2, .imm rInt spot4, .imm rStr name7, .cel q_here8 (cLst (rOb (cTpl rInt))) here8, .imm (rOb (cTpl rInt)) row_here10, .no]
      obtain rfl := Option.some.inj h
      exact nx_fin
    · clear h2 hj12
      have h := iteO_f hc h
      obtain rfl := Option.some.inj h
      exact nx_fin
    · clear h
      have h := h2
      obtain ⟨c16, hc16, h⟩ := letO_some h
      obtain ⟨j17, hj17, h2⟩ := bindO_some h
      have h := hj17
      refine nx_cut [.cel p_0 (cHls (wC (rOb (cLst rInt)) (wC rInt (wC rInt (w1 rInt))))) p9.2.1, .cel p_1 (cLst (r_Table P w a)) j12, .tre (.ref p_2) (tDH P w kyStr (rOb (cTpl rInt)) name7 q_here8) j17, .imm rInt kind2, .imm rInt spot4, .imm rStr name7, .cel q_here8 (cLst (rOb (cTpl rInt))) here8, .imm (rOb (cTpl rInt)) row_here10, .no] (nx_if (et_to (et_T (ev_eqS scInt (ev_var rfl) ev_int rfl)) hc16.symm) (fun hc => ?_) (fun hc => ?_)) ?_
      · clear h2 hj17
        have h := iteO_t hc h
        obtain ⟨y18, hy18, h⟩ := bindO_some h
        obtain ⟨z20, hz20, h⟩ := bindO_some h
        obtain ⟨d19, hd19, h⟩ := bindO_some h
        refine (sq_putDH (j := 6) (ec_lst (eh_0 (r := (rOb (cTpl rInt)))) (Nat.le_of_ble_eq_true rfl)) (ev_ixL (ev_new (ec_lst (eh_C ev_str (eh_C ev_str (eh_C ev_str (eh_C ev_str eh_0)))) (Nat.le_of_ble_eq_true rfl))) (ev_mod (ev_var rfl) ev_int (by decide)) hy18) rfl rfl rfl (pyNe_ne hz20) hd19 ?_)
        show Nx _ _ [.cel p_0 (cHls (wC (rOb (cLst rInt)) (wC rInt (wC rInt (w1 rInt))))) p9.2.1, .cel p_1 (cLst (r_Table P w a)) j12, .tre (.ref p_2) (tDH P w kyStr (rOb (cTpl rInt)) name7 q_here8) d19, .imm rInt kind2, .imm rInt spot4, .imm rStr name7, .cel q_here8 (cLst (rOb (cTpl rInt))) here8, .imm (rOb (cTpl rInt)) row_here10, .no]
        obtain rfl := Option.some.inj h
        exact nx_fin
      · clear h2 hj17
        have h := iteO_f hc h
        obtain rfl := Option.some.inj h
        exact nx_fin
      · clear h
        have h := h2
        obtain ⟨c21, hc21, h⟩ := letO_some h
        obtain ⟨j22, hj22, h2⟩ := bindO_some h
        have h := hj22
        refine nx_cut [.cel p_0 (cHls (wC (rOb (cLst rInt)) (wC rInt (wC rInt (w1 rInt))))) p9.2.1, .cel p_1 (cLst (r_Table P w a)) j12, .tre (.ref p_2) (tDH P w kyStr (rOb (cTpl rInt)) name7 q_here8) j17, .imm rInt kind2, .imm rInt spot4, .imm rStr name7, .cel q_here8 (cLst (rOb (cTpl rInt))) j22, .imm (rOb (cTpl rInt)) row_here10, .no] (nx_if (et_to (et_T (ev_eqS scInt (ev_var rfl) ev_int rfl)) hc21.symm) (fun hc => ?_) (fun hc => ?_)) ?_
        · clear h2 hj22
          have h := iteO_t hc h
          obtain ⟨r23, hr23, h⟩ := bindO_some h
          obtain ⟨l24, hl24, h⟩ := bindO_some h
          obtain ⟨here25, hhere25, h⟩ := bindO_some h
          refine (sq_insCel (ev_modP (ev_var rfl) (ev_add (ev_lenCel rfl) ev_int) hr23) (ev_catA (ev_var rfl) (ev_new (ec_tpl (eh_C ev_int eh_0) (Nat.le_of_ble_eq_true rfl))) hl24) rfl rfl hhere25 ?_)
          show Nx _ _ [.cel p_0 (cHls (wC (rOb (cLst rInt)) (wC rInt (wC rInt (w1 rInt))))) p9.2.1, .cel p_1 (cLst (r_Table P w a)) j12, .tre (.ref p_2) (tDH P w kyStr (rOb (cTpl rInt)) name7 q_here8) j17, .imm rInt kind2, .imm rInt spot4, .imm rStr name7, .cel q_here8 (cLst (rOb (cTpl rInt))) here25, .imm (rOb (cTpl rInt)) row_here10, .no]
          obtain rfl := Option.some.inj h
          exact nx_fin
        · clear h2 hj22
          have h := iteO_f hc h
          obtain rfl := Option.some.inj h
          exact nx_fin
        · clear h
          have h := h2
          obtain ⟨c26, hc26, h⟩ := letO_some h
          obtain ⟨j27, hj27, h2⟩ := bindO_some h
          have h := hj27
          refine nx_cut [.cel p_0 (cHls (wC (rOb (cLst rInt)) (wC rInt (wC rInt (w1 rInt))))) p9.2.1, .cel p_1 (cLst (r_Table P w a)) j12, .tre (.ref p_2) (tDH P w kyStr (rOb (cTpl rInt)) name7 q_here8) j17, .imm rInt kind2, .imm rInt spot4, .imm rStr name7, .cel q_here8 (cLst (rOb (cTpl rInt))) j27, .imm (rOb (cTpl rInt)) row_here10, .no] (nx_if (et_to (et_T (ev_eqS scInt (ev_var rfl) ev_int rfl)) hc26.symm) (fun hc => ?_) (fun hc => ?_)) ?_
          · clear h2 hj27
            have h := iteO_t hc h
            obtain ⟨r28, hr28, h⟩ := bindO_some h
            obtain ⟨here29, hhere29, h⟩ := bindO_some h
            refine (sq_insCel (ev_modP (ev_var rfl) (ev_add (ev_lenCel rfl) ev_int) hr28) (ev_slA (ev_var rfl) (eo_some ev_int) eo_none) rfl rfl hhere29 ?_)
            show Nx _ _ [.cel p_0 (cHls (wC (rOb (cLst rInt)) (wC rInt (wC rInt (w1 rInt))))) p9.2.1, .cel p_1 (cLst (r_Table P w a)) j12, .tre (.ref p_2) (tDH P w kyStr (rOb (cTpl rInt)) name7 q_here8) j17, .imm rInt kind2, .imm rInt spot4, .imm rStr name7, .cel q_here8 (cLst (rOb (cTpl rInt))) here29, .imm (rOb (cTpl rInt)) row_here10, .no]
            obtain rfl := Option.some.inj h
            exact nx_fin
          · clear h2 hj27
            have h := iteO_f hc h
            obtain rfl := Option.some.inj h
            exact nx_fin
          · clear h
            have h := h2
            obtain ⟨c30, hc30, h⟩ := letO_some h
            refine (sq_if (et_to (et_T (ev_eqS scInt (ev_var rfl) ev_int rfl)) hc30.symm) (fun hc => ?_) (fun hc => ?_))
            · have h := iteO_t hc h
              obtain ⟨q31, hq31, h⟩ := bindO_some h
              obtain ⟨c32, hc32, h⟩ := letO_some h
              obtain ⟨j33, hj33, h2⟩ := bindO_some h
              have h := hj33
              refine nx_cut [.cel p_0 (cHls (wC (rOb (cLst rInt)) (wC rInt (wC rInt (w1 rInt))))) p9.2.1, .cel p_1 (cLst (r_Table P w a)) j12, .tre (.ref p_2) (tDH P w kyStr (rOb (cTpl rInt)) name7 q_here8) j17, .imm rInt kind2, .imm rInt spot4, .imm rStr name7, .cel q_here8 (cLst (rOb (cTpl rInt))) j33, .imm (rOb (cTpl rInt)) row_here10, .no] (nx_if (et_to (et_frz (i := 6) rfl (et_T (ev_eqD (da_lst (da_tpl da_int)) (da_hls daw_0) (ev_var rfl) (ev_new (ec_hls ew_0)) hq31))) hc32.symm) (fun hc => ?_) (fun hc => ?_)) ?_
              · clear h2 hj33
                have h := iteO_t hc h
                obtain ⟨here34, hhere34, h⟩ := bindO_some h
                refine (sq_app (ev_var rfl) rfl rfl hhere34 ?_)
                show Nx _ _ [.cel p_0 (cHls (wC (rOb (cLst rInt)) (wC rInt (wC rInt (w1 rInt))))) p9.2.1, .cel p_1 (cLst (r_Table P w a)) j12, .tre (.ref p_2) (tDH P w kyStr (rOb (cTpl rInt)) name7 q_here8) j17, .imm rInt kind2, .imm rInt spot4, .imm rStr name7, .cel q_here8 (cLst (rOb (cTpl rInt))) here34, .imm (rOb (cTpl rInt)) row_here10, .no]
                obtain rfl := Option.some.inj h
                exact nx_fin
              · clear h2 hj33
                have h := iteO_f hc h
                obtain rfl := Option.some.inj h
                exact nx_fin
              · clear h
                have h := h2
                obtain ⟨p35, hp35, h⟩ := bindO_some h
                obtain ⟨y36, hy36, h⟩ := bindO_some h
                obtain ⟨twin37, htwin37, h⟩ := letO_some h
                refine (sq_asg (ev_to (ev_ixCel rfl rfl (ev_callS (ew_1 (ev_lenCel rfl)) rfl rfl hp35) hy36) htwin37.symm) ?_)
                show Nx _ _ [.cel p_0 (cHls (wC (rOb (cLst rInt)) (wC rInt (wC rInt (w1 rInt))))) p35.2, .cel p_1 (cLst (r_Table P w a)) j12, .tre (.ref p_2) (tDH P w kyStr (rOb (cTpl rInt)) name7 q_here8) j17, .imm rInt kind2, .imm rInt spot4, .imm rStr name7, .cel q_here8 (cLst (rOb (cTpl rInt))) j33, .imm (rOb (cTpl rInt)) row_here10, .imm (rOb (cTpl rInt)) twin37]
                obtain ⟨r38, hr38, h⟩ := bindO_some h
                obtain ⟨here39, hhere39, h⟩ := bindO_some h
                refine (sq_insCel (ev_modP (ev_var rfl) (ev_add (ev_lenCel rfl) ev_int) hr38) (ev_var rfl) rfl rfl hhere39 ?_)
                show Nx _ _ [.cel p_0 (cHls (wC (rOb (cLst rInt)) (wC rInt (wC rInt (w1 rInt))))) p35.2, .cel p_1 (cLst (r_Table P w a)) j12, .tre (.ref p_2) (tDH P w kyStr (rOb (cTpl rInt)) name7 q_here8) j17, .imm rInt kind2, .imm rInt spot4, .imm rStr name7, .cel q_here8 (cLst (rOb (cTpl rInt))) here39, .imm (rOb (cTpl rInt)) row_here10, .imm (rOb (cTpl rInt)) twin37]
                refine nx_back 2 6 (by decide) rfl rfl ?_
                show Nx _ _ [.cel p_0 (cHls (wC (rOb (cLst rInt)) (wC rInt (wC rInt (w1 rInt))))) p35.2, .cel p_1 (cLst (r_Table P w a)) j12, .tre (.ref p_2) (tDL P w kyStr (rOb (cTpl rInt))) (putM j17 name7 here39), .imm rInt kind2, .imm rInt spot4, .imm rStr name7, .no, .imm (rOb (cTpl rInt)) row_here10, .imm (rOb (cTpl rInt)) twin37]
                exact nx_next (endM ⟨rfl, rfl⟩ ((oa_K rfl (oa_K rfl (oa_T rfl oa_N))) : OwnAt _ 3 0 _ _ _) h kr)
            · have h := iteO_f hc h
              refine nx_back 2 6 (by decide) rfl rfl ?_
              show Nx _ _ [.cel p_0 (cHls (wC (rOb (cLst rInt)) (wC rInt (wC rInt (w1 rInt))))) p9.2.1, .cel p_1 (cLst (r_Table P w a)) j12, .tre (.ref p_2) (tDL P w kyStr (rOb (cTpl rInt))) (putM j17 name7 j27), .imm rInt kind2, .imm rInt spot4, .imm rStr name7, .no, .imm (rOb (cTpl rInt)) row_here10, .no]
              exact nx_next (endM ⟨rfl, rfl⟩ ((oa_K rfl (oa_K rfl (oa_T rfl oa_N))) : OwnAt _ 3 0 _ _ _) h kr)
theorem ok_l_due (T : Txt K mg a) : FnOk P w K mg base CX0 2 a.f_l_due a.d_l_due ["_law_tables_here", "_law_handed"] (SpP (wC (rOb (cLst (r_Table P w a))) (w1 (rDicF P w kyStr (rOb (cLst (rOb (cTpl rInt))))))) (rAlt (rOb (cTup (wC rStr (w1 rStr)))) (rAlt (rOb (cTup (wC rStr (wC rStr (w1 (rOb (cTpl rInt))))))) (rOb (cTup (w1 rStr))))) (fun x => m_l_due x.1 x.2)) := by
  refine T.F_l_due.ok sc_l_due (fun vs H Q E h => ?_) (fun cdv A outer s H vs Q E hr h => ?_)
  · obtain ⟨B, x, b, z, sm, hw, h, kr⟩ := h
    rw [WLen.len hw]; rfl
  · obtain ⟨B, ⟨tables_here0, handed0⟩, b, z, sm, hw, h, kr⟩ := h
    have h : m_l_due tables_here0 handed0 = some b := h
    refine ⟨_, (pss_cons (ps_set (i := 2) sc_l_due.nd rfl (by first | exact Or.inl rfl | exact Or.inr rfl) (pe_lc (own := [("_law_table", 7)]) rfl sc_l_due.nd (pi_listK (K := K) rfl (pv 0)) (blkOk_by (N := N_l_due) (sc := defScope s_l_due) (by decide +kernel)) (fun _ _ _ _ _ => (pg_name (i := 7) sc_l_due.nd rfl (by first | exact Or.inl rfl | exact Or.inr rfl))) (fun _ _ _ _ _ => pts_nil) (fun _ _ _ _ _ => (fldK (K := K) rfl (pv 7) rfl)))) (pss_cons (ps_for PassesOwn.never rfl (pi_range1 rfl T.b_range (pa_cons (pe_callB (len_seqK (K := K) rfl) (by rfl) T.b_len (by decide +kernel) (pa_cons (pv 2) pa_nil)) pa_nil)) (pg_name (i := 3) sc_l_due.nd rfl (by first | exact Or.inl rfl | exact Or.inr rfl)) (pss_cons (ps_if (pt_cmpR (in_seqK (K := K) rfl) (pe_ix (ix_listK (K := K) rfl) (pv 2) (pv 3) (fun _ _ => rfl)) (pe_slice (sl_listK (K := K) rfl) (pv 2) po_none (po_some (pv 3))) rfl) (pss_cons (ps_ret (pe_tup (pa_cons pe_str (pa_cons (pe_ix (ix_listK (K := K) rfl) (pv 2) (pv 3) (fun _ _ => rfl)) pa_nil)))) pss_nil) pss_nil) pss_nil)) (pss_cons (ps_set (i := 4) sc_l_due.nd rfl (by first | exact Or.inl rfl | exact Or.inr rfl) (pe_callB (sortSK (K := K) rfl) (by rfl) T.b_sorted (by decide +kernel) (pa_cons (pe_lc (own := [("_law_name", 5)]) rfl sc_l_due.nd (pi_listK (K := K) rfl (pe_callTy (listFK (P := P) (w := w) rfl rfl rfl) (by rfl) T.b_list (by decide +kernel) (pa_cons (pv 1) pa_nil))) (blkOk_by (N := N_l_due) (sc := defScope s_l_due) (by decide +kernel)) (fun _ _ _ _ _ => (pg_name (i := 5) sc_l_due.nd rfl (by first | exact Or.inl rfl | exact Or.inr rfl))) (fun _ _ _ _ _ => (pts_one (pt_cmpR (notIn_seqK (K := K) rfl) (pv 5) (pv 2) rfl))) (fun _ _ _ _ _ => (pv 5))) pa_nil))) (pss_cons (ps_if (pt_cmpR (neDK (K := K) rfl hr.units) (pv 4) (pe_lst pa_nil) (nomark _)) (pss_cons (ps_ret (pe_tup (pa_cons pe_str (pa_cons (pe_ix (ix_listK (K := K) rfl) (pv 4) pe_int (fun _ _ => rfl)) pa_nil)))) pss_nil) pss_nil) (pss_cons (ps_for PassesOwn.never rfl (pi_listK (K := K) rfl (pe_callB (sortSK (K := K) rfl) (by rfl) T.b_sorted (by decide +kernel) (pa_cons (pv 2) pa_nil))) (pg_name (i := 5) sc_l_due.nd rfl (by first | exact Or.inl rfl | exact Or.inr rfl)) (pss_cons (ps_set (i := 6) sc_l_due.nd rfl (by first | exact Or.inl rfl | exact Or.inr rfl) (fget2K (P := P) (w := w) rfl rfl (pv 1) (pv 5) (pe_lst pa_nil) ⟨rfl, rfl, rfl, rfl⟩)) (pss_cons (ps_for PassesOwn.never rfl (pi_range1 rfl T.b_range (pa_cons (pe_callB (len_seqK (K := K) rfl) (by rfl) T.b_len (by decide +kernel) (pa_cons (pv 6) pa_nil)) pa_nil)) (pg_name (i := 3) sc_l_due.nd rfl (by first | exact Or.inl rfl | exact Or.inr rfl)) (pss_cons (ps_if (pt_cmpR op_ne (pe_callB (len_seqK (K := K) rfl) (by rfl) T.b_len (by decide +kernel) (pa_cons (pe_ix (ix_listK (K := K) rfl) (pv 6) (pv 3) (fun _ _ => rfl)) pa_nil)) (pe_call (ok_l_size (P := P) (w := w) (base := base) T) (hr.mono (Nat.le_of_ble_eq_true rfl)) rfl T.g_l_size T.F_l_size.kp T.n_l_size .nil pass0 (pa_cons (pv 5) pa_nil)) (nomark _)) (pss_cons (ps_ret (pe_tup (pa_cons pe_str (pa_cons (pv 5) (pa_cons (pe_ix (ix_listK (K := K) rfl) (pv 6) (pv 3) (fun _ _ => rfl)) pa_nil))))) pss_nil) pss_nil) (pss_cons (ps_if (pt_cmpR (inDK (K := K) rfl hr.units65) (pe_call (ok_l_key (P := P) (w := w) (base := base) T) (hr.mono (Nat.le_of_ble_eq_true rfl)) rfl T.g_l_key T.F_l_key.kp T.n_l_key .nil pass0 (pa_cons (pv 5) (pa_cons (pe_ix (ix_listK (K := K) rfl) (pv 6) (pv 3) (fun _ _ => rfl)) pa_nil))) (pe_lc (own := [("_law_other", 8)]) rfl sc_l_due.nd (pi_listK (K := K) rfl (pe_slice (sl_listK (K := K) rfl) (pv 6) po_none (po_some (pv 3)))) (blkOk_by (N := N_l_due) (sc := defScope s_l_due) (by decide +kernel)) (fun _ _ _ _ _ => (pg_name (i := 8) sc_l_due.nd rfl (by first | exact Or.inl rfl | exact Or.inr rfl))) (fun _ _ _ _ _ => pts_nil) (fun _ _ _ _ _ => (pe_call (ok_l_key (P := P) (w := w) (base := base) T) (hr.mono (Nat.le_of_ble_eq_true rfl)) rfl T.g_l_key T.F_l_key.kp T.n_l_key .nil pass0 (pa_cons (pv 5) (pa_cons (pv 8) pa_nil))))) rfl) (pss_cons (ps_ret (pe_tup (pa_cons pe_str (pa_cons (pv 5) (pa_cons (pe_call (ok_l_key (P := P) (w := w) (base := base) T) (hr.mono (Nat.le_of_ble_eq_true rfl)) rfl T.g_l_key T.F_l_key.kp T.n_l_key .nil pass0 (pa_cons (pv 5) (pa_cons (pe_ix (ix_listK (K := K) rfl) (pv 6) (pv 3) (fun _ _ => rfl)) pa_nil))) pa_nil))))) pss_nil) pss_nil) pss_nil))) pss_nil))) (pss_cons (ps_ret (pe_tup (pa_cons pe_str pa_nil))) pss_nil)))))), ?_⟩
    refine nx_go (frm_start (N := N_l_due) (n := 7) z sm hw (by rw [WLen.len hw]; rfl)) ?_
    show Nx _ _ [.imm (rOb (cLst (r_Table P w a))) tables_here0, .imm (rDicF P w kyStr (rOb (cLst (rOb (cTpl rInt))))) handed0, .no, .no, .no, .no, .no, .no, .no]
    unfold m_l_due at h
    obtain ⟨l2, hl2, h⟩ := bindO_some h
    obtain ⟨names3, hnames3, h⟩ := letO_some h
    refine (sq_asg (ev_to (ev_new (ec_lc (m_l_due_c1) (it_list (ev_var rfl)) hl2 tg_name (fun k hk => hk) (by rfl) (fun _ => by rfl) (fun table1 o ho => by unfold m_l_due_c1 at ho; cases ho; exact ⟨et_yes, fun y hy => by cases hy; exact ev_to (ev_fld (ev_var rfl) (acc0) rfl (by decide +kernel) T.cl_Table T.na_Table_name) rfl⟩))) hnames3.symm) ?_)
    show Nx _ _ [.imm (rOb (cLst (r_Table P w a))) tables_here0, .imm (rDicF P w kyStr (rOb (cLst (rOb (cTpl rInt))))) handed0, .imm (rOb (cLst rStr)) names3, .no, .no, .no, .no, .no, .no]
    obtain ⟨l4, hl4, h⟩ := bindO_some h
    obtain ⟨R10, hR10, h⟩ := bindO_some h
    refine (sq_for (ψ := psi (rAlt (rOb (cTup (wC rStr (w1 rStr)))) (rAlt (rOb (cTup (wC rStr (wC rStr (w1 (rOb (cTpl rInt))))))) (rOb (cTup (w1 rStr)))))) (m_l_due_b1 names3) (fun z => [.imm (rOb (cLst (r_Table P w a))) tables_here0, .imm (rDicF P w kyStr (rOb (cLst (rOb (cTpl rInt))))) handed0, .imm (rOb (cLst rStr)) names3, .no, .no, .no, .no, .no, .no]) (it_rng1 (ew_1 (ev_lenL (ev_var rfl))) hl4) hR10 (fun A1 _ => ?_) (fun _ => tg_name) (fun A1 D1 k6 s5 st hA1 h k1 => ?_) ?_ ?_)
    · exact nx_fin
    · show Nx _ _ [.imm (rOb (cLst (r_Table P w a))) tables_here0, .imm (rDicF P w kyStr (rOb (cLst (rOb (cTpl rInt))))) handed0, .imm (rOb (cLst rStr)) names3, .imm rInt k6, .no, .no, .no, .no, .no]
      unfold m_l_due_b1 at h
      obtain ⟨y7, hy7, h⟩ := bindO_some h
      obtain ⟨c8, hc8, h⟩ := letO_some h
      refine (sq_if (et_to (et_T (ev_inL fl_str (ev_ixL (ev_var rfl) (ev_var rfl) hy7) (ev_new (ec_slL (ev_var rfl) eo_none (eo_some (ev_var rfl)))))) hc8.symm) (fun hc => ?_) (fun hc => ?_))
      · have h := iteO_t hc h
        obtain ⟨y9, hy9, h⟩ := bindO_some h
        exact (sq_ret (ev_inl (rb := (rAlt (rOb (cTup (wC rStr (wC rStr (w1 (rOb (cTpl rInt))))))) (rOb (cTup (w1 rStr))))) (ev_new (ec_tup (ew_C ev_str (ew_1 (ev_ixL (ev_var rfl) (ev_var rfl) hy9)))))) rfl (k1.rt _ (Option.some.inj h).symm))
      · have h := iteO_f hc h
        refine nx_next ?_
        try dsimp only
        refine nx_next ?_
        refine nx_forget 3 ?_
        exact k1.nx _ (Option.some.inj h).symm
    · intro b e
      subst e
      obtain rfl := stepO_ret h; exact kr
    · intro e11 e
      subst e
      have h := stepO_nx h
      show Nx _ _ [.imm (rOb (cLst (r_Table P w a))) tables_here0, .imm (rDicF P w kyStr (rOb (cLst (rOb (cTpl rInt))))) handed0, .imm (rOb (cLst rStr)) names3, .no, .no, .no, .no, .no, .no]
      obtain ⟨l12, hl12, h⟩ := bindO_some h
      obtain ⟨l15, hl15, h⟩ := bindO_some h
      obtain ⟨l16, hl16, h⟩ := bindO_some h
      obtain ⟨strange17, hstrange17, h⟩ := letO_some h
      refine (sq_asg (ev_to (ev_new (ec_sortS (ev_new (ec_lc (m_l_due_c2 names3) (it_list (ev_new (ec_listF kyStr (ev_var rfl) hl12))) hl15 tg_name (fun k hk => hk) (by rfl) (fun _ => by rfl) (fun name13 o ho => by unfold m_l_due_c2 at ho; obtain ⟨c14, hc14, ho⟩ := letO_some ho; cases c14 with | true => (have ho : (some (some name13)) = some o := ho; cases ho; exact ⟨et_to (et_T (ev_ninL fl_str (ev_var rfl) (ev_var rfl))) hc14.symm, fun y hy => by cases hy; exact ev_to (ev_var rfl) rfl⟩) | false => (have ho : some none = some o := ho; cases ho; exact ⟨et_to (et_T (ev_ninL fl_str (ev_var rfl) (ev_var rfl))) hc14.symm, fun y hy => by cases hy⟩)))) hl16)) hstrange17.symm) ?_)
      show Nx _ _ [.imm (rOb (cLst (r_Table P w a))) tables_here0, .imm (rDicF P w kyStr (rOb (cLst (rOb (cTpl rInt))))) handed0, .imm (rOb (cLst rStr)) names3, .no, .imm (rOb (cLst rStr)) strange17, .no, .no, .no, .no]
      obtain ⟨q18, hq18, h⟩ := bindO_some h
      obtain ⟨c19, hc19, h⟩ := letO_some h
      refine (sq_if (et_to (et_T (ev_neD (da_lst da_str) (da_hls daw_0) (ev_var rfl) (ev_new (ec_hls ew_0)) hq18)) hc19.symm) (fun hc => ?_) (fun hc => ?_))
      · have h := iteO_t hc h
        obtain ⟨y20, hy20, h⟩ := bindO_some h
        exact (sq_ret (ev_inl (rb := (rAlt (rOb (cTup (wC rStr (wC rStr (w1 (rOb (cTpl rInt))))))) (rOb (cTup (w1 rStr))))) (ev_new (ec_tup (ew_C ev_str (ew_1 (ev_ixL (ev_var rfl) ev_int hy20)))))) h kr)
      · have h := iteO_f hc h
        refine nx_next ?_
        try dsimp only
        obtain ⟨l21, hl21, h⟩ := bindO_some h
        obtain ⟨R43, hR43, h⟩ := bindO_some h
        refine (sq_for (ψ := psi (rAlt (rOb (cTup (wC rStr (w1 rStr)))) (rAlt (rOb (cTup (wC rStr (wC rStr (w1 (rOb (cTpl rInt))))))) (rOb (cTup (w1 rStr)))))) (m_l_due_b3 handed0) (fun z => [.imm (rOb (cLst (r_Table P w a))) tables_here0, .imm (rDicF P w kyStr (rOb (cLst (rOb (cTpl rInt))))) handed0, .imm (rOb (cLst rStr)) names3, .no, .imm (rOb (cLst rStr)) strange17, .no, .no, .no, .no]) (it_list (ev_new (ec_sortS (ev_var rfl) hl21))) hR43 (fun A1 _ => ?_) (fun _ => tg_name) (fun A1 D1 name23 s22 st hA1 h k1 => ?_) ?_ ?_)
        · exact nx_fin
        · show Nx _ _ [.imm (rOb (cLst (r_Table P w a))) tables_here0, .imm (rDicF P w kyStr (rOb (cLst (rOb (cTpl rInt))))) handed0, .imm (rOb (cLst rStr)) names3, .no, .imm (rOb (cLst rStr)) strange17, .imm rStr name23, .no, .no, .no]
          unfold m_l_due_b3 at h
          obtain ⟨here24, hhere24, h⟩ := letO_some h
          refine (sq_asg (ev_to (ev_fget2 kyStr (ev_var rfl) (ev_var rfl) (ev_new (ec_lst (eh_0 (r := (rOb (cTpl rInt)))) (Nat.le_of_ble_eq_true rfl)))) hhere24.symm) ?_)
          show Nx _ _ [.imm (rOb (cLst (r_Table P w a))) tables_here0, .imm (rDicF P w kyStr (rOb (cLst (rOb (cTpl rInt))))) handed0, .imm (rOb (cLst rStr)) names3, .no, .imm (rOb (cLst rStr)) strange17, .imm rStr name23, .imm (rOb (cLst (rOb (cTpl rInt)))) here24, .no, .no]
          obtain ⟨l25, hl25, h⟩ := bindO_some h
          obtain ⟨R41, hR41, h⟩ := bindO_some h
          refine (sq_for (ψ := psi (rAlt (rOb (cTup (wC rStr (w1 rStr)))) (rAlt (rOb (cTup (wC rStr (wC rStr (w1 (rOb (cTpl rInt))))))) (rOb (cTup (w1 rStr)))))) (m_l_due_b2 name23 here24) (fun z => [.imm (rOb (cLst (r_Table P w a))) tables_here0, .imm (rDicF P w kyStr (rOb (cLst (rOb (cTpl rInt))))) handed0, .imm (rOb (cLst rStr)) names3, .no, .imm (rOb (cLst rStr)) strange17, .imm rStr name23, .imm (rOb (cLst (rOb (cTpl rInt)))) here24, .no, .no]) (it_rng1 (ew_1 (ev_lenL (ev_var rfl))) hl25) hR41 (fun A2 _ => ?_) (fun _ => tg_name) (fun A2 D2 k27 s26 st hA2 h k2 => ?_) ?_ ?_)
          · exact nx_fin
          · show Nx _ _ [.imm (rOb (cLst (r_Table P w a))) tables_here0, .imm (rDicF P w kyStr (rOb (cLst (rOb (cTpl rInt))))) handed0, .imm (rOb (cLst rStr)) names3, .imm rInt k27, .imm (rOb (cLst rStr)) strange17, .imm rStr name23, .imm (rOb (cLst (rOb (cTpl rInt)))) here24, .no, .no]
            unfold m_l_due_b2 at h
            obtain ⟨y28, hy28, h⟩ := bindO_some h
            obtain ⟨v29, hv29, h⟩ := bindO_some h
            obtain ⟨c30, hc30, h⟩ := letO_some h
            refine (sq_if (et_to (et_T (ev_neS scInt (ev_lenT (ev_ixL (ev_var rfl) (ev_var rfl) hy28)) (ev_call (ew_1 (ev_var rfl)) hv29) rfl)) hc30.symm) (fun hc => ?_) (fun hc => ?_))
            · have h := iteO_t hc h
              obtain ⟨y31, hy31, h⟩ := bindO_some h
              exact (sq_ret (ev_inr (ra := (rOb (cTup (wC rStr (w1 rStr))))) (ev_inl (rb := (rOb (cTup (w1 rStr)))) (ev_new (ec_tup (ew_C ev_str (ew_C (ev_var rfl) (ew_1 (ev_ixL (ev_var rfl) (ev_var rfl) hy31)))))))) rfl (k2.rt _ (Option.some.inj h).symm))
            · have h := iteO_f hc h
              refine nx_next ?_
              try dsimp only
              obtain ⟨y32, hy32, h⟩ := bindO_some h
              obtain ⟨v33, hv33, h⟩ := bindO_some h
              obtain ⟨l36, hl36, h⟩ := bindO_some h
              obtain ⟨n37, hn37, h⟩ := bindO_some h
              obtain ⟨c38, hc38, h⟩ := letO_some h
              refine (sq_if (et_to (et_T (ev_inD (da_tpl da_int) (da_tpl da_int) (ev_call (ew_C (ev_var rfl) (ew_1 (ev_ixL (ev_var rfl) (ev_var rfl) hy32))) hv33) (ev_new (ec_lc (m_l_due_c3 name23) (it_list (ev_new (ec_slL (ev_var rfl) eo_none (eo_some (ev_var rfl))))) hl36 tg_name (fun k hk => hk) (by rfl) (fun _ => by rfl) (fun other34 o ho => by unfold m_l_due_c3 at ho; obtain ⟨v35, hv35, ho⟩ := bindO_some ho; cases ho; exact ⟨et_yes, fun y hy => by cases hy; exact ev_to (ev_call (ew_C (ev_var rfl) (ew_1 (ev_var rfl))) hv35) rfl⟩))) hn37)) hc38.symm) (fun hc => ?_) (fun hc => ?_))
              · have h := iteO_t hc h
                obtain ⟨y39, hy39, h⟩ := bindO_some h
                obtain ⟨v40, hv40, h⟩ := bindO_some h
                exact (sq_ret (ev_inr (ra := (rOb (cTup (wC rStr (w1 rStr))))) (ev_inl (rb := (rOb (cTup (w1 rStr)))) (ev_new (ec_tup (ew_C ev_str (ew_C (ev_var rfl) (ew_1 (ev_call (ew_C (ev_var rfl) (ew_1 (ev_ixL (ev_var rfl) (ev_var rfl) hy39))) hv40)))))))) rfl (k2.rt _ (Option.some.inj h).symm))
              · have h := iteO_f hc h
                refine nx_next ?_
                try dsimp only
                refine nx_next ?_
                refine nx_forget 3 ?_
                exact k2.nx _ (Option.some.inj h).symm
          · intro b e
            subst e
            exact k1.rt _ (stepL_ret h)
          · intro e42 e
            subst e
            have h := stepL_nx h
            show Nx _ _ [.imm (rOb (cLst (r_Table P w a))) tables_here0, .imm (rDicF P w kyStr (rOb (cLst (rOb (cTpl rInt))))) handed0, .imm (rOb (cLst rStr)) names3, .no, .imm (rOb (cLst rStr)) strange17, .imm rStr name23, .imm (rOb (cLst (rOb (cTpl rInt)))) here24, .no, .no]
            refine nx_next ?_
            refine nx_forget 5 ?_
            refine nx_forget 6 ?_
            exact k1.nx _ (Option.some.inj h).symm
        · intro b e
          subst e
          obtain rfl := stepO_ret h; exact kr
        · intro e44 e
          subst e
          have h := stepO_nx h
          show Nx _ _ [.imm (rOb (cLst (r_Table P w a))) tables_here0, .imm (rDicF P w kyStr (rOb (cLst (rOb (cTpl rInt))))) handed0, .imm (rOb (cLst rStr)) names3, .no, .imm (rOb (cLst rStr)) strange17, .no, .no, .no, .no]
          exact (sq_ret (ev_inr (ra := (rOb (cTup (wC rStr (w1 rStr))))) (ev_inr (ra := (rOb (cTup (wC rStr (wC rStr (w1 (rOb (cTpl rInt)))))))) (ev_new (ec_tup (ew_1 ev_str))))) h kr)
theorem ok_l_made (T : Txt K mg a) : FnOk P w K mg base CX0 9 a.f_l_made a.d_l_made ["_law_tables_here", "_law_handed"] (SpP (wC (rOb (cLst (r_Table P w a))) (w1 (rDicF P w kyStr (rOb (cLst (rOb (cTpl rInt))))))) (rAlt (rOb (cTup (wC rStr (w1 rStr)))) (rAlt (rOb (cTup (wC rStr (wC rStr (w1 (rOb (cTpl rInt))))))) (rOb (cTup (w1 rStr))))) (fun x => m_l_made x.1 x.2)) := by
  refine T.F_l_made.ok sc_l_made (fun vs H Q E h => ?_) (fun cdv A outer s H vs Q E hr h => ?_)
  · obtain ⟨B, x, b, z, sm, hw, h, kr⟩ := h
    rw [WLen.len hw]; rfl
  · obtain ⟨B, ⟨tables_here0, handed0⟩, b, z, sm, hw, h, kr⟩ := h
    have h : m_l_made tables_here0 handed0 = some b := h
    refine ⟨_, (pss_cons (ps_set (i := 2) sc_l_made.nd rfl (by first | exact Or.inl rfl | exact Or.inr rfl) pe_non) (pss_cons (ps_tryYn rfl rfl sc_l_made.nd takes0N (.cons (i := 4) rfl rfl ⟨rfl, by decide, Or.inl T.g_DuplicateTable⟩ (.cons (i := 4) rfl rfl ⟨rfl, by decide, Or.inl T.g_NoTable⟩ (.cons (i := 4) rfl rfl ⟨rfl, by decide, Or.inl T.g_InvalidRow⟩ (.cons (i := 4) rfl rfl ⟨rfl, by decide, Or.inl T.g_DuplicateKey⟩ .nil))))) (pss_cons (ps_if (pt_cmp (pc_notN (pv 2))) (pss_cons (ps_ret (pv 2)) pss_nil) pss_nil) (pss_cons (ps_ret (pe_tup (pa_cons pe_str pa_nil))) pss_nil)))), ?_⟩
    refine nx_go (frm_start (N := N_l_made) (n := 3) z sm hw (by rw [WLen.len hw]; rfl)) ?_
    show Nx _ _ [.imm (rOb (cLst (r_Table P w a))) tables_here0, .imm (rDicF P w kyStr (rOb (cLst (rOb (cTpl rInt))))) handed0, .no, .no, .no]
    unfold m_l_made at h
    obtain ⟨caught1, hcaught1, h⟩ := letO_some h
    refine (sq_asg (ev_to (ev_none (r := (rAlt (rOb (cTup (wC rStr (w1 rStr)))) (rOb (cTup (wC rStr (wC rStr (w1 (rOb (cTpl rInt)))))))))) hcaught1.symm) ?_)
    show Nx _ _ [.imm (rOb (cLst (r_Table P w a))) tables_here0, .imm (rDicF P w kyStr (rOb (cLst (rOb (cTpl rInt))))) handed0, .imm (rOpt (rAlt (rOb (cTup (wC rStr (w1 rStr)))) (rOb (cTup (wC rStr (wC rStr (w1 (rOb (cTpl rInt))))))))) caught1, .no, .no]
    refine sq_tryN (fun pn xe tk po => (pss_cons (ps_set (i := 3) sc_l_made.nd rfl (by first | exact Or.inl rfl | exact Or.inr rfl) (pe_makeS T.M_Store (ok_Store___init (P := P) (w := w) (base := base) T) (hr.mono (Nat.le_of_ble_eq_true rfl)) rfl T.g_Store (binds_nil T.n_Store___init_1 T.v_Store___init_1) (fun σ => L2N.passAt tk σ) (pa_cons (pv 0) (pa_cons (pv 1) pa_nil)))) pss_nil)) ?_
    show Nx _ _ [.imm (rOb (cLst (r_Table P w a))) tables_here0, .imm (rDicF P w kyStr (rOb (cLst (rOb (cTpl rInt))))) handed0, .imm (rOpt (rAlt (rOb (cTup (wC rStr (w1 rStr)))) (rOb (cTup (wC rStr (wC rStr (w1 (rOb (cTpl rInt))))))))) caught1, .no, .no]
    obtain ⟨r2, hr2, h⟩ := bindO_some h
    refine (xaMake (fun s h => erS_mono (R1 := (erC a.C_DuplicateTable [("name" : Str)] (w1 rStr))) (R2 := (erS (erC a.C_NoTable [("name" : Str)] (w1 rStr)) (erS (erC a.C_InvalidRow [("name" : Str), ("row" : Str)] (wC rStr (w1 (rOb (cTpl rInt))))) (erC a.C_DuplicateKey [("name" : Str), ("key" : Str)] (wC rStr (w1 (rOb (cTpl rInt)))))))) (fun s h => erC_mono s h) (fun s h => erS_mono (R1 := (erC a.C_NoTable [("name" : Str)] (w1 rStr))) (R2 := (erS (erC a.C_InvalidRow [("name" : Str), ("row" : Str)] (wC rStr (w1 (rOb (cTpl rInt))))) (erC a.C_DuplicateKey [("name" : Str), ("key" : Str)] (wC rStr (w1 (rOb (cTpl rInt))))))) (fun s h => erC_mono s h) (fun s h => erS_mono (R1 := (erC a.C_InvalidRow [("name" : Str), ("row" : Str)] (wC rStr (w1 (rOb (cTpl rInt)))))) (R2 := (erC a.C_DuplicateKey [("name" : Str), ("key" : Str)] (wC rStr (w1 (rOb (cTpl rInt)))))) (fun s h => erC_mono s h) (fun s h => erC_mono s h) s h) s h) s h) (ew_C (ev_var rfl) (ew_1 (ev_var rfl))) hr2 h (fun law_store3 h => ?_) (fun e4 h => ?_))
    · show Nx _ _ [.imm (rOb (cLst (r_Table P w a))) tables_here0, .imm (rDicF P w kyStr (rOb (cLst (rOb (cTpl rInt))))) handed0, .imm (rOpt (rAlt (rOb (cTup (wC rStr (w1 rStr)))) (rOb (cTup (wC rStr (wC rStr (w1 (rOb (cTpl rInt))))))))) caught1, .imm (r_Store P w a) law_store3, .no]
      refine nx_next ?_
      show Nx _ _ [.imm (rOb (cLst (r_Table P w a))) tables_here0, .imm (rDicF P w kyStr (rOb (cLst (rOb (cTpl rInt))))) handed0, .imm (rOpt (rAlt (rOb (cTup (wC rStr (w1 rStr)))) (rOb (cTup (wC rStr (wC rStr (w1 (rOb (cTpl rInt))))))))) caught1, .imm (r_Store P w a) law_store3, .no]
      obtain ⟨c5, hc5, h⟩ := letO_some h
      refine (sq_if (et_to (et_B (ev_notN (ev_var rfl))) hc5.symm) (fun hc => ?_) (fun hc => ?_))
      · have h := iteO_t hc h
        obtain ⟨g6, hg6, h⟩ := bindO_some h
        exact (sq_ret (ev_altW (f := (fun (z : (Str × Str)) => (.inl ((fun (z : (Str × Str)) => z) z) : ((Str × Str) ⊕ ((Str × Str × (List Int)) ⊕ Str))))) (g := (fun (z : (Str × Str × (List Int))) => (.inr ((fun (z : (Str × Str × (List Int))) => (.inl ((fun (z : (Str × Str × (List Int))) => z) z) : ((Str × Str × (List Int)) ⊕ Str))) z) : ((Str × Str) ⊕ ((Str × Str × (List Int)) ⊕ Str))))) (fun _ hz => ev_inl (rb := (rAlt (rOb (cTup (wC rStr (wC rStr (w1 (rOb (cTpl rInt))))))) (rOb (cTup (w1 rStr))))) ((fun _ hz => hz) _ hz)) (fun _ hz => ev_inr (ra := (rOb (cTup (wC rStr (w1 rStr))))) ((fun _ hz => ev_inl (rb := (rOb (cTup (w1 rStr)))) ((fun _ hz => hz) _ hz)) _ hz)) (ev_get (ev_var rfl) hg6)) h kr)
      · have h := iteO_f hc h
        refine nx_next ?_
        try dsimp only
        exact (sq_ret (ev_inr (ra := (rOb (cTup (wC rStr (w1 rStr))))) (ev_inr (ra := (rOb (cTup (wC rStr (wC rStr (w1 (rOb (cTpl rInt)))))))) (ev_new (ec_tup (ew_1 ev_str))))) h kr)
    · refine nxe_sum h (fun e7 h => ?_) (fun e8 h => ?_)
      · refine nxe_asN T.e_DuplicateTable_DuplicateTable (fun p9 d10 => ⟨_, fun oe pn hz hf => (pss_cons (ps_set (i := 2) sc_l_made.nd rfl (by first | exact Or.inl rfl | exact Or.inr rfl) (pe_tup (pa_cons pe_str (pa_cons (pe_xf T.xf_DuplicateTable T.na_DuplicateTable_name hz.zc hf (pv 4)) pa_nil)))) pss_nil), ?_⟩)
        show Nx _ _ [.imm (rOb (cLst (r_Table P w a))) tables_here0, .imm (rDicF P w kyStr (rOb (cLst (rOb (cTpl rInt))))) handed0, .imm (rOpt (rAlt (rOb (cTup (wC rStr (w1 rStr)))) (rOb (cTup (wC rStr (wC rStr (w1 (rOb (cTpl rInt))))))))) caught1, .no, .imm (rExc p9 d10 a.C_DuplicateTable [("name" : Str)] (w1 rStr)) e7]
        obtain ⟨caught11, hcaught11, h⟩ := letO_some h
        refine (sq_asg (ev_to (ev_some (nn_alt nn_ob nn_ob) (ev_inl (rb := (rOb (cTup (wC rStr (wC rStr (w1 (rOb (cTpl rInt)))))))) (ev_new (ec_tup (ew_C ev_str (ew_1 (ev_xf (ev_var rfl) (acc1) rfl))))))) hcaught11.symm) ?_)
        show Nx _ _ [.imm (rOb (cLst (r_Table P w a))) tables_here0, .imm (rDicF P w kyStr (rOb (cLst (rOb (cTpl rInt))))) handed0, .imm (rOpt (rAlt (rOb (cTup (wC rStr (w1 rStr)))) (rOb (cTup (wC rStr (wC rStr (w1 (rOb (cTpl rInt))))))))) caught11, .no, .imm (rExc p9 d10 a.C_DuplicateTable [("name" : Str)] (w1 rStr)) e7]
        refine nx_next ?_
        refine nx_unsetE ?_
        show Nx _ _ [.imm (rOb (cLst (r_Table P w a))) tables_here0, .imm (rDicF P w kyStr (rOb (cLst (rOb (cTpl rInt))))) handed0, .imm (rOpt (rAlt (rOb (cTup (wC rStr (w1 rStr)))) (rOb (cTup (wC rStr (wC rStr (w1 (rOb (cTpl rInt))))))))) caught11, .no, .no]
        obtain ⟨c12, hc12, h⟩ := letO_some h
        refine (sq_if (et_to (et_B (ev_notN (ev_var rfl))) hc12.symm) (fun hc => ?_) (fun hc => ?_))
        · have h := iteO_t hc h
          obtain ⟨g13, hg13, h⟩ := bindO_some h
          exact (sq_ret (ev_altW (f := (fun (z : (Str × Str)) => (.inl ((fun (z : (Str × Str)) => z) z) : ((Str × Str) ⊕ ((Str × Str × (List Int)) ⊕ Str))))) (g := (fun (z : (Str × Str × (List Int))) => (.inr ((fun (z : (Str × Str × (List Int))) => (.inl ((fun (z : (Str × Str × (List Int))) => z) z) : ((Str × Str × (List Int)) ⊕ Str))) z) : ((Str × Str) ⊕ ((Str × Str × (List Int)) ⊕ Str))))) (fun _ hz => ev_inl (rb := (rAlt (rOb (cTup (wC rStr (wC rStr (w1 (rOb (cTpl rInt))))))) (rOb (cTup (w1 rStr))))) ((fun _ hz => hz) _ hz)) (fun _ hz => ev_inr (ra := (rOb (cTup (wC rStr (w1 rStr))))) ((fun _ hz => ev_inl (rb := (rOb (cTup (w1 rStr)))) ((fun _ hz => hz) _ hz)) _ hz)) (ev_get (ev_var rfl) hg13)) h kr)
        · have h := iteO_f hc h
          refine nx_next ?_
          try dsimp only
          exact (sq_ret (ev_inr (ra := (rOb (cTup (wC rStr (w1 rStr))))) (ev_inr (ra := (rOb (cTup (wC rStr (wC rStr (w1 (rOb (cTpl rInt)))))))) (ev_new (ec_tup (ew_1 ev_str))))) h kr)
      · refine nxe_sum h (fun e14 h => ?_) (fun e15 h => ?_)
        · refine nxe_noY (C := a.C_NoTable) erC_c T.e_NoTable_DuplicateTable ?_
          refine nxe_asN T.e_NoTable_NoTable (fun p16 d17 => ⟨_, fun oe pn hz hf => (pss_cons (ps_set (i := 2) sc_l_made.nd rfl (by first | exact Or.inl rfl | exact Or.inr rfl) (pe_tup (pa_cons pe_str (pa_cons (pe_xf T.xf_NoTable T.na_NoTable_name hz.zc hf (pv 4)) pa_nil)))) pss_nil), ?_⟩)
          show Nx _ _ [.imm (rOb (cLst (r_Table P w a))) tables_here0, .imm (rDicF P w kyStr (rOb (cLst (rOb (cTpl rInt))))) handed0, .imm (rOpt (rAlt (rOb (cTup (wC rStr (w1 rStr)))) (rOb (cTup (wC rStr (wC rStr (w1 (rOb (cTpl rInt))))))))) caught1, .no, .imm (rExc p16 d17 a.C_NoTable [("name" : Str)] (w1 rStr)) e14]
          obtain ⟨caught18, hcaught18, h⟩ := letO_some h
          refine (sq_asg (ev_to (ev_some (nn_alt nn_ob nn_ob) (ev_inl (rb := (rOb (cTup (wC rStr (wC rStr (w1 (rOb (cTpl rInt)))))))) (ev_new (ec_tup (ew_C ev_str (ew_1 (ev_xf (ev_var rfl) (acc1) rfl))))))) hcaught18.symm) ?_)
          show Nx _ _ [.imm (rOb (cLst (r_Table P w a))) tables_here0, .imm (rDicF P w kyStr (rOb (cLst (rOb (cTpl rInt))))) handed0, .imm (rOpt (rAlt (rOb (cTup (wC rStr (w1 rStr)))) (rOb (cTup (wC rStr (wC rStr (w1 (rOb (cTpl rInt))))))))) caught18, .no, .imm (rExc p16 d17 a.C_NoTable [("name" : Str)] (w1 rStr)) e14]
          refine nx_next ?_
          refine nx_unsetE ?_
          show Nx _ _ [.imm (rOb (cLst (r_Table P w a))) tables_here0, .imm (rDicF P w kyStr (rOb (cLst (rOb (cTpl rInt))))) handed0, .imm (rOpt (rAlt (rOb (cTup (wC rStr (w1 rStr)))) (rOb (cTup (wC rStr (wC rStr (w1 (rOb (cTpl rInt))))))))) caught18, .no, .no]
          obtain ⟨c19, hc19, h⟩ := letO_some h
          refine (sq_if (et_to (et_B (ev_notN (ev_var rfl))) hc19.symm) (fun hc => ?_) (fun hc => ?_))
          · have h := iteO_t hc h
            obtain ⟨g20, hg20, h⟩ := bindO_some h
            exact (sq_ret (ev_altW (f := (fun (z : (Str × Str)) => (.inl ((fun (z : (Str × Str)) => z) z) : ((Str × Str) ⊕ ((Str × Str × (List Int)) ⊕ Str))))) (g := (fun (z : (Str × Str × (List Int))) => (.inr ((fun (z : (Str × Str × (List Int))) => (.inl ((fun (z : (Str × Str × (List Int))) => z) z) : ((Str × Str × (List Int)) ⊕ Str))) z) : ((Str × Str) ⊕ ((Str × Str × (List Int)) ⊕ Str))))) (fun _ hz => ev_inl (rb := (rAlt (rOb (cTup (wC rStr (wC rStr (w1 (rOb (cTpl rInt))))))) (rOb (cTup (w1 rStr))))) ((fun _ hz => hz) _ hz)) (fun _ hz => ev_inr (ra := (rOb (cTup (wC rStr (w1 rStr))))) ((fun _ hz => ev_inl (rb := (rOb (cTup (w1 rStr)))) ((fun _ hz => hz) _ hz)) _ hz)) (ev_get (ev_var rfl) hg20)) h kr)
          · have h := iteO_f hc h
            refine nx_next ?_
            try dsimp only
            exact (sq_ret (ev_inr (ra := (rOb (cTup (wC rStr (w1 rStr))))) (ev_inr (ra := (rOb (cTup (wC rStr (wC rStr (w1 (rOb (cTpl rInt)))))))) (ev_new (ec_tup (ew_1 ev_str))))) h kr)
        · refine nxe_sum h (fun e21 h => ?_) (fun e22 h => ?_)
          · refine nxe_noY (C := a.C_InvalidRow) erC_c T.e_InvalidRow_DuplicateTable ?_
            refine nxe_noY (C := a.C_InvalidRow) erC_c T.e_InvalidRow_NoTable ?_
            refine nxe_asN T.e_InvalidRow_InvalidRow (fun p23 d24 => ⟨_, fun oe pn hz hf => (pss_cons (ps_set (i := 2) sc_l_made.nd rfl (by first | exact Or.inl rfl | exact Or.inr rfl) (pe_tup (pa_cons pe_str (pa_cons (pe_xf T.xf_InvalidRow T.na_InvalidRow_name hz.zc hf (pv 4)) (pa_cons (pe_xf T.xf_InvalidRow T.na_InvalidRow_row hz.zc hf (pv 4)) pa_nil))))) pss_nil), ?_⟩)
            show Nx _ _ [.imm (rOb (cLst (r_Table P w a))) tables_here0, .imm (rDicF P w kyStr (rOb (cLst (rOb (cTpl rInt))))) handed0, .imm (rOpt (rAlt (rOb (cTup (wC rStr (w1 rStr)))) (rOb (cTup (wC rStr (wC rStr (w1 (rOb (cTpl rInt))))))))) caught1, .no, .imm (rExc p23 d24 a.C_InvalidRow [("name" : Str), ("row" : Str)] (wC rStr (w1 (rOb (cTpl rInt))))) e21]
            obtain ⟨caught25, hcaught25, h⟩ := letO_some h
            refine (sq_asg (ev_to (ev_some (nn_alt nn_ob nn_ob) (ev_inr (ra := (rOb (cTup (wC rStr (w1 rStr))))) (ev_new (ec_tup (ew_C ev_str (ew_C (ev_xf (ev_var rfl) (acc0) rfl) (ew_1 (ev_xf (ev_var rfl) (accS (acc1)) rfl)))))))) hcaught25.symm) ?_)
            show Nx _ _ [.imm (rOb (cLst (r_Table P w a))) tables_here0, .imm (rDicF P w kyStr (rOb (cLst (rOb (cTpl rInt))))) handed0, .imm (rOpt (rAlt (rOb (cTup (wC rStr (w1 rStr)))) (rOb (cTup (wC rStr (wC rStr (w1 (rOb (cTpl rInt))))))))) caught25, .no, .imm (rExc p23 d24 a.C_InvalidRow [("name" : Str), ("row" : Str)] (wC rStr (w1 (rOb (cTpl rInt))))) e21]
            refine nx_next ?_
            refine nx_unsetE ?_
            show Nx _ _ [.imm (rOb (cLst (r_Table P w a))) tables_here0, .imm (rDicF P w kyStr (rOb (cLst (rOb (cTpl rInt))))) handed0, .imm (rOpt (rAlt (rOb (cTup (wC rStr (w1 rStr)))) (rOb (cTup (wC rStr (wC rStr (w1 (rOb (cTpl rInt))))))))) caught25, .no, .no]
            obtain ⟨c26, hc26, h⟩ := letO_some h
            refine (sq_if (et_to (et_B (ev_notN (ev_var rfl))) hc26.symm) (fun hc => ?_) (fun hc => ?_))
            · have h := iteO_t hc h
              obtain ⟨g27, hg27, h⟩ := bindO_some h
              exact (sq_ret (ev_altW (f := (fun (z : (Str × Str)) => (.inl ((fun (z : (Str × Str)) => z) z) : ((Str × Str) ⊕ ((Str × Str × (List Int)) ⊕ Str))))) (g := (fun (z : (Str × Str × (List Int))) => (.inr ((fun (z : (Str × Str × (List Int))) => (.inl ((fun (z : (Str × Str × (List Int))) => z) z) : ((Str × Str × (List Int)) ⊕ Str))) z) : ((Str × Str) ⊕ ((Str × Str × (List Int)) ⊕ Str))))) (fun _ hz => ev_inl (rb := (rAlt (rOb (cTup (wC rStr (wC rStr (w1 (rOb (cTpl rInt))))))) (rOb (cTup (w1 rStr))))) ((fun _ hz => hz) _ hz)) (fun _ hz => ev_inr (ra := (rOb (cTup (wC rStr (w1 rStr))))) ((fun _ hz => ev_inl (rb := (rOb (cTup (w1 rStr)))) ((fun _ hz => hz) _ hz)) _ hz)) (ev_get (ev_var rfl) hg27)) h kr)
            · have h := iteO_f hc h
              refine nx_next ?_
              try dsimp only
              exact (sq_ret (ev_inr (ra := (rOb (cTup (wC rStr (w1 rStr))))) (ev_inr (ra := (rOb (cTup (wC rStr (wC rStr (w1 (rOb (cTpl rInt)))))))) (ev_new (ec_tup (ew_1 ev_str))))) h kr)
          · refine nxe_noY (C := a.C_DuplicateKey) erC_c T.e_DuplicateKey_DuplicateTable ?_
            refine nxe_noY (C := a.C_DuplicateKey) erC_c T.e_DuplicateKey_NoTable ?_
            refine nxe_noY (C := a.C_DuplicateKey) erC_c T.e_DuplicateKey_InvalidRow ?_
            refine nxe_asN T.e_DuplicateKey_DuplicateKey (fun p28 d29 => ⟨_, fun oe pn hz hf => (pss_cons (ps_set (i := 2) sc_l_made.nd rfl (by first | exact Or.inl rfl | exact Or.inr rfl) (pe_tup (pa_cons pe_str (pa_cons (pe_xf T.xf_DuplicateKey T.na_DuplicateKey_name hz.zc hf (pv 4)) (pa_cons (pe_xf T.xf_DuplicateKey T.na_DuplicateKey_key hz.zc hf (pv 4)) pa_nil))))) pss_nil), ?_⟩)
            show Nx _ _ [.imm (rOb (cLst (r_Table P w a))) tables_here0, .imm (rDicF P w kyStr (rOb (cLst (rOb (cTpl rInt))))) handed0, .imm (rOpt (rAlt (rOb (cTup (wC rStr (w1 rStr)))) (rOb (cTup (wC rStr (wC rStr (w1 (rOb (cTpl rInt))))))))) caught1, .no, .imm (rExc p28 d29 a.C_DuplicateKey [("name" : Str), ("key" : Str)] (wC rStr (w1 (rOb (cTpl rInt))))) e22]
            obtain ⟨caught30, hcaught30, h⟩ := letO_some h
            refine (sq_asg (ev_to (ev_some (nn_alt nn_ob nn_ob) (ev_inr (ra := (rOb (cTup (wC rStr (w1 rStr))))) (ev_new (ec_tup (ew_C ev_str (ew_C (ev_xf (ev_var rfl) (acc0) rfl) (ew_1 (ev_xf (ev_var rfl) (accS (acc1)) rfl)))))))) hcaught30.symm) ?_)
            show Nx _ _ [.imm (rOb (cLst (r_Table P w a))) tables_here0, .imm (rDicF P w kyStr (rOb (cLst (rOb (cTpl rInt))))) handed0, .imm (rOpt (rAlt (rOb (cTup (wC rStr (w1 rStr)))) (rOb (cTup (wC rStr (wC rStr (w1 (rOb (cTpl rInt))))))))) caught30, .no, .imm (rExc p28 d29 a.C_DuplicateKey [("name" : Str), ("key" : Str)] (wC rStr (w1 (rOb (cTpl rInt))))) e22]
            refine nx_next ?_
            refine nx_unsetE ?_
            show Nx _ _ [.imm (rOb (cLst (r_Table P w a))) tables_here0, .imm (rDicF P w kyStr (rOb (cLst (rOb (cTpl rInt))))) handed0, .imm (rOpt (rAlt (rOb (cTup (wC rStr (w1 rStr)))) (rOb (cTup (wC rStr (wC rStr (w1 (rOb (cTpl rInt))))))))) caught30, .no, .no]
            obtain ⟨c31, hc31, h⟩ := letO_some h
            refine (sq_if (et_to (et_B (ev_notN (ev_var rfl))) hc31.symm) (fun hc => ?_) (fun hc => ?_))
            · have h := iteO_t hc h
              obtain ⟨g32, hg32, h⟩ := bindO_some h
              exact (sq_ret (ev_altW (f := (fun (z : (Str × Str)) => (.inl ((fun (z : (Str × Str)) => z) z) : ((Str × Str) ⊕ ((Str × Str × (List Int)) ⊕ Str))))) (g := (fun (z : (Str × Str × (List Int))) => (.inr ((fun (z : (Str × Str × (List Int))) => (.inl ((fun (z : (Str × Str × (List Int))) => z) z) : ((Str × Str × (List Int)) ⊕ Str))) z) : ((Str × Str) ⊕ ((Str × Str × (List Int)) ⊕ Str))))) (fun _ hz => ev_inl (rb := (rAlt (rOb (cTup (wC rStr (wC rStr (w1 (rOb (cTpl rInt))))))) (rOb (cTup (w1 rStr))))) ((fun _ hz => hz) _ hz)) (fun _ hz => ev_inr (ra := (rOb (cTup (wC rStr (w1 rStr))))) ((fun _ hz => ev_inl (rb := (rOb (cTup (w1 rStr)))) ((fun _ hz => hz) _ hz)) _ hz)) (ev_get (ev_var rfl) hg32)) h kr)
            · have h := iteO_f hc h
              refine nx_next ?_
              try dsimp only
              exact (sq_ret (ev_inr (ra := (rOb (cTup (wC rStr (w1 rStr))))) (ev_inr (ra := (rOb (cTup (wC rStr (wC rStr (w1 (rOb (cTpl rInt)))))))) (ev_new (ec_tup (ew_1 ev_str))))) h kr)
theorem ok_l_base_caught (T : Txt K mg a) : FnOk P w K mg base CX0 9 a.f_l_base_caught a.d_l_base_caught ["_law_tables_here", "_law_handed", "_law_word"] (SpP (wC (rOb (cTpl (r_Table P w a))) (wC (rDicF P w kyStr (rOb (cLst (rOb (cTpl rInt))))) (w1 rStr))) rBool (fun x => m_l_base_caught x.1 x.2.1 x.2.2)) := by
  refine T.F_l_base_caught.ok sc_l_base_caught (fun vs H Q E h => ?_) (fun cdv A outer s H vs Q E hr h => ?_)
  · obtain ⟨B, x, b, z, sm, hw, h, kr⟩ := h
    rw [WLen.len hw]; rfl
  · obtain ⟨B, ⟨tables_here0, handed0, word0⟩, b, z, sm, hw, h, kr⟩ := h
    have h : m_l_base_caught tables_here0 handed0 word0 = some b := h
    refine ⟨_, (pss_cons (ps_set (i := 3) sc_l_base_caught.nd rfl (by first | exact Or.inl rfl | exact Or.inr rfl) pe_non) (pss_cons (ps_tryYn rfl rfl sc_l_base_caught.nd takes0N (.cons (i := 4) rfl rfl ⟨rfl, by decide, Or.inl T.g_ShownError⟩ .nil)) (pss_cons (ps_if (pt_cmp (pc_notN (pv 3))) (pss_cons (ps_ret (pv 3)) pss_nil) pss_nil) (pss_cons (ps_ret (pe_cmpR op_eq (pv 2) pe_str (nomark _))) pss_nil)))), ?_⟩
    refine nx_go (frm_start (N := N_l_base_caught) (n := 5) z sm hw (by rw [WLen.len hw]; rfl)) ?_
    show Nx _ _ [.imm (rOb (cTpl (r_Table P w a))) tables_here0, .imm (rDicF P w kyStr (rOb (cLst (rOb (cTpl rInt))))) handed0, .imm rStr word0, .no, .no, .no, .no, .no]
    unfold m_l_base_caught at h
    obtain ⟨caught1, hcaught1, h⟩ := letO_some h
    refine (sq_asg (ev_to (ev_none (r := rBool)) hcaught1.symm) ?_)
    show Nx _ _ [.imm (rOb (cTpl (r_Table P w a))) tables_here0, .imm (rDicF P w kyStr (rOb (cLst (rOb (cTpl rInt))))) handed0, .imm rStr word0, .imm (rOpt rBool) caught1, .no, .no, .no, .no]
    refine sq_tryN (fun pn xe tk po => (pss_cons (ps_expr (pe_makeS T.M_Store (ok_Store___init___Vt (P := P) (w := w) (base := base) T) (hr.mono (Nat.le_of_ble_eq_true rfl)) rfl T.g_Store (binds_nil T.n_Store___init_1 T.v_Store___init_1) (fun σ => L2N.passAt tk σ) (pa_cons (pv 0) (pa_cons (pv 1) pa_nil)))) pss_nil)) ?_
    show Nx _ _ [.imm (rOb (cTpl (r_Table P w a))) tables_here0, .imm (rDicF P w kyStr (rOb (cLst (rOb (cTpl rInt))))) handed0, .imm rStr word0, .imm (rOpt rBool) caught1, .no, .no, .no, .no]
    obtain ⟨r2, hr2, h⟩ := bindO_some h
    refine (xdMake (fun s h => erS_mono (R1 := (erC a.C_DuplicateTable [("name" : Str)] (w1 rStr))) (R2 := (erS (erC a.C_NoTable [("name" : Str)] (w1 rStr)) (erS (erC a.C_InvalidRow [("name" : Str), ("row" : Str)] (wC rStr (w1 (rOb (cTpl rInt))))) (erC a.C_DuplicateKey [("name" : Str), ("key" : Str)] (wC rStr (w1 (rOb (cTpl rInt)))))))) (fun s h => erC_mono s h) (fun s h => erS_mono (R1 := (erC a.C_NoTable [("name" : Str)] (w1 rStr))) (R2 := (erS (erC a.C_InvalidRow [("name" : Str), ("row" : Str)] (wC rStr (w1 (rOb (cTpl rInt))))) (erC a.C_DuplicateKey [("name" : Str), ("key" : Str)] (wC rStr (w1 (rOb (cTpl rInt))))))) (fun s h => erC_mono s h) (fun s h => erS_mono (R1 := (erC a.C_InvalidRow [("name" : Str), ("row" : Str)] (wC rStr (w1 (rOb (cTpl rInt)))))) (R2 := (erC a.C_DuplicateKey [("name" : Str), ("key" : Str)] (wC rStr (w1 (rOb (cTpl rInt)))))) (fun s h => erC_mono s h) (fun s h => erC_mono s h) s h) s h) s h) (ew_C (ev_var rfl) (ew_1 (ev_var rfl))) hr2 h (fun y3 h => ?_) (fun e4 h => ?_))
    · show Nx _ _ [.imm (rOb (cTpl (r_Table P w a))) tables_here0, .imm (rDicF P w kyStr (rOb (cLst (rOb (cTpl rInt))))) handed0, .imm rStr word0, .imm (rOpt rBool) caught1, .no, .no, .no, .no]
      refine nx_next ?_
      show Nx _ _ [.imm (rOb (cTpl (r_Table P w a))) tables_here0, .imm (rDicF P w kyStr (rOb (cLst (rOb (cTpl rInt))))) handed0, .imm rStr word0, .imm (rOpt rBool) caught1, .no, .no, .no, .no]
      obtain ⟨c5, hc5, h⟩ := letO_some h
      refine (sq_if (et_to (et_B (ev_notN (ev_var rfl))) hc5.symm) (fun hc => ?_) (fun hc => ?_))
      · have h := iteO_t hc h
        obtain ⟨g6, hg6, h⟩ := bindO_some h
        exact (sq_ret (ev_get (ev_var rfl) hg6) h kr)
      · have h := iteO_f hc h
        refine nx_next ?_
        try dsimp only
        exact (sq_ret (ev_eqS scStr (ev_var rfl) ev_str rfl) h kr)
    · refine nxe_sum h (fun e7 h => ?_) (fun e8 h => ?_)
      · refine nxe_asN T.e_DuplicateTable_ShownError (fun p9 d10 => ⟨_, fun oe pn hz hf => (pss_cons (ps_set (i := 5) sc_l_base_caught.nd rfl (by first | exact Or.inl rfl | exact Or.inr rfl) (pe_lst (pa_cons (pe_callB (call_isX (K := K) rfl T.xc_DuplicateTable hz.zc hf) (by rfl) T.b_isinstance (by decide +kernel) (pa_cons (pv 4) (pa_cons (pe_glob (v := .ref a.C_DuplicateTable) (by rfl) T.g_DuplicateTable rfl) pa_nil))) (pa_cons (pe_callB (call_isX (K := K) rfl T.xc_DuplicateTable hz.zc hf) (by rfl) T.b_isinstance (by decide +kernel) (pa_cons (pv 4) (pa_cons (pe_glob (v := .ref a.C_NoTable) (by rfl) T.g_NoTable rfl) pa_nil))) (pa_cons (pe_callB (call_isX (K := K) rfl T.xc_DuplicateTable hz.zc hf) (by rfl) T.b_isinstance (by decide +kernel) (pa_cons (pv 4) (pa_cons (pe_glob (v := .ref a.C_InvalidRow) (by rfl) T.g_InvalidRow rfl) pa_nil))) pa_nil))))) (pss_cons (ps_set (i := 5) sc_l_base_caught.nd rfl (by first | exact Or.inl rfl | exact Or.inr rfl) (pe_op op_cat (pv 5) (pe_lst (pa_cons (pe_callB (call_isX (K := K) rfl T.xc_DuplicateTable hz.zc hf) (by rfl) T.b_isinstance (by decide +kernel) (pa_cons (pv 4) (pa_cons (pe_glob (v := .ref a.C_DuplicateKey) (by rfl) T.g_DuplicateKey rfl) pa_nil))) (pa_cons (pe_callB (call_isX (K := K) rfl T.xc_DuplicateTable hz.zc hf) (by rfl) T.b_isinstance (by decide +kernel) (pa_cons (pv 4) (pa_cons (pe_glob (v := .ref a.C_Unlike) (by rfl) T.g_Unlike rfl) pa_nil))) pa_nil))))) (pss_cons (ps_set (i := 6) sc_l_base_caught.nd rfl (by first | exact Or.inl rfl | exact Or.inr rfl) (pe_lst (pa_cons pe_str (pa_cons pe_str (pa_cons pe_str (pa_cons pe_str (pa_cons pe_str pa_nil))))))) (pss_cons (ps_set (i := 3) sc_l_base_caught.nd rfl (by first | exact Or.inl rfl | exact Or.inr rfl) (pe_and (pe_callB (call_isX (K := K) rfl T.xc_DuplicateTable hz.zc hf) (by rfl) T.b_isinstance (by decide +kernel) (pa_cons (pv 4) (pa_cons (pe_bltn (v := .ty "ValueError") (by rfl) T.b_ValueError (by decide +kernel) rfl) pa_nil))) (pe_one (pe_cmpR (eqDK (K := K) rfl hr.units) (pv 5) (QN.pe_lcH (own := [("_law_name", 7)]) sc_l_base_caught.nd (pi_listZK (K := K) rfl (pv 6)) (blkOk_by (N := N_l_base_caught) (sc := defScope s_l_base_caught) (by decide +kernel)) (fun _ _ _ _ _ => (pg_name (i := 7) sc_l_base_caught.nd rfl (by first | exact Or.inl rfl | exact Or.inr rfl))) (fun _ _ _ _ _ => pts_nil) (fun _ _ _ _ _ => (pe_cmpR op_eq (pv 7) (pv 2) (nomark _))) (hotS hz hf)) (nomark _))))) pss_nil)))), ?_⟩)
        show Nx _ _ [.imm (rOb (cTpl (r_Table P w a))) tables_here0, .imm (rDicF P w kyStr (rOb (cLst (rOb (cTpl rInt))))) handed0, .imm rStr word0, .imm (rOpt rBool) caught1, .imm (rExc p9 d10 a.C_DuplicateTable [("name" : Str)] (w1 rStr)) e7, .no, .no, .no]
        obtain ⟨classes11, hclasses11, h⟩ := letO_some h
        refine (sq_asg (ev_to (ev_new (ec_lst (eh_C (ev_isX (ev_var rfl) (.own _) T.q_DuplicateTable_DuplicateTable) (eh_C (ev_isX (ev_var rfl) (.own _) T.q_DuplicateTable_NoTable) (eh_C (ev_isX (ev_var rfl) (.own _) T.q_DuplicateTable_InvalidRow) eh_0))) (Nat.le_of_ble_eq_true rfl))) hclasses11.symm) ?_)
        show Nx _ _ [.imm (rOb (cTpl (r_Table P w a))) tables_here0, .imm (rDicF P w kyStr (rOb (cLst (rOb (cTpl rInt))))) handed0, .imm rStr word0, .imm (rOpt rBool) caught1, .imm (rExc p9 d10 a.C_DuplicateTable [("name" : Str)] (w1 rStr)) e7, .imm (rOb (cLst rBool)) classes11, .no, .no]
        obtain ⟨l12, hl12, h⟩ := bindO_some h
        obtain ⟨classes13, hclasses13, h⟩ := letO_some h
        refine (sq_asg (ev_to (ev_new (ec_cat (ev_var rfl) (ev_new (ec_lst (eh_C (ev_isX (ev_var rfl) (.own _) T.q_DuplicateTable_DuplicateKey) (eh_C (ev_isX (ev_var rfl) (.own _) T.q_DuplicateTable_Unlike) eh_0)) (Nat.le_of_ble_eq_true rfl))) hl12)) hclasses13.symm) ?_)
        show Nx _ _ [.imm (rOb (cTpl (r_Table P w a))) tables_here0, .imm (rDicF P w kyStr (rOb (cLst (rOb (cTpl rInt))))) handed0, .imm rStr word0, .imm (rOpt rBool) caught1, .imm (rExc p9 d10 a.C_DuplicateTable [("name" : Str)] (w1 rStr)) e7, .imm (rOb (cLst rBool)) classes13, .no, .no]
        obtain ⟨names14, hnames14, h⟩ := letO_some h
        refine (sq_asg (ev_to (ev_new (ec_lst (eh_C ev_str (eh_C ev_str (eh_C ev_str (eh_C ev_str (eh_C ev_str eh_0))))) (Nat.le_of_ble_eq_true rfl))) hnames14.symm) ?_)
        show Nx _ _ [.imm (rOb (cTpl (r_Table P w a))) tables_here0, .imm (rDicF P w kyStr (rOb (cLst (rOb (cTpl rInt))))) handed0, .imm rStr word0, .imm (rOpt rBool) caught1, .imm (rExc p9 d10 a.C_DuplicateTable [("name" : Str)] (w1 rStr)) e7, .imm (rOb (cLst rBool)) classes13, .imm (rOb (cLst rStr)) names14, .no]
        obtain ⟨c19, hc19, h⟩ := letO_some h
        obtain ⟨b18, hb18, h⟩ := bindO_some h
        obtain ⟨caught20, hcaught20, h⟩ := letO_some h
        refine (sq_asg (ev_to (ev_some nn_bool (ev_and (ev_to (ev_isX (ev_var rfl) (.ty _) T.q_DuplicateTable_ValueError) hc19.symm) (fun hc => by have hx := iteO_t hc hb18; obtain ⟨l16, hl16, hx⟩ := bindO_some hx; obtain ⟨q17, hq17, hx⟩ := bindO_some hx; exact ev_to (ev_eqD (da_lst da_bool) (da_lst da_bool) (ev_var rfl) (ev_new (ec_lc (m_l_base_caught_c1 word0) (it_list (ev_var rfl)) hl16 tg_name (fun k hk => hk) (by rfl) (fun _ => by rfl) (fun name15 o ho => by unfold m_l_base_caught_c1 at ho; cases ho; exact ⟨et_yes, fun y hy => by cases hy; exact ev_to (ev_eqS scStr (ev_var rfl) (ev_var rfl) rfl) rfl⟩))) hq17) (Option.some.inj hx)) (fun hc => ⟨(Option.some.inj (iteO_f hc hb18)).symm, rfl⟩))) hcaught20.symm) ?_)
        show Nx _ _ [.imm (rOb (cTpl (r_Table P w a))) tables_here0, .imm (rDicF P w kyStr (rOb (cLst (rOb (cTpl rInt))))) handed0, .imm rStr word0, .imm (rOpt rBool) caught20, .imm (rExc p9 d10 a.C_DuplicateTable [("name" : Str)] (w1 rStr)) e7, .imm (rOb (cLst rBool)) classes13, .imm (rOb (cLst rStr)) names14, .no]
        refine nx_next ?_
        refine nx_unsetE ?_
        show Nx _ _ [.imm (rOb (cTpl (r_Table P w a))) tables_here0, .imm (rDicF P w kyStr (rOb (cLst (rOb (cTpl rInt))))) handed0, .imm rStr word0, .imm (rOpt rBool) caught20, .no, .imm (rOb (cLst rBool)) classes13, .imm (rOb (cLst rStr)) names14, .no]
        obtain ⟨c21, hc21, h⟩ := letO_some h
        refine (sq_if (et_to (et_B (ev_notN (ev_var rfl))) hc21.symm) (fun hc => ?_) (fun hc => ?_))
        · have h := iteO_t hc h
          obtain ⟨g22, hg22, h⟩ := bindO_some h
          exact (sq_ret (ev_get (ev_var rfl) hg22) h kr)
        · have h := iteO_f hc h
          refine nx_next ?_
          try dsimp only
          exact (sq_ret (ev_eqS scStr (ev_var rfl) ev_str rfl) h kr)
      · refine nxe_sum h (fun e23 h => ?_) (fun e24 h => ?_)
        · refine nxe_asN T.e_NoTable_ShownError (fun p25 d26 => ⟨_, fun oe pn hz hf => (pss_cons (ps_set (i := 5) sc_l_base_caught.nd rfl (by first | exact Or.inl rfl | exact Or.inr rfl) (pe_lst (pa_cons (pe_callB (call_isX (K := K) rfl T.xc_NoTable hz.zc hf) (by rfl) T.b_isinstance (by decide +kernel) (pa_cons (pv 4) (pa_cons (pe_glob (v := .ref a.C_DuplicateTable) (by rfl) T.g_DuplicateTable rfl) pa_nil))) (pa_cons (pe_callB (call_isX (K := K) rfl T.xc_NoTable hz.zc hf) (by rfl) T.b_isinstance (by decide +kernel) (pa_cons (pv 4) (pa_cons (pe_glob (v := .ref a.C_NoTable) (by rfl) T.g_NoTable rfl) pa_nil))) (pa_cons (pe_callB (call_isX (K := K) rfl T.xc_NoTable hz.zc hf) (by rfl) T.b_isinstance (by decide +kernel) (pa_cons (pv 4) (pa_cons (pe_glob (v := .ref a.C_InvalidRow) (by rfl) T.g_InvalidRow rfl) pa_nil))) pa_nil))))) (pss_cons (ps_set (i := 5) sc_l_base_caught.nd rfl (by first | exact Or.inl rfl | exact Or.inr rfl) (pe_op op_cat (pv 5) (pe_lst (pa_cons (pe_callB (call_isX (K := K) rfl T.xc_NoTable hz.zc hf) (by rfl) T.b_isinstance (by decide +kernel) (pa_cons (pv 4) (pa_cons (pe_glob (v := .ref a.C_DuplicateKey) (by rfl) T.g_DuplicateKey rfl) pa_nil))) (pa_cons (pe_callB (call_isX (K := K) rfl T.xc_NoTable hz.zc hf) (by rfl) T.b_isinstance (by decide +kernel) (pa_cons (pv 4) (pa_cons (pe_glob (v := .ref a.C_Unlike) (by rfl) T.g_Unlike rfl) pa_nil))) pa_nil))))) (pss_cons (ps_set (i := 6) sc_l_base_caught.nd rfl (by first | exact Or.inl rfl | exact Or.inr rfl) (pe_lst (pa_cons pe_str (pa_cons pe_str (pa_cons pe_str (pa_cons pe_str (pa_cons pe_str pa_nil))))))) (pss_cons (ps_set (i := 3) sc_l_base_caught.nd rfl (by first | exact Or.inl rfl | exact Or.inr rfl) (pe_and (pe_callB (call_isX (K := K) rfl T.xc_NoTable hz.zc hf) (by rfl) T.b_isinstance (by decide +kernel) (pa_cons (pv 4) (pa_cons (pe_bltn (v := .ty "ValueError") (by rfl) T.b_ValueError (by decide +kernel) rfl) pa_nil))) (pe_one (pe_cmpR (eqDK (K := K) rfl hr.units) (pv 5) (QN.pe_lcH (own := [("_law_name", 7)]) sc_l_base_caught.nd (pi_listZK (K := K) rfl (pv 6)) (blkOk_by (N := N_l_base_caught) (sc := defScope s_l_base_caught) (by decide +kernel)) (fun _ _ _ _ _ => (pg_name (i := 7) sc_l_base_caught.nd rfl (by first | exact Or.inl rfl | exact Or.inr rfl))) (fun _ _ _ _ _ => pts_nil) (fun _ _ _ _ _ => (pe_cmpR op_eq (pv 7) (pv 2) (nomark _))) (hotS hz hf)) (nomark _))))) pss_nil)))), ?_⟩)
          show Nx _ _ [.imm (rOb (cTpl (r_Table P w a))) tables_here0, .imm (rDicF P w kyStr (rOb (cLst (rOb (cTpl rInt))))) handed0, .imm rStr word0, .imm (rOpt rBool) caught1, .imm (rExc p25 d26 a.C_NoTable [("name" : Str)] (w1 rStr)) e23, .no, .no, .no]
          obtain ⟨classes27, hclasses27, h⟩ := letO_some h
          refine (sq_asg (ev_to (ev_new (ec_lst (eh_C (ev_isX (ev_var rfl) (.own _) T.q_NoTable_DuplicateTable) (eh_C (ev_isX (ev_var rfl) (.own _) T.q_NoTable_NoTable) (eh_C (ev_isX (ev_var rfl) (.own _) T.q_NoTable_InvalidRow) eh_0))) (Nat.le_of_ble_eq_true rfl))) hclasses27.symm) ?_)
          show Nx _ _ [.imm (rOb (cTpl (r_Table P w a))) tables_here0, .imm (rDicF P w kyStr (rOb (cLst (rOb (cTpl rInt))))) handed0, .imm rStr word0, .imm (rOpt rBool) caught1, .imm (rExc p25 d26 a.C_NoTable [("name" : Str)] (w1 rStr)) e23, .imm (rOb (cLst rBool)) classes27, .no, .no]
          obtain ⟨l28, hl28, h⟩ := bindO_some h
          obtain ⟨classes29, hclasses29, h⟩ := letO_some h
          refine (sq_asg (ev_to (ev_new (ec_cat (ev_var rfl) (ev_new (ec_lst (eh_C (ev_isX (ev_var rfl) (.own _) T.q_NoTable_DuplicateKey) (eh_C (ev_isX (ev_var rfl) (.own _) T.q_NoTable_Unlike) eh_0)) (Nat.le_of_ble_eq_true rfl))) hl28)) hclasses29.symm) ?_)
          show Nx _ _ [.imm (rOb (cTpl (r_Table P w a))) tables_here0, .imm (rDicF P w kyStr (rOb (cLst (rOb (cTpl rInt))))) handed0, .imm rStr word0, .imm (rOpt rBool) caught1, .imm (rExc p25 d26 a.C_NoTable [("name" : Str)] (w1 rStr)) e23, .imm (rOb (cLst rBool)) classes29, .no, .no]
          obtain ⟨names30, hnames30, h⟩ := letO_some h
          refine (sq_asg (ev_to (ev_new (ec_lst (eh_C ev_str (eh_C ev_str (eh_C ev_str (eh_C ev_str (eh_C ev_str eh_0))))) (Nat.le_of_ble_eq_true rfl))) hnames30.symm) ?_)
          show Nx _ _ [.imm (rOb (cTpl (r_Table P w a))) tables_here0, .imm (rDicF P w kyStr (rOb (cLst (rOb (cTpl rInt))))) handed0, .imm rStr word0, .imm (rOpt rBool) caught1, .imm (rExc p25 d26 a.C_NoTable [("name" : Str)] (w1 rStr)) e23, .imm (rOb (cLst rBool)) classes29, .imm (rOb (cLst rStr)) names30, .no]
          obtain ⟨c35, hc35, h⟩ := letO_some h
          obtain ⟨b34, hb34, h⟩ := bindO_some h
          obtain ⟨caught36, hcaught36, h⟩ := letO_some h
          refine (sq_asg (ev_to (ev_some nn_bool (ev_and (ev_to (ev_isX (ev_var rfl) (.ty _) T.q_NoTable_ValueError) hc35.symm) (fun hc => by have hx := iteO_t hc hb34; obtain ⟨l32, hl32, hx⟩ := bindO_some hx; obtain ⟨q33, hq33, hx⟩ := bindO_some hx; exact ev_to (ev_eqD (da_lst da_bool) (da_lst da_bool) (ev_var rfl) (ev_new (ec_lc (m_l_base_caught_c2 word0) (it_list (ev_var rfl)) hl32 tg_name (fun k hk => hk) (by rfl) (fun _ => by rfl) (fun name31 o ho => by unfold m_l_base_caught_c2 at ho; cases ho; exact ⟨et_yes, fun y hy => by cases hy; exact ev_to (ev_eqS scStr (ev_var rfl) (ev_var rfl) rfl) rfl⟩))) hq33) (Option.some.inj hx)) (fun hc => ⟨(Option.some.inj (iteO_f hc hb34)).symm, rfl⟩))) hcaught36.symm) ?_)
          show Nx _ _ [.imm (rOb (cTpl (r_Table P w a))) tables_here0, .imm (rDicF P w kyStr (rOb (cLst (rOb (cTpl rInt))))) handed0, .imm rStr word0, .imm (rOpt rBool) caught36, .imm (rExc p25 d26 a.C_NoTable [("name" : Str)] (w1 rStr)) e23, .imm (rOb (cLst rBool)) classes29, .imm (rOb (cLst rStr)) names30, .no]
          refine nx_next ?_
          refine nx_unsetE ?_
          show Nx _ _ [.imm (rOb (cTpl (r_Table P w a))) tables_here0, .imm (rDicF P w kyStr (rOb (cLst (rOb (cTpl rInt))))) handed0, .imm rStr word0, .imm (rOpt rBool) caught36, .no, .imm (rOb (cLst rBool)) classes29, .imm (rOb (cLst rStr)) names30, .no]
          obtain ⟨c37, hc37, h⟩ := letO_some h
          refine (sq_if (et_to (et_B (ev_notN (ev_var rfl))) hc37.symm) (fun hc => ?_) (fun hc => ?_))
          · have h := iteO_t hc h
            obtain ⟨g38, hg38, h⟩ := bindO_some h
            exact (sq_ret (ev_get (ev_var rfl) hg38) h kr)
          · have h := iteO_f hc h
            refine nx_next ?_
            try dsimp only
            exact (sq_ret (ev_eqS scStr (ev_var rfl) ev_str rfl) h kr)
        · refine nxe_sum h (fun e39 h => ?_) (fun e40 h => ?_)
          · refine nxe_asN T.e_InvalidRow_ShownError (fun p41 d42 => ⟨_, fun oe pn hz hf => (pss_cons (ps_set (i := 5) sc_l_base_caught.nd rfl (by first | exact Or.inl rfl | exact Or.inr rfl) (pe_lst (pa_cons (pe_callB (call_isX (K := K) rfl T.xc_InvalidRow hz.zc hf) (by rfl) T.b_isinstance (by decide +kernel) (pa_cons (pv 4) (pa_cons (pe_glob (v := .ref a.C_DuplicateTable) (by rfl) T.g_DuplicateTable rfl) pa_nil))) (pa_cons (pe_callB (call_isX (K := K) rfl T.xc_InvalidRow hz.zc hf) (by rfl) T.b_isinstance (by decide +kernel) (pa_cons (pv 4) (pa_cons (pe_glob (v := .ref a.C_NoTable) (by rfl) T.g_NoTable rfl) pa_nil))) (pa_cons (pe_callB (call_isX (K := K) rfl T.xc_InvalidRow hz.zc hf) (by rfl) T.b_isinstance (by decide +kernel) (pa_cons (pv 4) (pa_cons (pe_glob (v := .ref a.C_InvalidRow) (by rfl) T.g_InvalidRow rfl) pa_nil))) pa_nil))))) (pss_cons (ps_set (i := 5) sc_l_base_caught.nd rfl (by first | exact Or.inl rfl | exact Or.inr rfl) (pe_op op_cat (pv 5) (pe_lst (pa_cons (pe_callB (call_isX (K := K) rfl T.xc_InvalidRow hz.zc hf) (by rfl) T.b_isinstance (by decide +kernel) (pa_cons (pv 4) (pa_cons (pe_glob (v := .ref a.C_DuplicateKey) (by rfl) T.g_DuplicateKey rfl) pa_nil))) (pa_cons (pe_callB (call_isX (K := K) rfl T.xc_InvalidRow hz.zc hf) (by rfl) T.b_isinstance (by decide +kernel) (pa_cons (pv 4) (pa_cons (pe_glob (v := .ref a.C_Unlike) (by rfl) T.g_Unlike rfl) pa_nil))) pa_nil))))) (pss_cons (ps_set (i := 6) sc_l_base_caught.nd rfl (by first | exact Or.inl rfl | exact Or.inr rfl) (pe_lst (pa_cons pe_str (pa_cons pe_str (pa_cons pe_str (pa_cons pe_str (pa_cons pe_str pa_nil))))))) (pss_cons (ps_set (i := 3) sc_l_base_caught.nd rfl (by first | exact Or.inl rfl | exact Or.inr rfl) (pe_and (pe_callB (call_isX (K := K) rfl T.xc_InvalidRow hz.zc hf) (by rfl) T.b_isinstance (by decide +kernel) (pa_cons (pv 4) (pa_cons (pe_bltn (v := .ty "ValueError") (by rfl) T.b_ValueError (by decide +kernel) rfl) pa_nil))) (pe_one (pe_cmpR (eqDK (K := K) rfl hr.units) (pv 5) (QN.pe_lcH (own := [("_law_name", 7)]) sc_l_base_caught.nd (pi_listZK (K := K) rfl (pv 6)) (blkOk_by (N := N_l_base_caught) (sc := defScope s_l_base_caught) (by decide +kernel)) (fun _ _ _ _ _ => (pg_name (i := 7) sc_l_base_caught.nd rfl (by first | exact Or.inl rfl | exact Or.inr rfl))) (fun _ _ _ _ _ => pts_nil) (fun _ _ _ _ _ => (pe_cmpR op_eq (pv 7) (pv 2) (nomark _))) (hotS hz hf)) (nomark _))))) pss_nil)))), ?_⟩)
            show Nx _ _ [.imm (rOb (cTpl (r_Table P w a))) tables_here0, .imm (rDicF P w kyStr (rOb (cLst (rOb (cTpl rInt))))) handed0, .imm rStr word0, .imm (rOpt rBool) caught1, .imm (rExc p41 d42 a.C_InvalidRow [("name" : Str), ("row" : Str)] (wC rStr (w1 (rOb (cTpl rInt))))) e39, .no, .no, .no]
            obtain ⟨classes43, hclasses43, h⟩ := letO_some h
            refine (sq_asg (ev_to (ev_new (ec_lst (eh_C (ev_isX (ev_var rfl) (.own _) T.q_InvalidRow_DuplicateTable) (eh_C (ev_isX (ev_var rfl) (.own _) T.q_InvalidRow_NoTable) (eh_C (ev_isX (ev_var rfl) (.own _) T.q_InvalidRow_InvalidRow) eh_0))) (Nat.le_of_ble_eq_true rfl))) hclasses43.symm) ?_)
            show Nx _ _ [.imm (rOb (cTpl (r_Table P w a))) tables_here0, .imm (rDicF P w kyStr (rOb (cLst (rOb (cTpl rInt))))) handed0, .imm rStr word0, .imm (rOpt rBool) caught1, .imm (rExc p41 d42 a.C_InvalidRow [("name" : Str), ("row" : Str)] (wC rStr (w1 (rOb (cTpl rInt))))) e39, .imm (rOb (cLst rBool)) classes43, .no, .no]
            obtain ⟨l44, hl44, h⟩ := bindO_some h
            obtain ⟨classes45, hclasses45, h⟩ := letO_some h
            refine (sq_asg (ev_to (ev_new (ec_cat (ev_var rfl) (ev_new (ec_lst (eh_C (ev_isX (ev_var rfl) (.own _) T.q_InvalidRow_DuplicateKey) (eh_C (ev_isX (ev_var rfl) (.own _) T.q_InvalidRow_Unlike) eh_0)) (Nat.le_of_ble_eq_true rfl))) hl44)) hclasses45.symm) ?_)
            show Nx _ _ [.imm (rOb (cTpl (r_Table P w a))) tables_here0, .imm (rDicF P w kyStr (rOb (cLst (rOb (cTpl rInt))))) handed0, .imm rStr word0, .imm (rOpt rBool) caught1, .imm (rExc p41 d42 a.C_InvalidRow [("name" : Str), ("row" : Str)] (wC rStr (w1 (rOb (cTpl rInt))))) e39, .imm (rOb (cLst rBool)) classes45, .no, .no]
            obtain ⟨names46, hnames46, h⟩ := letO_some h
            refine (sq_asg (ev_to (ev_new (ec_lst (eh_C ev_str (eh_C ev_str (eh_C ev_str (eh_C ev_str (eh_C ev_str eh_0))))) (Nat.le_of_ble_eq_true rfl))) hnames46.symm) ?_)
            show Nx _ _ [.imm (rOb (cTpl (r_Table P w a))) tables_here0, .imm (rDicF P w kyStr (rOb (cLst (rOb (cTpl rInt))))) handed0, .imm rStr word0, .imm (rOpt rBool) caught1, .imm (rExc p41 d42 a.C_InvalidRow [("name" : Str), ("row" : Str)] (wC rStr (w1 (rOb (cTpl rInt))))) e39, .imm (rOb (cLst rBool)) classes45, .imm (rOb (cLst rStr)) names46, .no]
            obtain ⟨c51, hc51, h⟩ := letO_some h
            obtain ⟨b50, hb50, h⟩ := bindO_some h
            obtain ⟨caught52, hcaught52, h⟩ := letO_some h
            refine (sq_asg (ev_to (ev_some nn_bool (ev_and (ev_to (ev_isX (ev_var rfl) (.ty _) T.q_InvalidRow_ValueError) hc51.symm) (fun hc => by have hx := iteO_t hc hb50; obtain ⟨l48, hl48, hx⟩ := bindO_some hx; obtain ⟨q49, hq49, hx⟩ := bindO_some hx; exact ev_to (ev_eqD (da_lst da_bool) (da_lst da_bool) (ev_var rfl) (ev_new (ec_lc (m_l_base_caught_c3 word0) (it_list (ev_var rfl)) hl48 tg_name (fun k hk => hk) (by rfl) (fun _ => by rfl) (fun name47 o ho => by unfold m_l_base_caught_c3 at ho; cases ho; exact ⟨et_yes, fun y hy => by cases hy; exact ev_to (ev_eqS scStr (ev_var rfl) (ev_var rfl) rfl) rfl⟩))) hq49) (Option.some.inj hx)) (fun hc => ⟨(Option.some.inj (iteO_f hc hb50)).symm, rfl⟩))) hcaught52.symm) ?_)
            show Nx _ _ [.imm (rOb (cTpl (r_Table P w a))) tables_here0, .imm (rDicF P w kyStr (rOb (cLst (rOb (cTpl rInt))))) handed0, .imm rStr word0, .imm (rOpt rBool) caught52, .imm (rExc p41 d42 a.C_InvalidRow [("name" : Str), ("row" : Str)] (wC rStr (w1 (rOb (cTpl rInt))))) e39, .imm (rOb (cLst rBool)) classes45, .imm (rOb (cLst rStr)) names46, .no]
            refine nx_next ?_
            refine nx_unsetE ?_
            show Nx _ _ [.imm (rOb (cTpl (r_Table P w a))) tables_here0, .imm (rDicF P w kyStr (rOb (cLst (rOb (cTpl rInt))))) handed0, .imm rStr word0, .imm (rOpt rBool) caught52, .no, .imm (rOb (cLst rBool)) classes45, .imm (rOb (cLst rStr)) names46, .no]
            obtain ⟨c53, hc53, h⟩ := letO_some h
            refine (sq_if (et_to (et_B (ev_notN (ev_var rfl))) hc53.symm) (fun hc => ?_) (fun hc => ?_))
            · have h := iteO_t hc h
              obtain ⟨g54, hg54, h⟩ := bindO_some h
              exact (sq_ret (ev_get (ev_var rfl) hg54) h kr)
            · have h := iteO_f hc h
              refine nx_next ?_
              try dsimp only
              exact (sq_ret (ev_eqS scStr (ev_var rfl) ev_str rfl) h kr)
          · refine nxe_asN T.e_DuplicateKey_ShownError (fun p55 d56 => ⟨_, fun oe pn hz hf => (pss_cons (ps_set (i := 5) sc_l_base_caught.nd rfl (by first | exact Or.inl rfl | exact Or.inr rfl) (pe_lst (pa_cons (pe_callB (call_isX (K := K) rfl T.xc_DuplicateKey hz.zc hf) (by rfl) T.b_isinstance (by decide +kernel) (pa_cons (pv 4) (pa_cons (pe_glob (v := .ref a.C_DuplicateTable) (by rfl) T.g_DuplicateTable rfl) pa_nil))) (pa_cons (pe_callB (call_isX (K := K) rfl T.xc_DuplicateKey hz.zc hf) (by rfl) T.b_isinstance (by decide +kernel) (pa_cons (pv 4) (pa_cons (pe_glob (v := .ref a.C_NoTable) (by rfl) T.g_NoTable rfl) pa_nil))) (pa_cons (pe_callB (call_isX (K := K) rfl T.xc_DuplicateKey hz.zc hf) (by rfl) T.b_isinstance (by decide +kernel) (pa_cons (pv 4) (pa_cons (pe_glob (v := .ref a.C_InvalidRow) (by rfl) T.g_InvalidRow rfl) pa_nil))) pa_nil))))) (pss_cons (ps_set (i := 5) sc_l_base_caught.nd rfl (by first | exact Or.inl rfl | exact Or.inr rfl) (pe_op op_cat (pv 5) (pe_lst (pa_cons (pe_callB (call_isX (K := K) rfl T.xc_DuplicateKey hz.zc hf) (by rfl) T.b_isinstance (by decide +kernel) (pa_cons (pv 4) (pa_cons (pe_glob (v := .ref a.C_DuplicateKey) (by rfl) T.g_DuplicateKey rfl) pa_nil))) (pa_cons (pe_callB (call_isX (K := K) rfl T.xc_DuplicateKey hz.zc hf) (by rfl) T.b_isinstance (by decide +kernel) (pa_cons (pv 4) (pa_cons (pe_glob (v := .ref a.C_Unlike) (by rfl) T.g_Unlike rfl) pa_nil))) pa_nil))))) (pss_cons (ps_set (i := 6) sc_l_base_caught.nd rfl (by first | exact Or.inl rfl | exact Or.inr rfl) (pe_lst (pa_cons pe_str (pa_cons pe_str (pa_cons pe_str (pa_cons pe_str (pa_cons pe_str pa_nil))))))) (pss_cons (ps_set (i := 3) sc_l_base_caught.nd rfl (by first | exact Or.inl rfl | exact Or.inr rfl) (pe_and (pe_callB (call_isX (K := K) rfl T.xc_DuplicateKey hz.zc hf) (by rfl) T.b_isinstance (by decide +kernel) (pa_cons (pv 4) (pa_cons (pe_bltn (v := .ty "ValueError") (by rfl) T.b_ValueError (by decide +kernel) rfl) pa_nil))) (pe_one (pe_cmpR (eqDK (K := K) rfl hr.units) (pv 5) (QN.pe_lcH (own := [("_law_name", 7)]) sc_l_base_caught.nd (pi_listZK (K := K) rfl (pv 6)) (blkOk_by (N := N_l_base_caught) (sc := defScope s_l_base_caught) (by decide +kernel)) (fun _ _ _ _ _ => (pg_name (i := 7) sc_l_base_caught.nd rfl (by first | exact Or.inl rfl | exact Or.inr rfl))) (fun _ _ _ _ _ => pts_nil) (fun _ _ _ _ _ => (pe_cmpR op_eq (pv 7) (pv 2) (nomark _))) (hotS hz hf)) (nomark _))))) pss_nil)))), ?_⟩)
            show Nx _ _ [.imm (rOb (cTpl (r_Table P w a))) tables_here0, .imm (rDicF P w kyStr (rOb (cLst (rOb (cTpl rInt))))) handed0, .imm rStr word0, .imm (rOpt rBool) caught1, .imm (rExc p55 d56 a.C_DuplicateKey [("name" : Str), ("key" : Str)] (wC rStr (w1 (rOb (cTpl rInt))))) e40, .no, .no, .no]
            obtain ⟨classes57, hclasses57, h⟩ := letO_some h
            refine (sq_asg (ev_to (ev_new (ec_lst (eh_C (ev_isX (ev_var rfl) (.own _) T.q_DuplicateKey_DuplicateTable) (eh_C (ev_isX (ev_var rfl) (.own _) T.q_DuplicateKey_NoTable) (eh_C (ev_isX (ev_var rfl) (.own _) T.q_DuplicateKey_InvalidRow) eh_0))) (Nat.le_of_ble_eq_true rfl))) hclasses57.symm) ?_)
            show Nx _ _ [.imm (rOb (cTpl (r_Table P w a))) tables_here0, .imm (rDicF P w kyStr (rOb (cLst (rOb (cTpl rInt))))) handed0, .imm rStr word0, .imm (rOpt rBool) caught1, .imm (rExc p55 d56 a.C_DuplicateKey [("name" : Str), ("key" : Str)] (wC rStr (w1 (rOb (cTpl rInt))))) e40, .imm (rOb (cLst rBool)) classes57, .no, .no]
            obtain ⟨l58, hl58, h⟩ := bindO_some h
            obtain ⟨classes59, hclasses59, h⟩ := letO_some h
            refine (sq_asg (ev_to (ev_new (ec_cat (ev_var rfl) (ev_new (ec_lst (eh_C (ev_isX (ev_var rfl) (.own _) T.q_DuplicateKey_DuplicateKey) (eh_C (ev_isX (ev_var rfl) (.own _) T.q_DuplicateKey_Unlike) eh_0)) (Nat.le_of_ble_eq_true rfl))) hl58)) hclasses59.symm) ?_)
            show Nx _ _ [.imm (rOb (cTpl (r_Table P w a))) tables_here0, .imm (rDicF P w kyStr (rOb (cLst (rOb (cTpl rInt))))) handed0, .imm rStr word0, .imm (rOpt rBool) caught1, .imm (rExc p55 d56 a.C_DuplicateKey [("name" : Str), ("key" : Str)] (wC rStr (w1 (rOb (cTpl rInt))))) e40, .imm (rOb (cLst rBool)) classes59, .no, .no]
            obtain ⟨names60, hnames60, h⟩ := letO_some h
            refine (sq_asg (ev_to (ev_new (ec_lst (eh_C ev_str (eh_C ev_str (eh_C ev_str (eh_C ev_str (eh_C ev_str eh_0))))) (Nat.le_of_ble_eq_true rfl))) hnames60.symm) ?_)
            show Nx _ _ [.imm (rOb (cTpl (r_Table P w a))) tables_here0, .imm (rDicF P w kyStr (rOb (cLst (rOb (cTpl rInt))))) handed0, .imm rStr word0, .imm (rOpt rBool) caught1, .imm (rExc p55 d56 a.C_DuplicateKey [("name" : Str), ("key" : Str)] (wC rStr (w1 (rOb (cTpl rInt))))) e40, .imm (rOb (cLst rBool)) classes59, .imm (rOb (cLst rStr)) names60, .no]
            obtain ⟨c65, hc65, h⟩ := letO_some h
            obtain ⟨b64, hb64, h⟩ := bindO_some h
            obtain ⟨caught66, hcaught66, h⟩ := letO_some h
            refine (sq_asg (ev_to (ev_some nn_bool (ev_and (ev_to (ev_isX (ev_var rfl) (.ty _) T.q_DuplicateKey_ValueError) hc65.symm) (fun hc => by have hx := iteO_t hc hb64; obtain ⟨l62, hl62, hx⟩ := bindO_some hx; obtain ⟨q63, hq63, hx⟩ := bindO_some hx; exact ev_to (ev_eqD (da_lst da_bool) (da_lst da_bool) (ev_var rfl) (ev_new (ec_lc (m_l_base_caught_c4 word0) (it_list (ev_var rfl)) hl62 tg_name (fun k hk => hk) (by rfl) (fun _ => by rfl) (fun name61 o ho => by unfold m_l_base_caught_c4 at ho; cases ho; exact ⟨et_yes, fun y hy => by cases hy; exact ev_to (ev_eqS scStr (ev_var rfl) (ev_var rfl) rfl) rfl⟩))) hq63) (Option.some.inj hx)) (fun hc => ⟨(Option.some.inj (iteO_f hc hb64)).symm, rfl⟩))) hcaught66.symm) ?_)
            show Nx _ _ [.imm (rOb (cTpl (r_Table P w a))) tables_here0, .imm (rDicF P w kyStr (rOb (cLst (rOb (cTpl rInt))))) handed0, .imm rStr word0, .imm (rOpt rBool) caught66, .imm (rExc p55 d56 a.C_DuplicateKey [("name" : Str), ("key" : Str)] (wC rStr (w1 (rOb (cTpl rInt))))) e40, .imm (rOb (cLst rBool)) classes59, .imm (rOb (cLst rStr)) names60, .no]
            refine nx_next ?_
            refine nx_unsetE ?_
            show Nx _ _ [.imm (rOb (cTpl (r_Table P w a))) tables_here0, .imm (rDicF P w kyStr (rOb (cLst (rOb (cTpl rInt))))) handed0, .imm rStr word0, .imm (rOpt rBool) caught66, .no, .imm (rOb (cLst rBool)) classes59, .imm (rOb (cLst rStr)) names60, .no]
            obtain ⟨c67, hc67, h⟩ := letO_some h
            refine (sq_if (et_to (et_B (ev_notN (ev_var rfl))) hc67.symm) (fun hc => ?_) (fun hc => ?_))
            · have h := iteO_t hc h
              obtain ⟨g68, hg68, h⟩ := bindO_some h
              exact (sq_ret (ev_get (ev_var rfl) hg68) h kr)
            · have h := iteO_f hc h
              refine nx_next ?_
              try dsimp only
              exact (sq_ret (ev_eqS scStr (ev_var rfl) ev_str rfl) h kr)
theorem ok_law (T : Txt K mg a) : FnOk P w K mg base CX0 10 a.f_law a.d_law ["_law_script"] (SpL (w1 (rScr K)) rBool (fun x => m_law x)) := by
  refine T.F_law.ok sc_law (fun vs H Q E h => ?_) (fun cdv A outer s H vs Q E hr h => ?_)
  · obtain ⟨B, x, b, sm, hw, h, kr⟩ := h
    rw [WLen.len hw]; rfl
  · obtain ⟨B, script0, b, sm, hw, h, kr⟩ := h
    have h : m_law script0 = some b := h
    refine ⟨_, pss_sz (pss_cons (ps_set (i := 1) sc_law.nd rfl (by first | exact Or.inl rfl | exact Or.inr rfl) (pe_call (ok_l_start (P := P) (w := w) (base := base) T) (hr.mono (Nat.le_of_ble_eq_true rfl)) rfl T.g_l_start T.F_l_start.kp T.n_l_start .nil pass0 (pa_cons (pv 0) pa_nil))) (pss_cons (ps_set (i := 2) sc_law.nd rfl (by first | exact Or.inl rfl | exact Or.inr rfl) (pe_call (ok_l_draw (P := P) (w := w) (base := base) T) (hr.mono (Nat.le_of_ble_eq_true rfl)) rfl T.g_l_draw T.F_l_draw.kp T.n_l_draw .nil pass0 (pa_cons (pv 1) (pa_cons pe_int pa_nil)))) (pss_cons (ps_set (i := 3) sc_law.nd rfl (by first | exact Or.inl rfl | exact Or.inr rfl) (pe_call (ok_l_tables (P := P) (w := w) (base := base) T) (hr.mono (Nat.le_of_ble_eq_true rfl)) rfl T.g_l_tables T.F_l_tables.kp T.n_l_tables .nil pass0 (pa_cons (pv 1) pa_nil))) (pss_cons (ps_set (i := 4) sc_law.nd rfl (by first | exact Or.inl rfl | exact Or.inr rfl) (dnewFK (P := P) (w := w) rfl rfl)) (pss_cons (ps_setLc (i := 5) (own := [("_law_table", 10)]) rfl sc_law.nd rfl rfl (sw_true rfl rfl rfl (by decide +kernel)) (pi_listK (K := K) rfl (pv 3)) (blkOk_by (N := N_law) (sc := defScope s_law) (by decide +kernel)) (fun _ _ _ _ _ => (pg_name (i := 10) sc_law.nd rfl (by first | exact Or.inl rfl | exact Or.inr rfl))) (fun _ _ _ _ _ => pts_nil) (fun _ _ _ _ _ => (fldK (K := K) rfl (pv 10) rfl))) (Evl.pss_cut (ps_if (pt_cmpR op_eq (pe_call (ok_l_draw (P := P) (w := w) (base := base) T) (hr.mono (Nat.le_of_ble_eq_true rfl)) rfl T.g_l_draw T.F_l_draw.kp T.n_l_draw .nil pass0 (pa_cons (pv 1) (pa_cons pe_int pa_nil))) pe_int (nomark _)) (pss_cons (ps_expr (pe_bm0 PySem.F.plainAttrs_list PySem.F.slot_list_reverse PySem.F.type_list_reverse mt_reverse (pv 5))) pss_nil) pss_nil) (pss_cons (ps_for PassesOwn.never rfl (pi_listK (K := K) rfl (pv 5)) (pg_name (i := 6) sc_law.nd rfl (by first | exact Or.inl rfl | exact Or.inr rfl)) (pss_cons (fputK (P := P) (w := w) rfl rfl (pv 4) (pv 6) (pe_call (ok_l_rows (P := P) (w := w) (base := base) T) (hr.mono (Nat.le_of_ble_eq_true rfl)) rfl T.g_l_rows T.F_l_rows.kp T.n_l_rows .nil pass0 (pa_cons (pv 1) (pa_cons (pv 6) pa_nil))) rfl) pss_nil)) (pss_cons (ps_for PassesOwn.never rfl (pi_range1 rfl T.b_range (pa_cons (pv 2) pa_nil)) (pg_name (i := 7) sc_law.nd rfl (by first | exact Or.inl rfl | exact Or.inr rfl)) (pss_cons (ps_expr (pe_call (ok_l_spoil (P := P) (w := w) (base := base) T) (hr.mono (Nat.le_of_ble_eq_true rfl)) rfl T.g_l_spoil T.F_l_spoil.kp T.n_l_spoil .nil pass0 (pa_cons (pv 1) (pa_cons (pv 3) (pa_cons (pv 4) pa_nil))))) pss_nil)) (pss_cons (ps_set (i := 8) sc_law.nd rfl (by first | exact Or.inl rfl | exact Or.inr rfl) (pe_call (ok_l_due (P := P) (w := w) (base := base) T) (hr.mono (Nat.le_of_ble_eq_true rfl)) rfl T.g_l_due T.F_l_due.kp T.n_l_due .nil pass0 (pa_cons (pv 3) (pa_cons (pv 4) pa_nil)))) (pss_cons (ps_setLc (i := 9) (own := [("_law_name", 6)]) rfl sc_law.nd rfl rfl (sw_true rfl rfl rfl (by decide +kernel)) (pi_listK (K := K) rfl (pe_callTy (listFK (P := P) (w := w) rfl rfl rfl) (by rfl) T.b_list (by decide +kernel) (pa_cons (pv 4) pa_nil))) (blkOk_by (N := N_law) (sc := defScope s_law) (by decide +kernel)) (fun _ _ _ _ _ => (pg_name (i := 6) sc_law.nd rfl (by first | exact Or.inl rfl | exact Or.inr rfl))) (fun _ _ _ _ _ => pts_nil) (fun _ _ _ _ _ => (pe_callTy (list_ofK (K := K) rfl) (by rfl) T.b_list (by decide +kernel) (pa_cons (fgetK (P := P) (w := w) rfl rfl (pv 4) (pv 6) (fun _ _ => rfl)) pa_nil)))) (pss_cons (ps_if (PW.pt (pw_or (pt_cmpR (neDK (K := K) rfl hr.units) (pe_call (ok_l_made (P := P) (w := w) (base := base) T) (hr.mono (Nat.le_of_ble_eq_true rfl)) rfl T.g_l_made T.F_l_made.kp T.n_l_made .nil pass0 (pa_cons (pv 3) (pa_cons (pv 4) pa_nil))) (pv 8) (nomark _)) (pw_or1 (pt_cmpR (neDK (K := K) rfl hr.units) (pe_lc (own := [("_law_name", 6)]) rfl sc_law.nd (pi_listK (K := K) rfl (pe_callTy (listFK (P := P) (w := w) rfl rfl rfl) (by rfl) T.b_list (by decide +kernel) (pa_cons (pv 4) pa_nil))) (blkOk_by (N := N_law) (sc := defScope s_law) (by decide +kernel)) (fun _ _ _ _ _ => (pg_name (i := 6) sc_law.nd rfl (by first | exact Or.inl rfl | exact Or.inr rfl))) (fun _ _ _ _ _ => pts_nil) (fun _ _ _ _ _ => (pe_callTy (list_ofK (K := K) rfl) (by rfl) T.b_list (by decide +kernel) (pa_cons (fgetK (P := P) (w := w) rfl rfl (pv 4) (pv 6) (fun _ _ => rfl)) pa_nil)))) (pv 9) (nomark _))))) (pss_cons (ps_ret pe_bl) pss_nil) pss_nil) (pss_cons (ps_ret (pe_call (ok_l_base_caught (P := P) (w := w) (base := base) T) (hr.mono (Nat.le_of_ble_eq_true rfl)) rfl T.g_l_base_caught T.F_l_base_caught.kp T.n_l_base_caught .nil pass0 (pa_cons (pe_callTy (tuple_ofK (K := K) rfl) (by rfl) T.b_tuple (by decide +kernel) (pa_cons (pv 3) pa_nil)) (pa_cons (pv 4) (pa_cons (pe_ix (ix_tupK (K := K) rfl) (pv 8) pe_int (fun _ _ => rfl)) pa_nil))))) pss_nil)))))))))))), fun z => ?_⟩
    refine nx_go (frm_start (N := N_law) (n := 10) ⟨z, sm.2⟩ sm.1 hw (by rw [WLen.len hw]; rfl)) ?_
    show Nx _ _ [.imm (rScr K) script0, .no, .no, .no, .no, .no, .no, .no, .no, .no, .no]
    unfold m_law at h
    obtain ⟨v1, hv1, h⟩ := bindO_some h
    obtain ⟨state2, hstate2, h⟩ := letO_some h
    refine (sq_asgC (c := (cHls (wC (rOb (cLst rInt)) (wC rInt (wC rInt (w1 rInt)))))) (ec_to (ec_call (ew_1 (ev_var rfl)) hv1) hstate2.symm) (fun a_state2 na_state2 => ?_))
    show Nx _ _ [.imm (rScr K) script0, .cel a_state2 (cHls (wC (rOb (cLst rInt)) (wC rInt (wC rInt (w1 rInt))))) state2, .no, .no, .no, .no, .no, .no, .no, .no, .no]
    obtain ⟨p3, hp3, h⟩ := bindO_some h
    obtain ⟨faults4, hfaults4, h⟩ := letO_some h
    refine (sq_asg (ev_to (ev_callS (ew_1 ev_int) rfl rfl hp3) hfaults4.symm) ?_)
    show Nx _ _ [.imm (rScr K) script0, .cel a_state2 (cHls (wC (rOb (cLst rInt)) (wC rInt (wC rInt (w1 rInt))))) p3.2, .imm rInt faults4, .no, .no, .no, .no, .no, .no, .no, .no]
    obtain ⟨p5, hp5, h⟩ := bindO_some h
    obtain ⟨tables_here6, htables_here6, h⟩ := letO_some h
    refine (sq_asgC (c := (cLst (r_Table P w a))) (ec_to (ec_callM (us := [(1, .cel a_state2 (cHls (wC (rOb (cLst rInt)) (wC rInt (wC rInt (w1 rInt))))) p5.2.1)]) (ea_K (i := 1) rfl ea_0) (co_K rfl (by decide) co_0) (bo_K rfl rfl (by decide) bo_0) hp5) htables_here6.symm) (fun a_tables_here6 na_tables_here6 => ?_))
    show Nx _ _ [.imm (rScr K) script0, .cel a_state2 (cHls (wC (rOb (cLst rInt)) (wC rInt (wC rInt (w1 rInt))))) p5.2.1, .imm rInt faults4, .cel a_tables_here6 (cLst (r_Table P w a)) tables_here6, .no, .no, .no, .no, .no, .no, .no]
    refine (sq_asgD (c := cDicF P w kyStr (rOb (cLst (rOb (cTpl rInt))))) (ed_newF kyStr (rOb (cLst (rOb (cTpl rInt))))) (fun a_handed7 na_handed7 => ?_))
    show Nx _ _ [.imm (rScr K) script0, .cel a_state2 (cHls (wC (rOb (cLst rInt)) (wC rInt (wC rInt (w1 rInt))))) p5.2.1, .imm rInt faults4, .cel a_tables_here6 (cLst (r_Table P w a)) tables_here6, .cel a_handed7 (cDicF P w kyStr (rOb (cLst (rOb (cTpl rInt)))) a_handed7) [], .no, .no, .no, .no, .no, .no]
    refine nx_toDL 4 (rOb (cTpl rInt)) rfl ?_
    show Nx _ _ [.imm (rScr K) script0, .cel a_state2 (cHls (wC (rOb (cLst rInt)) (wC rInt (wC rInt (w1 rInt))))) p5.2.1, .imm rInt faults4, .cel a_tables_here6 (cLst (r_Table P w a)) tables_here6, .tre (.ref a_handed7) (tDL P w kyStr (rOb (cTpl rInt))) ([] : (List (Str × (List (List Int))))), .no, .no, .no, .no, .no, .no]
    obtain ⟨l9, hl9, h⟩ := bindO_some h
    obtain ⟨order10, horder10, h⟩ := letO_some h
    refine (sq_asgC (c := (cLst rStr)) (ec_to (ec_frz (i := 3) rfl (ec_lc (m_law_c1) (it_list (ev_var rfl)) hl9 tg_name (fun k hk => hk) (by rfl) (fun _ => by rfl) (fun table8 o ho => by unfold m_law_c1 at ho; cases ho; exact ⟨et_yes, fun y hy => by cases hy; exact ev_to (ev_fld (ev_var rfl) (acc0) rfl (by decide +kernel) T.cl_Table T.na_Table_name) rfl⟩))) horder10.symm) (fun a_order10 na_order10 => ?_))
    show Nx _ _ [.imm (rScr K) script0, .cel a_state2 (cHls (wC (rOb (cLst rInt)) (wC rInt (wC rInt (w1 rInt))))) p5.2.1, .imm rInt faults4, .cel a_tables_here6 (cLst (r_Table P w a)) tables_here6, .tre (.ref a_handed7) (tDL P w kyStr (rOb (cTpl rInt))) ([] : (List (Str × (List (List Int))))), .cel a_order10 (cLst rStr) order10, .no, .no, .no, .no, .no]
    obtain ⟨p11, hp11, h⟩ := bindO_some h
    obtain ⟨c12, hc12, h⟩ := letO_some h
    obtain ⟨j13, hj13, h2⟩ := bindO_some h
    have h := hj13
    refine nx_cut [.imm (rScr K) script0, .cel a_state2 (cHls (wC (rOb (cLst rInt)) (wC rInt (wC rInt (w1 rInt))))) p11.2, .imm rInt faults4, .cel a_tables_here6 (cLst (r_Table P w a)) tables_here6, .tre (.ref a_handed7) (tDL P w kyStr (rOb (cTpl rInt))) ([] : (List (Str × (List (List Int))))), .cel a_order10 (cLst rStr) j13, .no, .no, .no, .no, .no] (nx_if (et_to (et_T (ev_eqS scInt (ev_callS (ew_1 ev_int) rfl rfl hp11) ev_int rfl)) hc12.symm) (fun hc => ?_) (fun hc => ?_)) ?_
    · clear h2 hj13
      have h := iteO_t hc h
      obtain ⟨order14, horder14, h⟩ := letO_some h
      refine (sq_rev rfl (nx_cel (i := 5) rfl horder14.symm ?_))
      show Nx _ _ [.imm (rScr K) script0, .cel a_state2 (cHls (wC (rOb (cLst rInt)) (wC rInt (wC rInt (w1 rInt))))) p11.2, .imm rInt faults4, .cel a_tables_here6 (cLst (r_Table P w a)) tables_here6, .tre (.ref a_handed7) (tDL P w kyStr (rOb (cTpl rInt))) ([] : (List (Str × (List (List Int))))), .cel a_order10 (cLst rStr) order14, .no, .no, .no, .no, .no]
      obtain rfl := Option.some.inj h
      exact nx_fin
    · clear h2 hj13
      have h := iteO_f hc h
      obtain rfl := Option.some.inj h
      exact nx_fin
    · clear h
      have h := h2
      refine (nx_freeze 5 na_order10 rfl ?_)
      show Nx _ _ [.imm (rScr K) script0, .cel a_state2 (cHls (wC (rOb (cLst rInt)) (wC rInt (wC rInt (w1 rInt))))) p11.2, .imm rInt faults4, .cel a_tables_here6 (cLst (r_Table P w a)) tables_here6, .tre (.ref a_handed7) (tDL P w kyStr (rOb (cTpl rInt))) ([] : (List (Str × (List (List Int))))), .imm (rOb (cLst rStr)) j13, .no, .no, .no, .no, .no]
      obtain ⟨R19, hR19, h⟩ := bindO_some h
      refine (sq_for (ψ := psi rBool) (m_law_b1) (fun z => [.imm (rScr K) script0, .cel a_state2 (cHls (wC (rOb (cLst rInt)) (wC rInt (wC rInt (w1 rInt))))) z.2, .imm rInt faults4, .cel a_tables_here6 (cLst (r_Table P w a)) tables_here6, .tre (.ref a_handed7) (tDL P w kyStr (rOb (cTpl rInt))) z.1, .imm (rOb (cLst rStr)) j13, .no, .no, .no, .no, .no]) (it_list (ev_var rfl)) hR19 (fun A1 _ => ?_) (fun _ => tg_name) (fun A1 D1 name16 s15 st hA1 h k1 => ?_) ?_ ?_)
      · exact nx_fin
      · show Nx _ _ [.imm (rScr K) script0, .cel a_state2 (cHls (wC (rOb (cLst rInt)) (wC rInt (wC rInt (w1 rInt))))) s15.2, .imm rInt faults4, .cel a_tables_here6 (cLst (r_Table P w a)) tables_here6, .tre (.ref a_handed7) (tDL P w kyStr (rOb (cTpl rInt))) s15.1, .imm (rOb (cLst rStr)) j13, .imm rStr name16, .no, .no, .no, .no]
        unfold m_law_b1 at h
        obtain ⟨p17, hp17, h⟩ := bindO_some h
        obtain ⟨d18, hd18, h⟩ := bindO_some h
        refine (sq_putDL (ec_callM (us := [(1, .cel a_state2 (cHls (wC (rOb (cLst rInt)) (wC rInt (wC rInt (w1 rInt))))) p17.2.1)]) (ea_K (i := 1) rfl (ea_I (ev_var rfl) ea_0)) (co_K rfl (by decide) (co_I co_0)) (bo_K rfl rfl (by decide) (bo_I bo_0)) hp17) (ev_var rfl) rfl rfl hd18 ?_)
        show Nx _ _ [.imm (rScr K) script0, .cel a_state2 (cHls (wC (rOb (cLst rInt)) (wC rInt (wC rInt (w1 rInt))))) p17.2.1, .imm rInt faults4, .cel a_tables_here6 (cLst (r_Table P w a)) tables_here6, .tre (.ref a_handed7) (tDL P w kyStr (rOb (cTpl rInt))) d18, .imm (rOb (cLst rStr)) j13, .imm rStr name16, .no, .no, .no, .no]
        refine nx_next ?_
        refine nx_forget 6 ?_
        exact k1.nx _ (Option.some.inj h).symm
      · intro b e
        subst e
        obtain rfl := stepO_ret h; exact kr
      · intro e20 e
        subst e
        have h := stepO_nx h
        show Nx _ _ [.imm (rScr K) script0, .cel a_state2 (cHls (wC (rOb (cLst rInt)) (wC rInt (wC rInt (w1 rInt))))) e20.2, .imm rInt faults4, .cel a_tables_here6 (cLst (r_Table P w a)) tables_here6, .tre (.ref a_handed7) (tDL P w kyStr (rOb (cTpl rInt))) e20.1, .imm (rOb (cLst rStr)) j13, .no, .no, .no, .no, .no]
        obtain ⟨l21, hl21, h⟩ := bindO_some h
        obtain ⟨R25, hR25, h⟩ := bindO_some h
        refine (sq_for (ψ := psi rBool) (m_law_b2) (fun z => [.imm (rScr K) script0, .cel a_state2 (cHls (wC (rOb (cLst rInt)) (wC rInt (wC rInt (w1 rInt))))) z.1, .imm rInt faults4, .cel a_tables_here6 (cLst (r_Table P w a)) z.2.1, .tre (.ref a_handed7) (tDL P w kyStr (rOb (cTpl rInt))) z.2.2, .imm (rOb (cLst rStr)) j13, .no, .no, .no, .no, .no]) (it_rng1 (ew_1 (ev_var rfl)) hl21) hR25 (fun A1 _ => ?_) (fun _ => tg_name) (fun A1 D1 k23 s22 st hA1 h k1 => ?_) ?_ ?_)
        · exact nx_fin
        · show Nx _ _ [.imm (rScr K) script0, .cel a_state2 (cHls (wC (rOb (cLst rInt)) (wC rInt (wC rInt (w1 rInt))))) s22.1, .imm rInt faults4, .cel a_tables_here6 (cLst (r_Table P w a)) s22.2.1, .tre (.ref a_handed7) (tDL P w kyStr (rOb (cTpl rInt))) s22.2.2, .imm (rOb (cLst rStr)) j13, .no, .imm rInt k23, .no, .no, .no]
          unfold m_law_b2 at h
          obtain ⟨p24, hp24, h⟩ := bindO_some h
          refine (sq_drop (ev_callM (us := [(1, .cel a_state2 (cHls (wC (rOb (cLst rInt)) (wC rInt (wC rInt (w1 rInt))))) p24.2.1), (3, .cel a_tables_here6 (cLst (r_Table P w a)) p24.2.2.1), (4, .tre (.ref a_handed7) (tDL P w kyStr (rOb (cTpl rInt))) p24.2.2.2.1)]) (ea_K (i := 1) rfl (ea_K (i := 3) rfl (ea_T (i := 4) rfl ea_0))) (co_K rfl (by decide) (co_K rfl (by decide) (co_T rfl (by decide) co_0))) (bo_K rfl rfl (by decide) (bo_K rfl rfl (by decide) (bo_T rfl rfl (by decide) bo_0))) hp24) ?_)
          show Nx _ _ [.imm (rScr K) script0, .cel a_state2 (cHls (wC (rOb (cLst rInt)) (wC rInt (wC rInt (w1 rInt))))) p24.2.1, .imm rInt faults4, .cel a_tables_here6 (cLst (r_Table P w a)) p24.2.2.1, .tre (.ref a_handed7) (tDL P w kyStr (rOb (cTpl rInt))) p24.2.2.2.1, .imm (rOb (cLst rStr)) j13, .no, .imm rInt k23, .no, .no, .no]
          refine nx_next ?_
          refine nx_forget 7 ?_
          exact k1.nx _ (Option.some.inj h).symm
        · intro b e
          subst e
          obtain rfl := stepO_ret h; exact kr
        · intro e26 e
          subst e
          have h := stepO_nx h
          show Nx _ _ [.imm (rScr K) script0, .cel a_state2 (cHls (wC (rOb (cLst rInt)) (wC rInt (wC rInt (w1 rInt))))) e26.1, .imm rInt faults4, .cel a_tables_here6 (cLst (r_Table P w a)) e26.2.1, .tre (.ref a_handed7) (tDL P w kyStr (rOb (cTpl rInt))) e26.2.2, .imm (rOb (cLst rStr)) j13, .no, .no, .no, .no, .no]
          refine (nx_fixDL 4 na_handed7 rfl (fun L27 => ?_))
          show Nx _ _ [.imm (rScr K) script0, .cel a_state2 (cHls (wC (rOb (cLst rInt)) (wC rInt (wC rInt (w1 rInt))))) e26.1, .imm rInt faults4, .cel a_tables_here6 (cLst (r_Table P w a)) e26.2.1, .tre (.ref a_handed7) (tDB P w kyStr (rOb (cTpl rInt)) L27) e26.2.2, .imm (rOb (cLst rStr)) j13, .no, .no, .no, .no, .no]
          refine (nx_frzDB 4 (fun _ h => h) rfl ?_)
          show Nx _ _ [.imm (rScr K) script0, .cel a_state2 (cHls (wC (rOb (cLst rInt)) (wC rInt (wC rInt (w1 rInt))))) e26.1, .imm rInt faults4, .cel a_tables_here6 (cLst (r_Table P w a)) e26.2.1, .imm (rDicF P w kyStr (rOb (cLst (rOb (cTpl rInt))))) e26.2.2, .imm (rOb (cLst rStr)) j13, .no, .no, .no, .no, .no]
          obtain ⟨v28, hv28, h⟩ := bindO_some h
          obtain ⟨due_here29, hdue_here29, h⟩ := letO_some h
          refine (sq_asg (ev_to (ev_frz (i := 3) rfl (ev_call (ew_C (ev_var rfl) (ew_1 (ev_var rfl))) hv28)) hdue_here29.symm) ?_)
          show Nx _ _ [.imm (rScr K) script0, .cel a_state2 (cHls (wC (rOb (cLst rInt)) (wC rInt (wC rInt (w1 rInt))))) e26.1, .imm rInt faults4, .cel a_tables_here6 (cLst (r_Table P w a)) e26.2.1, .imm (rDicF P w kyStr (rOb (cLst (rOb (cTpl rInt))))) e26.2.2, .imm (rOb (cLst rStr)) j13, .no, .no, .imm (rAlt (rOb (cTup (wC rStr (w1 rStr)))) (rAlt (rOb (cTup (wC rStr (wC rStr (w1 (rOb (cTpl rInt))))))) (rOb (cTup (w1 rStr))))) due_here29, .no, .no]
          obtain ⟨l30, hl30, h⟩ := bindO_some h
          obtain ⟨l33, hl33, h⟩ := bindO_some h
          obtain ⟨kept34, hkept34, h⟩ := letO_some h
          refine (sq_asg (ev_to (ev_new (ec_lc (m_law_c2 e26) (it_list (ev_new (ec_listF kyStr (ev_var rfl) hl30))) hl33 tg_name (fun k hk => hk) (by rfl) (fun _ => by rfl) (fun name31 o ho => by unfold m_law_c2 at ho; obtain ⟨y32, hy32, ho⟩ := bindO_some ho; cases ho; exact ⟨et_yes, fun y hy => by cases hy; exact ev_to (ev_new (ec_listL (ev_fget kyStr (ev_var rfl) (ev_var rfl) hy32))) rfl⟩))) hkept34.symm) ?_)
          show Nx _ _ [.imm (rScr K) script0, .cel a_state2 (cHls (wC (rOb (cLst rInt)) (wC rInt (wC rInt (w1 rInt))))) e26.1, .imm rInt faults4, .cel a_tables_here6 (cLst (r_Table P w a)) e26.2.1, .imm (rDicF P w kyStr (rOb (cLst (rOb (cTpl rInt))))) e26.2.2, .imm (rOb (cLst rStr)) j13, .no, .no, .imm (rAlt (rOb (cTup (wC rStr (w1 rStr)))) (rAlt (rOb (cTup (wC rStr (wC rStr (w1 (rOb (cTpl rInt))))))) (rOb (cTup (w1 rStr))))) due_here29, .imm (rOb (cLst (rOb (cLst (rOb (cTpl rInt)))))) kept34, .no]
          obtain ⟨v35, hv35, h⟩ := bindO_some h
          obtain ⟨q36, hq36, h⟩ := bindO_some h
          obtain ⟨c43, hc43, h⟩ := letO_some h
          obtain ⟨b42, hb42, h⟩ := bindO_some h
          obtain ⟨c44, hc44, h⟩ := letO_some h
          refine (sq_if (et_to (et_or (et_to (et_T (ev_neD (da_alt (da_tup (daw_C da_str (daw_1 da_str))) (da_alt (da_tup (daw_C da_str (daw_C da_str (daw_1 (da_tpl da_int))))) (da_tup (daw_1 da_str)))) (da_alt (da_tup (daw_C da_str (daw_1 da_str))) (da_alt (da_tup (daw_C da_str (daw_C da_str (daw_1 (da_tpl da_int))))) (da_tup (daw_1 da_str)))) (ev_frz (i := 3) rfl (ev_call (ew_C (ev_var rfl) (ew_1 (ev_var rfl))) hv35)) (ev_var rfl) hq36)) hc43.symm) (fun hc => by have hx := iteO_f hc hb42; obtain ⟨l37, hl37, hx⟩ := bindO_some hx; obtain ⟨l40, hl40, hx⟩ := bindO_some hx; obtain ⟨q41, hq41, hx⟩ := bindO_some hx; exact et_to (et_T (ev_neD (da_lst (da_lst (da_tpl da_int))) (da_lst (da_lst (da_tpl da_int))) (ev_new (ec_lc (m_law_c3 e26) (it_list (ev_new (ec_listF kyStr (ev_var rfl) hl37))) hl40 tg_name (fun k hk => hk) (by rfl) (fun _ => by rfl) (fun name38 o ho => by unfold m_law_c3 at ho; obtain ⟨y39, hy39, ho⟩ := bindO_some ho; cases ho; exact ⟨et_yes, fun y hy => by cases hy; exact ev_to (ev_new (ec_listL (ev_fget kyStr (ev_var rfl) (ev_var rfl) hy39))) rfl⟩))) (ev_var rfl) hq41)) (Option.some.inj hx)) (fun hc => ⟨(Option.some.inj (iteO_t hc hb42)).symm, rfl⟩)) hc44.symm) (fun hc => ?_) (fun hc => ?_))
          · have h := iteO_t hc h
            exact (sq_ret ev_bl h kr)
          · have h := iteO_f hc h
            refine nx_next ?_
            try dsimp only
            obtain ⟨v45, hv45, h⟩ := bindO_some h
            exact (sq_ret (ev_call (ew_C (ev_new (ec_frz (i := 3) rfl (ec_tupL (ev_var rfl)))) (ew_C (ev_var rfl) (ew_1 (ev_altO (T := fun te => tOp (rIxT K) te (tC (.int (0 : Int)))) (fun _ hz => ev_ixU hz (acc0)) (fun _ hz => ev_altO (T := fun te => tOp (rIxT K) te (tC (.int (0 : Int)))) (fun _ hz => ev_ixU hz (acc0)) (fun _ hz => ev_ixU hz (acc1)) hz) (ev_var rfl))))) hv45) h kr)
end
end Law
set_option maxHeartbeats 4000000
namespace G
theorem forL_inv {α ρ ς : Type} {f : α → ς → Option (Step ρ ς)} (P : Nat → ς → Prop) : ∀ {xs : List α} {s : ς} {k : Nat}, P k s → (∀ (i : Nat) (x : α) (s : ς), xs[i]? = some x → P (k + i) s → ∃ s', f x s = some (.nx s') ∧ P (k + i + 1) s') → ∃ s', forL f xs s = some (.nx s') ∧ P (k + xs.length) s'
  | [], s, k, h, _ => ⟨s, rfl, h⟩
  | x :: xs, s, k, h, st => by
    obtain ⟨s1, e1, h1⟩ := st 0 x s rfl h
    obtain ⟨s2, e2, h2⟩ := forL_inv (xs := xs) (k := k + 1) P h1 fun i y s' hy hp => by
      have q := st (i + 1) y s' (by simpa using hy) (by rw [show k + (i + 1) = k + 1 + i by omega]; exact hp)
      rw [show k + (i + 1) + 1 = k + 1 + i + 1 by omega] at q
      exact q
    refine ⟨s2, ?_, by rw [List.length_cons, show k + (xs.length + 1) = k + 1 + xs.length by omega]; exact h2⟩
    unfold forL
    rw [e1]
    exact e2
end G
namespace Law
local instance : G.TabL := ⟨[]⟩
open PySem L2 G
abbrev Dr := List Int × Int × Int × Int
def I (n : Int) (st : Dr) : Prop := 0 ≤ st.2.1 ∧ 0 ≤ st.2.2.2 ∧ st.2.2.2 ≤ n
theorem mod_some {i j : Int} (h : 0 < j) : pyMod i j = some (i % j) := if_pos h
theorem div_some {i j : Int} (h : 0 < j) (h2 : j ≤ 1000000000000) : pyDiv i j = some (i / j) := if_pos ⟨h, by
  have h3 : j.natAbs ≠ 0 := by omega
  rw [Nat.log2_lt h3]
  exact Nat.lt_of_lt_of_le (show j.natAbs < 2 ^ 40 by omega) (Nat.pow_le_pow_right (by decide) (by decide))⟩
theorem at_some {α : Type} {l : List α} {i : Int} (h0 : 0 ≤ i) (h : i < (l.length : Int)) : ∃ x, atI l i = some x := by
  unfold atI ixN
  rw [if_pos h0, if_pos h]
  exact ⟨l[i.toNat]'(by omega), by rw [Option.bind_some]; exact List.getElem?_eq_getElem (by omega)⟩
theorem draw_ok {n : Int} {st : Dr} {many : Int} (h : I n st) (hn : n ≤ 100000) (h1 : 0 < many) (h2 : many ≤ 1000000000000) : ∃ d st', m_l_draw st many = some (d, st') ∧ 0 ≤ d ∧ d < many ∧ I (n + 1) st' := by
  obtain ⟨l, pos, v, cnt⟩ := st
  obtain ⟨a1, a2, a3⟩ := h
  dsimp only at a1 a2 a3
  unfold m_l_draw
  simp only [letO_s]
  cases hc : decide ((10 : Int) ^ ((18 : Int)).toNat ≤ v) with
  | true =>
    rw [iteO_T, mod_some h1, bindO_s, div_some h1 h2, bindO_s]
    exact ⟨_, _, rfl, Int.emod_nonneg _ (by omega), Int.emod_lt_of_pos _ h1, a1, a2, by dsimp only; omega⟩
  | false =>
    rw [iteO_F]
    have hp : pyPow (v % 1000000007 + 69621 * (cnt + 1) + 48271) 17 = some ((v % 1000000007 + 69621 * (cnt + 1) + 48271) ^ (17 : Int).toNat) := if_pos ⟨by decide, by decide, by
      have b1 := Int.emod_nonneg v (show (1000000007 : Int) ≠ 0 by decide)
      have b2 := Int.emod_lt_of_pos v (show (0 : Int) < 1000000007 by decide)
      omega⟩
    rw [hp, bindO_s]
    cases hq : decide (pos < (l.length : Int)) with
    | true =>
      obtain ⟨x, hx⟩ := at_some a1 (of_decide_eq_true hq)
      rw [iteO_T, hx, bindO_s, bindO_s, mod_some h1, bindO_s]
      exact ⟨_, _, rfl, Int.emod_nonneg _ (by omega), Int.emod_lt_of_pos _ h1, by dsimp only; omega, by dsimp only; omega, by dsimp only; omega⟩
    | false =>
      rw [iteO_F, bindO_s, mod_some h1, bindO_s]
      exact ⟨_, _, rfl, Int.emod_nonneg _ (by omega), Int.emod_lt_of_pos _ h1, by dsimp only; omega, by dsimp only; omega, by dsimp only; omega⟩
theorem rng_some {j : Int} (h0 : 0 ≤ j) (h : j ≤ 1000) : pyRng j = some (rng 0 j.toNat) := if_pos ⟨by omega, by omega⟩
theorem start_ok (ns : List Int) (h : ns.length ≤ 63) : ∃ st, m_l_start ns = some st ∧ I 0 st := by
  unfold m_l_start
  have hs : pyScr ns = some ns := if_pos (by omega)
  simp only [letO_s, hs, bindO_s]
  cases hc : decide ((0 : Int) < (ns.length : Int)) with
  | false => exact ⟨_, rfl, by show (0 : Int) ≤ 1; decide, by show (0 : Int) ≤ 0; decide, by show (0 : Int) ≤ 0; decide⟩
  | true =>
    obtain ⟨x, hx⟩ := at_some (l := ns) (i := 0) (by decide) (of_decide_eq_true hc)
    rw [iteO_T, hx]
    exact ⟨_, rfl, by show (0 : Int) ≤ 1; decide, by show (0 : Int) ≤ 0; decide, by show (0 : Int) ≤ 0; decide⟩
theorem forL_cons {α ρ ς : Type} (f : α → ς → Option (Step ρ ς)) (x : α) (xs : List α) (s : ς) : forL f (x :: xs) s = (match f x s with
    | none => none
    | some (.nx s') => forL f xs s'
    | some (.brk s') => some (.nx s')
    | some (.ret b) => some (.ret b)) := rfl
theorem compL_cons {α β : Type} (f : α → Option (Option β)) (x : α) (xs : List α) : compL f (x :: xs) = (match f x with
    | none => none
    | some none => compL f xs
    | some (some y) => match compL f xs with
      | none => none
      | some ys => some (y :: ys)) := rfl
theorem compS_cons {α β ς : Type} (f : α → ς → Option (Option β × ς)) (x : α) (xs : List α) (s : ς) : compS f (x :: xs) s = (match f x s with
    | none => none
    | some (none, s') => compS f xs s'
    | some (some y, s') => match compS f xs s' with
      | none => none
      | some (ys, s'') => some (y :: ys, s'')) := rfl
theorem at_mem {α : Type} {l : List α} {i : Int} {x : α} (h : atI l i = some x) : x ∈ l := by
  unfold atI at h
  cases q : ixN l.length i with
  | none => rw [q] at h; cases h
  | some j => rw [q] at h; exact List.mem_of_getElem? h
theorem drawn_ok {α β : Type} {f : α → Dr → Option (Option β × Dr)} {c : Int} (M : Int) (Z : β → Prop) (hc : 0 ≤ c) (hf : ∀ (x : α) (n : Int) (st : Dr), I n st → n ≤ M → ∃ y st', f x st = some (some y, st') ∧ Z y ∧ I (n + c) st') :
    ∀ (l : List α) (n : Int) (st : Dr), I n st → n + c * (l.length : Int) ≤ M → ∃ (ys : List β) (st' : Dr), compS f l st = some (ys, st') ∧ ys.length = l.length ∧ (∀ y ∈ ys, Z y) ∧ I (n + c * (l.length : Int)) st'
  | [], n, st, h, hm => ⟨[], st, rfl, rfl, (fun _ z => nomatch z), by simpa using h⟩
  | x :: xs, n, st, h, hm => by
    rw [List.length_cons] at hm
    have e0 : c * ((xs.length + 1 : Nat) : Int) = c * (xs.length : Int) + c := by rw [Int.natCast_add, Int.mul_add]; omega
    have e1 : 0 ≤ c * (xs.length : Int) := Int.mul_nonneg hc (by omega)
    obtain ⟨y, s, e, z, i⟩ := hf x n st h (by omega)
    obtain ⟨ys, st', e2, hl, ha, hi⟩ := drawn_ok M Z hc hf xs (n + c) s i (by omega)
    refine ⟨y :: ys, st', ?_, by simp [hl], fun w hw => ?_, ?_⟩
    · rw [compS_cons, e]
      dsimp only
      rw [e2]
    · rcases List.mem_cons.mp hw with rfl | hw
      · exact z
      · exact ha _ hw
    · rw [List.length_cons, e0, show n + (c * (xs.length : Int) + c) = n + c + c * (xs.length : Int) by omega]; exact hi
end Law
set_option maxHeartbeats 4000000
namespace Law
local instance : G.TabL := ⟨[]⟩
open PySem L2 G
open SX (S S_len S_cat slice_to slice_from)
structure Dt {α : Type} [DecidableEq α] (d : α → PyData) (Z : α → Prop) (k : Nat) : Prop where
  lay : ∀ x, Z x → (d x).canLay0 = true
  dep : ∀ x, (d x).depth ≤ k
  eqv : ∀ x y, PyData.eqv (d x) (d y) = decide (x = y)
structure Dw {α : Type} [DecidableEq α] (d : α → List PyData) (Z : α → Prop) (k : Nat) : Prop where
  lay : ∀ x, Z x → PyData.canLayAll0 (d x) = true
  dep : ∀ x, PyData.depthAll (d x) ≤ k
  eqv : ∀ x y, PyData.eqvAll (d x) (d y) = decide (x = y)
section
variable {α β : Type} [DecidableEq α] [DecidableEq β] {d : α → PyData} {Z : α → Prop} {k : Nat} {e : β → List PyData} {Y : β → Prop}
theorem dt_int : Dt PyData.int (fun _ => True) 0 := ⟨fun x _ => by simp [PyData.canLay0], fun x => by simp [PyData.depth], fun x y => by
  unfold PyData.eqv
  by_cases h : x = y
  · rw [h]; simp
  · simp [h]⟩
theorem dt_str : Dt PyData.str (fun x => PyData.canLay0 (.str x) = true) 0 := ⟨fun x h => h, fun x => by simp [PyData.depth], fun x y => by
  unfold PyData.eqv
  by_cases h : x = y
  · rw [decide_eq_true h, h]; exact beq_self_eq_true y
  · rw [decide_eq_false h]
    cases q : x == y with
    | false => rfl
    | true => exact absurd (eq_of_beq q) h⟩
theorem all_lay (h : Dt d Z k) : ∀ {xs : List α}, (∀ x ∈ xs, Z x) → PyData.canLayAll0 (xs.map d) = true
  | [], _ => by simp [PyData.canLayAll0]
  | x :: xs, hz => by
    have := all_lay h fun y hy => hz y (List.mem_cons_of_mem _ hy)
    simp [PyData.canLayAll0, h.lay x (hz x List.mem_cons_self), this]
theorem all_dep (h : Dt d Z k) : ∀ xs : List α, PyData.depthAll (xs.map d) ≤ k
  | [] => by simp [PyData.depthAll]
  | x :: xs => by
    have := all_dep h xs
    simp only [List.map_cons, PyData.depthAll]
    exact Nat.max_le.mpr ⟨h.dep x, this⟩
theorem all_eqv (h : Dt d Z k) : ∀ xs ys : List α, PyData.eqvAll (xs.map d) (ys.map d) = decide (xs = ys)
  | [], [] => by simp [PyData.eqvAll]
  | [], y :: ys => by simp [PyData.eqvAll]
  | x :: xs, [] => by simp [PyData.eqvAll]
  | x :: xs, y :: ys => by
    rw [List.map_cons, List.map_cons]
    unfold PyData.eqvAll
    rw [all_eqv h xs ys, h.eqv]
    by_cases h1 : x = y <;> by_cases h2 : xs = ys <;> simp [h1, h2]
theorem dt_tpl (h : Dt d Z k) : Dt (dTpl d) (fun xs => ∀ x ∈ xs, Z x) (k + 1) := ⟨fun xs hz => by unfold dTpl; simpa [PyData.canLay0] using all_lay h hz, fun xs => by unfold dTpl; simp only [PyData.depth]; have := all_dep h xs; omega, fun xs ys => by unfold dTpl; rw [← all_eqv h xs ys]; simp [PyData.eqv]⟩
theorem dt_lst (h : Dt d Z k) : Dt (dLst d) (fun xs => ∀ x ∈ xs, Z x) (k + 1) := ⟨fun xs hz => by unfold dLst; simpa [PyData.canLay0] using all_lay h hz, fun xs => by unfold dLst; simp only [PyData.depth]; have := all_dep h xs; omega, fun xs ys => by unfold dLst; rw [← all_eqv h xs ys]; simp [PyData.eqv]⟩
theorem dw_1 (h : Dt d Z k) : Dw (dw1 d) Z k := ⟨fun x hz => by unfold dw1; simp [PyData.canLayAll0, h.lay x hz], fun x => by unfold dw1; simp only [PyData.depthAll]; have := h.dep x; omega, fun x y => by unfold dw1; simp only [PyData.eqvAll, h.eqv, Bool.and_true]⟩
theorem dw_C (h : Dt d Z k) (h2 : Dw e Y k) : Dw (dwC d e) (fun x => Z x.1 ∧ Y x.2) k := ⟨fun x hz => by unfold dwC; simp [PyData.canLayAll0, h.lay x.1 hz.1, h2.lay x.2 hz.2], fun x => by
  unfold dwC; simp only [PyData.depthAll]; exact Nat.max_le.mpr ⟨h.dep _, h2.dep _⟩, fun x y => by
  obtain ⟨x1, x2⟩ := x
  obtain ⟨y1, y2⟩ := y
  unfold dwC; simp only [PyData.eqvAll, h.eqv, h2.eqv]
  by_cases h1 : x1 = y1 <;> by_cases h2 : x2 = y2 <;> simp [h1, h2]⟩
theorem dt_tup (h : Dw e Y k) : Dt (dTup e) Y (k + 1) := ⟨fun x hz => by unfold dTup; simpa [PyData.canLay0] using h.lay x hz, fun x => by unfold dTup; simp only [PyData.depth]; have := h.dep x; omega, fun x y => by unfold dTup; rw [← h.eqv x y]; simp [PyData.eqv]⟩
theorem Dt.up (h : Dt d Z k) {k2 : Nat} (hk : k ≤ k2) : Dt d Z k2 := ⟨h.lay, fun x => Nat.le_trans (h.dep x) hk, h.eqv⟩
theorem Dt.shp (h : Dt d Z k) (hk : k ≤ 64) {x : α} (hx : Z x) : SeqAt.shaped (d x) = true := by
  unfold SeqAt.shaped
  rw [h.lay x hx, decide_eq_true (Nat.le_trans (h.dep x) hk)]; rfl
theorem Dt.eq (h : Dt d Z k) (hk : k ≤ 64) {x y : α} (hx : Z x) (hy : Z y) : pyEq (d x) (d y) = some (decide (x = y)) := by
  unfold pyEq
  rw [if_pos ⟨h.shp hk hx, h.shp hk hy⟩, h.eqv]
theorem Dt.isin (h : Dt d Z k) (hk : k ≤ 63) {x : α} {ys : List α} (hx : Z x) (hy : ∀ y ∈ ys, Z y) : pyInD (d x) (ys.map d) = some (decide (x ∈ ys)) := by
  unfold pyInD
  rw [if_pos ⟨h.shp (by omega) hx, (dt_lst h).shp (by omega) hy⟩]
  congr 1
  rw [List.any_map, Bool.eq_iff_iff, List.any_eq_true, decide_eq_true_eq]
  simp only [Function.comp, h.eqv, decide_eq_true_eq]
  exact ⟨fun ⟨y, hy, e⟩ => e ▸ hy, fun hx => ⟨x, hx, rfl⟩⟩
theorem Dt.isinE (h : Dt d Z k) (hk : k ≤ 63) {x : α} {ys : List α} (hx : Z x) (hy : ∀ y ∈ ys, Z y) : ∃ q, pyInD (d x) (ys.map d) = some q ∧ (q = true ↔ x ∈ ys) := ⟨_, h.isin hk hx hy, decide_eq_true_iff⟩
end
end Law
set_option maxHeartbeats 4000000
namespace G
open PySem L2
theorem app_some {α : Type} {xs : List α} {y : α} (hs : xs.length ≤ 100000) : pyApp xs y = some (xs ++ [y]) := if_pos (by omega)
theorem cat_some {α : Type} {xs ys : List α} (h1 : xs.length ≤ 1000) (h2 : ys.length ≤ 1000) : pyCat xs ys = some (xs ++ ys) := if_pos (by omega)
theorem nodup_snoc {α : Type} {l : List α} {x : α} : (l ++ [x]).Nodup ↔ l.Nodup ∧ x ∉ l := by
  rw [List.perm_append_comm.nodup_iff]
  show (x :: l).Nodup ↔ _
  rw [List.nodup_cons]
  exact And.comm
theorem compL_fm {α β : Type} {f : α → Option (Option β)} {g : α → Option β} : ∀ {xs : List α}, (∀ x ∈ xs, f x = some (g x)) → compL f xs = some (xs.filterMap g)
  | [], _ => rfl
  | x :: xs, h => by
    rw [Law.compL_cons, h x List.mem_cons_self, compL_fm fun y hy => h y (List.mem_cons_of_mem _ hy), List.filterMap_cons]
    cases g x <;> rfl
theorem compL_mp {α β : Type} {f : α → Option (Option β)} {g : α → β} : ∀ {xs : List α}, (∀ x ∈ xs, f x = some (some (g x))) → compL f xs = some (xs.map g)
  | [], _ => rfl
  | x :: xs, h => by
    rw [Law.compL_cons, h x List.mem_cons_self, compL_mp fun y hy => h y (List.mem_cons_of_mem _ hy), List.map_cons]
theorem at_get {α : Type} {xs : List α} {i : Nat} {x : α} (h : xs[i]? = some x) : atI xs ((i : Nat) : Int) = some x := by
  unfold atI ixN
  have : i < xs.length := (List.getElem?_eq_some_iff.mp h).1
  rw [if_pos (by omega), if_pos (by omega), Option.bind_some]
  simpa using h
end G
namespace Law
local instance : G.TabL := ⟨[]⟩
open PySem L2 G
theorem I_mono {n m : Int} {st : Dr} (h : I n st) (hm : n ≤ m) : I m st := ⟨h.1, h.2.1, by have := h.2.2; omega⟩
end Law
set_option maxHeartbeats 4000000
namespace Law
local instance : G.TabL := ⟨[]⟩
open PySem L2 G
def TxO (x : Str) : Prop := PyData.canLay0 (.str x) = true
end Law
set_option maxHeartbeats 4000000
namespace G
open PySem L2
section
variable {κ β α γ : Type} [DecidableEq κ]
theorem dg_cons (x : κ × β) (l : List (κ × β)) (k : κ) : getM (x :: l) k = if x.1 = k then some x.2 else getM l k := by
  unfold getM
  by_cases h : x.1 = k
  · rw [List.find?_cons_of_pos (by simpa using h), if_pos h]; rfl
  · rw [List.find?_cons_of_neg (by simpa using h), if_neg h]
theorem dg_none {l : List (κ × β)} {k : κ} : getM l k = none ↔ k ∉ l.map Prod.fst := by
  induction l with
  | nil => exact ⟨(fun _ h => nomatch h), fun _ => rfl⟩
  | cons x l ih =>
    rw [dg_cons, List.map_cons, List.mem_cons]
    by_cases h : x.1 = k
    · rw [if_pos h]; exact ⟨(fun e => by cases e), fun e => absurd (Or.inl h.symm) e⟩
    · rw [if_neg h, ih]
      exact ⟨fun e => fun z => z.elim (fun q => h q.symm) e, fun e q => e (.inr q)⟩
theorem dg_isT {l : List (κ × β)} {k : κ} (h : k ∈ l.map Prod.fst) : (getM l k).isSome = true := by
  cases q : getM l k with
  | none => exact absurd h (dg_none.mp q)
  | some b => rfl
theorem dg_isF {l : List (κ × β)} {k : κ} (h : k ∉ l.map Prod.fst) : (getM l k).isSome = false := by rw [dg_none.mpr h]; rfl
theorem dg_mem {l : List (κ × β)} (nd : (l.map Prod.fst).Nodup) {k : κ} {b : β} : getM l k = some b ↔ (k, b) ∈ l := by
  induction l with
  | nil => exact ⟨(fun h => by cases h), fun h => nomatch h⟩
  | cons x l ih =>
    rw [List.map_cons, List.nodup_cons] at nd
    rw [dg_cons]
    by_cases h : x.1 = k
    · rw [if_pos h]
      constructor
      · intro e; cases e; subst h; exact List.mem_cons_self
      · intro e
        rcases List.mem_cons.mp e with rfl | e
        · rfl
        · exact absurd (List.mem_map.mpr ⟨_, e, rfl⟩) (h ▸ nd.1)
    · rw [if_neg h, ih nd.2]
      constructor
      · exact List.mem_cons_of_mem _
      · intro e
        rcases List.mem_cons.mp e with rfl | e
        · exact absurd rfl h
        · exact e
theorem dg_of {l : List (κ × β)} {k : κ} {b : β} (h : getM l k = some b) : (k, b) ∈ l := by
  induction l with
  | nil => cases h
  | cons x l ih =>
    rw [dg_cons] at h
    by_cases e : x.1 = k
    · rw [if_pos e] at h; cases h; subst e; exact List.mem_cons_self
    · rw [if_neg e] at h; exact List.mem_cons_of_mem _ (ih h)
theorem dg_map {f : γ → κ} {g : γ → β} {xs : List γ} (nd : (xs.map f).Nodup) {x : γ} (h : x ∈ xs) : getM (xs.map fun y => (f y, g y)) (f x) = some (g x) := by
  refine (dg_mem ?_).mpr (List.mem_map.mpr ⟨x, h, rfl⟩)
  rw [List.map_map]; exact nd
theorem dput_new {l : List (κ × β)} {k : κ} {b : β} (h : k ∉ l.map Prod.fst) (hl : l.length ≤ 1000) : pyPutD l k b = some (l ++ [(k, b)]) := by
  unfold pyPutD
  rw [if_pos (by omega)]
  unfold putM
  rw [if_neg]
  intro e
  obtain ⟨x, hx, e⟩ := List.any_eq_true.mp e
  exact h (List.mem_map.mpr ⟨x, hx, of_decide_eq_true e⟩)
theorem putM_new {l : List (κ × β)} {k : κ} {b : β} (h : k ∉ l.map Prod.fst) : putM l k b = l ++ [(k, b)] := by
  unfold putM
  rw [if_neg]
  intro e
  obtain ⟨x, hx, e⟩ := List.any_eq_true.mp e
  exact h (List.mem_map.mpr ⟨x, hx, of_decide_eq_true e⟩)
theorem compD_gen {f : α → Option (Option (κ × β))} {g : α → κ × β} : ∀ {xs : List α} {acc : List (κ × β)}, (∀ x ∈ xs, f x = some (some (g x))) → (acc.map Prod.fst ++ xs.map fun x => (g x).1).Nodup → compD f xs acc = some (acc ++ xs.map g)
  | [], acc, _, _ => by rw [List.map_nil, List.append_nil]; rfl
  | x :: xs, acc, h, nd => by
    unfold compD
    rw [h x List.mem_cons_self]
    dsimp only
    have hx : (g x).1 ∉ acc.map Prod.fst := fun z => by
      rw [List.map_cons] at nd
      exact (List.nodup_append.mp nd).2.2 _ z _ List.mem_cons_self rfl
    rw [putM_new hx, compD_gen (fun y hy => h y (List.mem_cons_of_mem _ hy)) (by
      rw [List.map_append, List.append_assoc]; exact nd), List.append_assoc]
    rfl
theorem compD_ok {f : α → Option (Option (κ × β))} {g : α → κ × β} {xs : List α} (h : ∀ x ∈ xs, f x = some (some (g x))) (nd : (xs.map fun x => (g x).1).Nodup) : compD f xs [] = some (xs.map g) := by
  have := compD_gen (acc := []) h nd
  exact this
theorem keysD_ok {l : List (κ × β)} (h : l.length ≤ 1000) : pyKeysD l = some (l.map Prod.fst) := if_pos (by omega)
theorem mem_sort (O : Ord κ) {xs : List κ} {x : κ} : x ∈ O.sort xs ↔ x ∈ xs := (O.sort_perm xs).mem_iff
theorem sort_lt (O : Ord κ) {xs : List κ} (nd : xs.Nodup) : (O.sort xs).Pairwise fun a b => O.lt a b = true := by
  have h1 := O.sort_asc xs
  have h2 : (O.sort xs).Nodup := (O.sort_perm xs).nodup_iff.mpr nd
  refine (h1.and h2).imp fun {a b} h => ?_
  cases q : O.lt a b with
  | true => rfl
  | false => exact absurd (O.tri q h.1) h.2
theorem lt_nodup (O : Ord κ) {xs : List κ} (h : xs.Pairwise fun a b => O.lt a b = true) : xs.Nodup := h.imp fun {a b} q e => by subst e; rw [O.irr] at q; cases q
theorem asc_ext (O : Ord κ) {f : α → κ} {a b : List α} (ha : (a.map f).Pairwise fun x y => O.lt x y = true) (hb : (b.map f).Pairwise fun x y => O.lt x y = true) (h : ∀ x, x ∈ a ↔ x ∈ b) : a = b := by
  have na : a.Nodup := List.Pairwise.of_map f (fun _ _ h e => h (congrArg f e)) (lt_nodup O ha)
  have nb : b.Nodup := List.Pairwise.of_map f (fun _ _ h e => h (congrArg f e)) (lt_nodup O hb)
  have pm : a.Perm b := by
    haveI : DecidableEq α := fun _ _ => Classical.propDecidable _
    exact (List.perm_ext_iff_of_nodup na nb).mpr h
  refine List.Perm.eq_of_pairwise (le := fun x y => O.lt (f x) (f y) = true) (fun x y _ _ h1 h2 => ?_) (List.pairwise_map.mp ha) (List.pairwise_map.mp hb) pm
  have := O.not h1
  rw [h2] at this; cases this
theorem sortS_ok {xs : List Str} (h : xs.length < 64) : pySortS xs = some (oS.sort xs) := if_pos h
theorem sortU_ok {xs : List (List Int)} (h : xs.length < 64) (hn : ∀ k ∈ xs, k ≠ []) : pySortU xs = some (oI.sort xs) := if_pos ⟨h, List.all_eq_true.mpr fun k hk => by
  cases k with
  | nil => exact absurd rfl (hn _ hk)
  | cons _ _ => rfl⟩
theorem fm_if {γ' : Type} {p : γ' → Prop} [DecidablePred p] : ∀ l : List γ', (l.filterMap fun k => if p k then none else some k) = l.filter fun k => decide (¬ p k)
  | [] => rfl
  | x :: l => by
    rw [List.filterMap_cons, List.filter_cons]
    by_cases h : p x
    · rw [if_pos h, fm_if l]; simp [h]
    · rw [if_neg h, fm_if l]; simp [h]
end
end G
set_option maxHeartbeats 4000000
namespace Law
local instance : G.TabL := ⟨[]⟩
open PySem L2 G
abbrev Tb := Str × List Str × List Str × List Int
abbrev Shf := List (List Int × List Int)
def keyT (t : Tb) (r : List Int) : List Int := t.2.2.2.map fun i => r.getD i.toNat 0
def fitT (t : Tb) (r : List Int) : Prop := r.length = t.2.1.length
structure TabK (t : Tb) : Prop where
  pl : ∀ i ∈ t.2.2.2, 0 ≤ i ∧ i.toNat < t.2.1.length
  ne : t.2.2.2 ≠ []
  tx : TxO t.1
  tc : ∀ x ∈ t.2.1, TxO x
  tk : ∀ x ∈ t.2.2.1, TxO x
theorem keyT_ne {t : Tb} (h : TabK t) (r : List Int) : keyT t r ≠ [] := fun e => h.ne (List.map_eq_nil_iff.mp e)
theorem keyOf_ok {t : Tb} {r : List Int} (h : TabK t) (hf : fitT t r) : m_Table_key_of t r = some (.ok (keyT t r)) := by
  unfold m_Table_key_of m_Table_fits
  rw [bindO_s, decide_eq_true (show (r.length : Int) = (t.2.1.length : Int) by rw [hf])]
  simp only [Bool.not_true, letO_s, iteO_F]
  rw [compL_mp (g := fun i => r.getD i.toNat 0) (fun i hi => by
    obtain ⟨h0, h1⟩ := h.pl i hi
    have hl : i.toNat < r.length := by rw [hf]; exact h1
    have : atI r i = some r[i.toNat] := by
      have := at_get (xs := r) (i := i.toNat) (x := r[i.toNat]) (List.getElem?_eq_getElem hl)
      rw [show ((i.toNat : Nat) : Int) = i by omega] at this
      exact this
    unfold m_Table_key_of_c1
    rw [this, bindO_s, List.getD_eq_getElem?_getD, List.getElem?_eq_getElem hl]; rfl)]
  rfl
theorem keyOf_no {t : Tb} {r : List Int} (hf : ¬ fitT t r) : m_Table_key_of t r = some (.er (t.1, r)) := by
  unfold m_Table_key_of m_Table_fits
  rw [bindO_s, decide_eq_false (show ¬ (r.length : Int) = (t.2.1.length : Int) from fun e => hf (by unfold fitT; omega))]
  rfl
def krs (t : Tb) (rows : List (List Int)) : Shf := rows.map fun r => (keyT t r, r)
theorem krs_fst (t : Tb) (rows : List (List Int)) : (krs t rows).map Prod.fst = rows.map (keyT t) := by unfold krs; rw [List.map_map]; rfl
instance (t : Tb) (r : List Int) : Decidable (fitT t r) := inferInstanceAs (Decidable (_ = _))
def badR (t : Tb) : List (List Int) → List (List Int) → Option (List Int ⊕ List Int)
  | _, [] => none
  | done, r :: rows => if ¬ fitT t r then some (.inl r) else if keyT t r ∈ done.map (keyT t) then some (.inr (keyT t r)) else badR t (done ++ [r]) rows
abbrev ErR := (Str × List Int) ⊕ (Str × List Int)
def erR (t : Tb) : List Int ⊕ List Int → ErR
  | .inl r => .inl (t.1, r)
  | .inr k => .inr (t.1, k)
theorem bad_none {t : Tb} : ∀ {done rows : List (List Int)}, badR t done rows = none → (done.map (keyT t)).Nodup → (∀ r ∈ rows, fitT t r) ∧ ((done ++ rows).map (keyT t)).Nodup
  | done, [], _, n => ⟨fun _ z => (nomatch z), by simpa using n⟩
  | done, r :: rows, h, n => by
    unfold badR at h
    split at h
    · cases h
    rename_i a
    split at h
    · cases h
    rename_i b
    obtain ⟨h1, h2⟩ := bad_none h (by rw [List.map_append]; exact nodup_snoc.mpr ⟨n, b⟩)
    refine ⟨fun q hq => ?_, by rw [List.append_cons]; exact h2⟩
    rcases List.mem_cons.mp hq with rfl | hq
    · exact Classical.not_not.mp a
    · exact h1 q hq
def stepR {σ : Type} (t : Tb) (x : Option (List Int ⊕ List Int)) (s : σ) : Option (Step (Res ErR Shf) σ) := match x with
  | some e => some (.ret (.er (erR t e)))
  | none => some (.nx s)
theorem shelf_b1 {t : Tb} (ht : TabK t) : ∀ (rows done : List (List Int)), done.length + rows.length ≤ 1000 → forL (m_shelf_of_b1 t) rows (krs t done) = stepR t (badR t done rows) (krs t (done ++ rows))
  | [], done, _ => by rw [List.append_nil]; rfl
  | r :: rows, done, hl => by
    rw [List.length_cons] at hl
    rw [forL_cons]
    unfold badR
    by_cases q1 : fitT t r
    · rw [if_neg (fun z => z q1)]
      by_cases q2 : keyT t r ∈ done.map (keyT t)
      · have e : m_shelf_of_b1 t r (krs t done) = some (.ret (.er (.inr (t.1, keyT t r)))) := by
          unfold m_shelf_of_b1
          rw [keyOf_ok ht q1, bindO_s, resX_ok, dg_isT (by rw [krs_fst]; exact q2), letO_s, iteO_T]
        rw [if_pos q2, e]; rfl
      · have e : m_shelf_of_b1 t r (krs t done) = some (.nx (krs t (done ++ [r]))) := by
          unfold m_shelf_of_b1
          rw [keyOf_ok ht q1, bindO_s, resX_ok, dg_isF (by rw [krs_fst]; exact q2), letO_s, iteO_F, dput_new (by rw [krs_fst]; exact q2) (by unfold krs; rw [List.length_map]; omega), bindO_s]
          unfold krs; rw [List.map_append]; rfl
        rw [if_neg q2, e]
        dsimp only
        rw [shelf_b1 ht rows (done ++ [r]) (by rw [List.length_append, List.length_singleton]; omega), List.append_assoc]
        rfl
    · have e : m_shelf_of_b1 t r (krs t done) = some (.ret (.er (.inl (t.1, r)))) := by
        unfold m_shelf_of_b1
        rw [keyOf_no q1, bindO_s, resX_er]
      rw [if_pos q1, e]; rfl
theorem shelf_res {t : Tb} (ht : TabK t) {rows : List (List Int)} (hl : rows.length < 64) : ∃ r, m_shelf_of t rows = some r ∧ match badR t [] rows with | some e => r = .er (erR t e) | none => ∃ s, r = .ok s := by
  have e := shelf_b1 ht rows [] (by simp; omega)
  rw [List.nil_append] at e
  have e : forL (m_shelf_of_b1 t) rows ([] : Shf) = stepR t (badR t [] rows) (krs t rows) := e
  unfold m_shelf_of
  rw [letO_s, iteO_F, e]
  cases q : badR t [] rows with
  | some x => exact ⟨_, rfl, rfl⟩
  | none =>
    obtain ⟨_, nd⟩ := bad_none q List.nodup_nil
    rw [List.nil_append] at nd
    have hk : ((krs t rows).map Prod.fst).Nodup := by rw [krs_fst]; exact nd
    have hlen : (krs t rows).length = rows.length := by unfold krs; rw [List.length_map]
    have so : pySortU ((krs t rows).map Prod.fst) = some (oI.sort ((krs t rows).map Prod.fst)) := sortU_ok (by rw [List.length_map]; omega) fun k hk => by
      rw [krs_fst] at hk
      obtain ⟨r, _, rfl⟩ := List.mem_map.mp hk
      exact keyT_ne ht r
    have ec : compD (m_shelf_of_c1 (krs t rows)) (oI.sort ((krs t rows).map Prod.fst)) [] = some ((oI.sort ((krs t rows).map Prod.fst)).map fun k => (k, (getM (krs t rows) k).getD default)) := by
      refine compD_ok (g := fun k => (k, (getM (krs t rows) k).getD default)) (fun k hk => ?_) ?_
      · have hk := (mem_sort oI).mp hk
        unfold m_shelf_of_c1
        cases q : getM (krs t rows) k with
        | none => exact absurd hk (dg_none.mp q)
        | some y => rfl
      · rw [show (fun k => ((k, (getM (krs t rows) k).getD default) : List Int × List Int).1) = id from rfl, List.map_id]
        exact lt_nodup oI (sort_lt oI hk)
    refine ⟨.ok ((oI.sort ((krs t rows).map Prod.fst)).map fun k => (k, (getM (krs t rows) k).getD default)), ?_, ⟨_, rfl⟩⟩
    show bindO (some (Step.nx (krs t rows))) _ = _
    rw [bindO_s, stepO_N, keysD_ok (show (krs t rows).length ≤ 1000 by omega), bindO_s, so, bindO_s, ec, bindO_s]
    rfl
end Law
set_option maxHeartbeats 4000000
namespace Law
local instance : G.TabL := ⟨[]⟩
open PySem L2 G
def T1 : Tb := (Str.ofString "stock", [Str.ofString "amount", Str.ofString "shop", Str.ofString "code"], [Str.ofString "shop", Str.ofString "code"], [1, 2])
def T2 : Tb := (Str.ofString "people", [Str.ofString "id", Str.ofString "city"], [Str.ofString "id"], [0])
def T3 : Tb := (Str.ofString "b", [Str.ofString "x"], [Str.ofString "x"], [0])
def T4 : Tb := (Str.ofString "b_2", [Str.ofString "y", Str.ofString "z"], [Str.ofString "z"], [1])
def T4s : List Tb := [T1, T2, T3, T4]
theorem tab1 : m_Table___init (Str.ofString "stock") [(Str.ofString "amount"), (Str.ofString "shop"), (Str.ofString "code")] [(Str.ofString "code"), (Str.ofString "shop")] = some T1 := by decide +kernel
theorem tab2 : m_Table___init (Str.ofString "people") [(Str.ofString "id"), (Str.ofString "city")] [(Str.ofString "id")] = some T2 := by decide +kernel
theorem tab3 : m_Table___init (Str.ofString "b") [(Str.ofString "x")] [(Str.ofString "x")] = some T3 := by decide +kernel
theorem tab4 : m_Table___init (Str.ofString "b_2") [(Str.ofString "y"), (Str.ofString "z")] [(Str.ofString "z")] = some T4 := by decide +kernel
theorem tabK_4 {t : Tb} (h : t ∈ T4s) : TabK t := by
  unfold T4s at h
  simp only [List.mem_cons, List.not_mem_nil, or_false] at h
  rcases h with rfl | rfl | rfl | rfl
  all_goals exact ⟨by decide +kernel, by decide +kernel, by unfold TxO; decide +kernel, by unfold TxO; decide +kernel, by unfold TxO; decide +kernel⟩
theorem nd_4 : (T4s.map fun t => t.1).Nodup := by decide +kernel
theorem perm_erase {α : Type} : ∀ {l : List α} {i : Nat} (h : i < l.length), (l[i] :: l.eraseIdx i).Perm l
  | x :: l, 0, _ => List.Perm.refl _
  | x :: l, i + 1, h => by
    have hi : i < l.length := by simpa using h
    have ih := perm_erase (l := l) (i := i) hi
    show (l[i]'hi :: x :: l.eraseIdx i).Perm (x :: l)
    exact (List.Perm.swap _ _ _).trans (ih.cons x)
theorem n12 : ¬ (Str.ofString "stock" = Str.ofString "people") := by decide +kernel
theorem n13 : ¬ (Str.ofString "stock" = Str.ofString "b") := by decide +kernel
theorem n14 : ¬ (Str.ofString "stock" = Str.ofString "b_2") := by decide +kernel
theorem n23 : ¬ (Str.ofString "people" = Str.ofString "b") := by decide +kernel
theorem n24 : ¬ (Str.ofString "people" = Str.ofString "b_2") := by decide +kernel
theorem n34 : ¬ (Str.ofString "b" = Str.ofString "b_2") := by decide +kernel
theorem pop_ok {α : Type} {xs : List α} {j : Int} (h0 : 0 ≤ j) (h : j < (xs.length : Int)) (hl : xs.length ≤ 1000) : ∃ y, pyPop xs j = some (y, xs.eraseIdx j.toNat) ∧ (y :: xs.eraseIdx j.toNat).Perm xs := by
  have hj : j.toNat < xs.length := by omega
  refine ⟨xs[j.toNat], ?_, perm_erase hj⟩
  unfold pyPop
  have e : seqIndex? j xs.length = some j.toNat := by
    unfold seqIndex?
    simp only []
    first
      | rw [if_neg (by omega), if_pos (by omega)]
      | (split <;> simp_all <;> omega)
      | (simp; omega)
  rw [e]
  dsimp only
  rw [List.getElem?_eq_getElem hj]
  dsimp only
  rw [if_pos (by omega)]
structure Tbls (ts : List Tb) : Prop where
  mem : ∀ t ∈ ts, t ∈ T4s
  nd : (ts.map fun t => t.1).Nodup
  lo : 2 ≤ ts.length
  hi : ts.length ≤ 4
theorem tables_drawn {n : Int} {st : Dr} (h : I n st) (hn : n ≤ 99000) : ∃ ts st', m_l_tables st = some (ts, st', ()) ∧ Tbls ts ∧ I (n + 5) st' := by
  obtain ⟨d, s0, e0, d0, d1, i0⟩ := draw_ok h (by omega) (show (0 : Int) < 3 by decide) (by decide)
  have er : pyRng (2 + d) = some (rng 0 (2 + d).toNat) := rng_some (by omega) (by omega)
  obtain ⟨s, es, hs⟩ := forL_inv (ρ := List Tb × Dr × Unit) (f := m_l_tables_b1) (xs := rng 0 (2 + d).toNat) (s := (([] : List Tb), T4s, s0)) (k := 0) (fun i s => i ≤ (2 + d).toNat → (s.1 ++ s.2.1).Perm T4s ∧ s.1.length = i ∧ I (n + 1 + (i : Int)) s.2.2) (fun _ => ⟨List.Perm.refl _, rfl, by simpa using i0⟩) (fun i x s hx hs => by
    have hi : i < (2 + d).toNat := (rng_get hx).1
    obtain ⟨fnd, som, st1⟩ := s
    obtain ⟨p, l, i1⟩ := hs (by omega)
    rw [Nat.zero_add] at l i1
    dsimp only at p l i1
    have hl : fnd.length + som.length = 4 := by rw [← List.length_append, p.length_eq]; rfl
    obtain ⟨d2, s2, e2, d20, d21, i2⟩ := draw_ok i1 (by omega) (show (0 : Int) < (som.length : Int) by omega) (by omega)
    obtain ⟨y, e3, p3⟩ := pop_ok d20 d21 (by omega)
    refine ⟨(fnd ++ [y], som.eraseIdx d2.toNat, s2), ?_, fun _ => ⟨?_, ?_, ?_⟩⟩
    · unfold m_l_tables_b1
      simp only [e2, bindO_s, e3, app_some (show fnd.length ≤ 100000 by omega)]
    · show (fnd ++ [y] ++ som.eraseIdx d2.toNat).Perm T4s
      rw [List.append_assoc]
      exact (p3.append_left fnd).trans p
    · show (fnd ++ [y]).length = _; rw [List.length_append, l, List.length_singleton]; omega
    · show I _ s2
      rw [show n + 1 + ((0 + i + 1 : Nat) : Int) = n + 1 + (i : Int) + 1 by omega]; exact i2)
  rw [rng_len, Nat.zero_add] at hs
  obtain ⟨p, l, i1⟩ := hs (Nat.le_refl _)
  obtain ⟨fnd, som, st1⟩ := s
  dsimp only at p l i1
  refine ⟨fnd, st1, ?_, ⟨fun t ht => p.subset (List.mem_append.mpr (.inl ht)), ?_, by omega, by omega⟩, I_mono i1 (by omega)⟩
  · unfold m_l_tables
    rw [tab1, bindO_s, tab2, bindO_s, letO_s, tab3, bindO_s, tab4, bindO_s, cat_some (by decide) (by decide), bindO_s, letO_s, letO_s, e0, bindO_s, er, bindO_s]
    rw [show ([T1, T2] ++ [T3, T4] : List Tb) = T4s from rfl, es]
    rfl
  · have : ((fnd ++ som).map fun t => t.1).Nodup := (p.map _).nodup_iff.mpr nd_4
    rw [List.map_append] at this
    exact (List.nodup_append.mp this).1
theorem len3 {r : List Int} (h : r.length = 3) : ∃ a b c, r = [a, b, c] := by
  match r, h with
  | [a, b, c], _ => exact ⟨a, b, c, rfl⟩
theorem len2 {r : List Int} (h : r.length = 2) : ∃ a b, r = [a, b] := by
  match r, h with
  | [a, b], _ => exact ⟨a, b, rfl⟩
theorem len1 {r : List Int} (h : r.length = 1) : ∃ a, r = [a] := by
  match r, h with
  | [a], _ => exact ⟨a, rfl⟩
theorem key_ok {t : Tb} (ht : t ∈ T4s) {r : List Int} (hf : fitT t r) : m_l_key t.1 r = some (keyT t r) := by
  unfold T4s at ht
  simp only [List.mem_cons, List.not_mem_nil, or_false] at ht
  unfold m_l_key
  rcases ht with rfl | rfl | rfl | rfl
  · obtain ⟨a, b, c, rfl⟩ := len3 hf
    rw [show T1.1 = Str.ofString "stock" from rfl, dg_cons, if_pos rfl]; rfl
  · obtain ⟨a, b, rfl⟩ := len2 hf
    rw [show T2.1 = Str.ofString "people" from rfl, dg_cons, if_neg n12, dg_cons, if_pos rfl]; rfl
  · obtain ⟨a, rfl⟩ := len1 hf
    rw [show T3.1 = Str.ofString "b" from rfl, dg_cons, if_neg n13, dg_cons, if_neg n23, dg_cons, if_pos rfl]; rfl
  · obtain ⟨a, b, rfl⟩ := len2 hf
    rw [show T4.1 = Str.ofString "b_2" from rfl, dg_cons, if_neg n14, dg_cons, if_neg n24, dg_cons, if_neg n34, dg_cons, if_pos rfl]; rfl
theorem size_ok {t : Tb} (ht : t ∈ T4s) : m_l_size t.1 = some (t.2.1.length : Int) := by
  unfold T4s at ht
  simp only [List.mem_cons, List.not_mem_nil, or_false] at ht
  rcases ht with rfl | rfl | rfl | rfl <;> decide +kernel
theorem wid {t : Tb} (ht : t ∈ T4s) : t.2.1.length ≤ 3 := by
  unfold T4s at ht
  simp only [List.mem_cons, List.not_mem_nil, or_false] at ht
  rcases ht with rfl | rfl | rfl | rfl <;> decide
theorem row_ok {t : Tb} (ht : t ∈ T4s) {n : Int} {st : Dr} (h : I n st) (hn : n ≤ 99000) : ∃ r st', m_l_row st t.1 = some (r, (st', ())) ∧ fitT t r ∧ I (n + 3) st' := by
  have hw := wid ht
  obtain ⟨ys, st', e, hl, _, hi⟩ := drawn_ok (f := m_l_row_c1) (c := 1) 99100 (fun _ => True) (by decide) (fun x n st hi hn => by
    obtain ⟨d, s, e, d0, d1, i1⟩ := draw_ok hi (by omega) (show (0 : Int) < 6 by decide) (by decide)
    obtain ⟨y, ey⟩ := at_some (l := [(0 : Int), (9 : Int), (10 : Int), (99 : Int), (-(3 : Int)), ((10 : Int) ^ ((29 : Int)).toNat)]) d0 d1
    refine ⟨y, s, ?_, trivial, i1⟩
    unfold m_l_row_c1
    rw [e, bindO_s, ey]; rfl) (rng 0 ((t.2.1.length : Int)).toNat) n st h (by rw [rng_len]; omega)
  rw [rng_len] at hl hi
  refine ⟨ys, st', ?_, by show ys.length = _; rw [hl]; omega, I_mono hi (by omega)⟩
  unfold m_l_row
  rw [size_ok ht, bindO_s, rng_some (by omega) (by omega), bindO_s, e]; rfl
theorem keys_ok {t : Tb} (ht : t ∈ T4s) {f : List Int → Option (Option (List Int))} (hf : ∀ r, f r = bindO (m_l_key t.1 r) fun v => some (some v)) {rows : List (List Int)} (h : ∀ r ∈ rows, fitT t r) : compL f rows = some (rows.map (keyT t)) := compL_mp fun r hr => by rw [hf, key_ok ht (h r hr)]; rfl
theorem cut_to {α : Type} {xs : List α} {j : Nat} (h : j ≤ xs.length) : cut xs none (some ((j : Nat) : Int)) = xs.take j := by
  unfold cut
  rw [HT.sIx_nat, HT.sIx_none, List.drop_zero, Nat.min_eq_left h, Nat.sub_zero]
abbrev An := (Str × Str) ⊕ ((Str × Str × List Int) ⊕ Str)
def ansR (t : Tb) : List Int ⊕ List Int → An
  | .inl r => .inr (.inl (Str.ofString "InvalidRow", t.1, r))
  | .inr k => .inr (.inl (Str.ofString "DuplicateKey", t.1, k))
def stepB (t : Tb) (x : Option (List Int ⊕ List Int)) : Option (Step An Unit) := match x with
  | some e => some (.ret (ansR t e))
  | none => some (.nx ())
theorem due_b2 {t : Tb} (ht : t ∈ T4s) {here : List (List Int)} (hl : here.length ≤ 1000) : ∀ (rows done : List (List Int)), here = done ++ rows → (∀ r ∈ done, fitT t r) →
    forL (m_l_due_b2 t.1 here) ((List.range' done.length rows.length).map fun (i : Nat) => (i : Int)) () = stepB t (badR t done rows)
  | [], done, _, _ => rfl
  | r :: rows, done, e, hd => by
    have hg : here[done.length]? = some r := by rw [e, List.getElem?_append_right (Nat.le_refl _), Nat.sub_self]; rfl
    have htk : here.take done.length = done := by rw [e]; exact List.take_left'  rfl
    have hlen : done.length ≤ here.length := by rw [e, List.length_append]; omega
    rw [List.length_cons, List.range'_succ, List.map_cons, forL_cons]
    unfold badR
    by_cases q1 : fitT t r
    · rw [if_neg (fun z => z q1)]
      have start : m_l_due_b2 t.1 here ((done.length : Nat) : Int) () = (if keyT t r ∈ done.map (keyT t) then some (.ret (ansR t (.inr (keyT t r)))) else some (.nx ())) := by
        obtain ⟨b, eb, hb⟩ := (dt_tpl dt_int).isinE (by decide) (x := keyT t r) (ys := done.map (keyT t)) (fun _ _ => trivial) (fun _ _ _ _ => trivial)
        unfold m_l_due_b2
        rw [at_get hg, bindO_s, size_ok ht, bindO_s, decide_eq_true (show ((r.length : Nat) : Int) = ((t.2.1.length : Nat) : Int) by unfold fitT at q1; omega), Bool.not_true, letO_s, iteO_F, bindO_s, key_ok ht q1, bindO_s, cut_to hlen, htk, keys_ok ht (f := m_l_due_c3 t.1) (fun _ => rfl) hd, bindO_s, eb, bindO_s, letO_s]
        by_cases q2 : keyT t r ∈ done.map (keyT t)
        · rw [hb.mpr q2, if_pos q2, iteO_T, bindO_s, key_ok ht q1]; rfl
        · rw [show b = false by cases b with | false => rfl | true => exact absurd (hb.mp rfl) q2, if_neg q2]; rfl
      rw [start]
      by_cases q2 : keyT t r ∈ done.map (keyT t)
      · rw [if_pos q2, if_pos q2]; rfl
      · rw [if_neg q2, if_neg q2]
        dsimp only
        have := due_b2 ht hl rows (done ++ [r]) (by rw [e, List.append_assoc]; rfl) (fun x hx => (List.mem_append.mp hx).elim (hd x) fun z => by rw [List.mem_singleton.mp z]; exact q1)
        rw [List.length_append, List.length_singleton] at this
        exact this
    · have start : m_l_due_b2 t.1 here ((done.length : Nat) : Int) () = some (.ret (ansR t (.inl r))) := by
        unfold m_l_due_b2
        rw [at_get hg, bindO_s, size_ok ht, bindO_s, decide_eq_false (show ¬ ((r.length : Nat) : Int) = ((t.2.1.length : Nat) : Int) from fun z => q1 (by unfold fitT; omega)), Bool.not_false, letO_s, iteO_T, bindO_s]
        rfl
      rw [start, if_pos q1]; rfl
theorem rng_range (n : Nat) : rng 0 n = (List.range' 0 n).map fun (i : Nat) => (i : Int) := by
  unfold rng
  rw [List.range_eq_range']
  exact List.map_congr_left fun i _ => by omega
theorem due_rows {t : Tb} (ht : t ∈ T4s) {here : List (List Int)} (hl : here.length ≤ 1000) : bindO (pyRng (here.length : Int)) (fun l => forL (m_l_due_b2 t.1 here) l ()) = stepB t (badR t [] here) := by
  rw [rng_some (by omega) (by omega), bindO_s, show ((here.length : Int)).toNat = here.length by omega, rng_range]
  exact due_b2 ht hl here [] rfl (fun _ z => nomatch z)
end Law
set_option maxHeartbeats 4000000
namespace Law
local instance : G.TabL := ⟨[]⟩
open PySem L2 G
abbrev AscT (T : List Tb) : Prop := (T.map fun t => t.1).Pairwise fun a b => oS.lt a b = true
theorem AscT.nd {T : List Tb} (h : AscT T) : (T.map fun t => t.1).Nodup := lt_nodup oS h
def srtT (ts : List Tb) : List Tb := (oS.sort (ts.map fun t => t.1)).filterMap (getM (ts.map fun t => (t.1, t)))
theorem mem_srtT {ts : List Tb} (nd : (ts.map fun t => t.1).Nodup) {t : Tb} : t ∈ srtT ts ↔ t ∈ ts := by
  unfold srtT
  rw [List.mem_filterMap]
  constructor
  · rintro ⟨n, hn, e⟩
    obtain ⟨u, hu, rfl⟩ := List.mem_map.mp ((mem_sort oS).mp hn)
    rw [dg_map (g := fun t : Tb => t) nd hu] at e
    cases e; exact hu
  · intro h
    exact ⟨t.1, (mem_sort oS).mpr (List.mem_map.mpr ⟨t, h, rfl⟩), dg_map (g := fun t : Tb => t) nd h⟩
theorem srtT_fst {ts : List Tb} (nd : (ts.map fun t => t.1).Nodup) : (srtT ts).map (fun t => t.1) = oS.sort (ts.map fun t => t.1) := by
  unfold srtT
  have : ∀ l : List Str, (∀ n ∈ l, n ∈ ts.map fun t => t.1) → (l.filterMap (getM (ts.map fun t => (t.1, t)))).map (fun t => t.1) = l := by
    intro l hl
    induction l with
    | nil => rfl
    | cons n l ih =>
      obtain ⟨u, hu, e⟩ := List.mem_map.mp (hl n List.mem_cons_self)
      have e : u.1 = n := e
      rw [List.filterMap_cons, ← e, dg_map (g := fun t : Tb => t) nd hu]
      dsimp only
      rw [List.map_cons, ih fun y hy => hl y (List.mem_cons_of_mem _ hy)]
  exact this _ fun n hn => (mem_sort oS).mp hn
theorem tables_ok {ts : List Tb} (nd : (ts.map fun t => t.1).Nodup) (hl : ts.length < 64) : m_sorted_tables ts = some (.ok (srtT ts)) := by
  obtain ⟨s, e, hs⟩ := forL_inv (ρ := Res Str (List Tb)) (f := m_sorted_tables_b1) (xs := ts) (s := []) (k := 0) (fun i s => s = (ts.take i).map fun t => (t.1, t)) rfl (fun i x s hx hs => by
    have hs : s = (ts.take i).map fun t => (t.1, t) := by rw [hs, Nat.zero_add]
    subst hs
    have htk : ts.take (i + 1) = ts.take i ++ [x] := by rw [List.take_succ, hx]; rfl
    have hn2 : x.1 ∉ ((ts.take i).map fun t => (t.1, t)).map Prod.fst := by
      rw [List.map_map]
      have : ((ts.take (i + 1)).map fun t => t.1).Nodup := nd.sublist ((List.take_sublist _ _).map _)
      rw [htk, List.map_append] at this
      exact (nodup_snoc.mp this).2
    refine ⟨(ts.take (i + 1)).map fun t => (t.1, t), ?_, by rw [Nat.zero_add]⟩
    have ei : (getM ((ts.take i).map fun t => (t.1, t)) x.1).isSome = false := dg_isF hn2
    have ep : pyPutD ((ts.take i).map fun t => (t.1, t)) x.1 x = some ((ts.take (i + 1)).map fun t => (t.1, t)) := by
      rw [dput_new hn2 (by rw [List.length_map]; have := (List.take_sublist i ts).length_le; omega), htk, List.map_append]; rfl
    unfold m_sorted_tables_b1
    simp only [letO_s, ei, iteO_F, ep, bindO_s])
  rw [Nat.zero_add, List.take_length] at hs
  subst hs
  have ek : ((ts.map fun t => (t.1, t)).map Prod.fst) = ts.map fun t => t.1 := by rw [List.map_map]; rfl
  unfold m_sorted_tables
  simp only [letO_s, e, bindO_s, stepO_N, keysD_ok (show (ts.map fun t => (t.1, t)).length ≤ 1000 by rw [List.length_map]; omega), ek, sortS_ok (show (ts.map fun t => t.1).length < 64 by rw [List.length_map]; omega)]
  rw [compL_fm (g := getM (ts.map fun t => (t.1, t))) (fun n hn => by
    obtain ⟨u, hu, rfl⟩ := List.mem_map.mp ((mem_sort oS).mp hn)
    unfold m_sorted_tables_c1
    rw [dg_map (g := fun t : Tb => t) nd hu]; rfl)]
  rfl
def dupN : List Str → List Str → Option Str
  | _, [] => none
  | done, n :: ns => if n ∈ done then some n else dupN (done ++ [n]) ns
theorem dup_none : ∀ {done ns : List Str}, dupN done ns = none → done.Nodup → (done ++ ns).Nodup
  | done, [], _, n => by simpa using n
  | done, x :: ns, h, n => by
    unfold dupN at h
    split at h
    · cases h
    rename_i a
    have := dup_none h (nodup_snoc.mpr ⟨n, a⟩)
    rw [List.append_cons]; exact this
theorem dup_b1 : ∀ (ts : List Tb) (d : List (Str × Tb)), d.length + ts.length ≤ 1000 → ∀ n, dupN (d.map Prod.fst) (ts.map fun t => t.1) = some n → forL m_sorted_tables_b1 ts d = some (.ret (.er n))
  | [], _, _, _, h => by cases h
  | t :: ts, d, hl, n, h => by
    rw [List.length_cons] at hl
    rw [List.map_cons] at h
    unfold dupN at h
    rw [forL_cons]
    by_cases q : t.1 ∈ d.map Prod.fst
    · rw [if_pos q] at h
      cases h
      have e : m_sorted_tables_b1 t d = some (.ret (.er t.1)) := by
        unfold m_sorted_tables_b1
        rw [dg_isT q, letO_s, iteO_T]
      rw [e]
    · rw [if_neg q] at h
      have e : m_sorted_tables_b1 t d = some (.nx (d ++ [(t.1, t)])) := by
        unfold m_sorted_tables_b1
        rw [dg_isF q, letO_s, iteO_F, dput_new q (by omega), bindO_s]
      rw [e]
      exact dup_b1 ts (d ++ [(t.1, t)]) (by rw [List.length_append, List.length_singleton]; omega) n (by rw [List.map_append]; exact h)
theorem tables_dup {ts : List Tb} (hl : ts.length ≤ 1000) {n : Str} (h : dupN [] (ts.map fun t => t.1) = some n) : m_sorted_tables ts = some (.er n) := by
  unfold m_sorted_tables
  rw [letO_s, dup_b1 ts [] (by simp; omega) n h]
  rfl
def stepD (x : Option Str) : Option (Step An Unit) := match x with
  | some n => some (.ret (.inl (Str.ofString "DuplicateTable", n)))
  | none => some (.nx ())
theorem due_b1 {names : List Str} : ∀ (ns done : List Str), names = done ++ ns → forL (m_l_due_b1 names) ((List.range' done.length ns.length).map fun (i : Nat) => (i : Int)) () = stepD (dupN done ns)
  | [], done, _ => rfl
  | n :: ns, done, e => by
    have hg : names[done.length]? = some n := by rw [e, List.getElem?_append_right (Nat.le_refl _), Nat.sub_self]; rfl
    have htk : names.take done.length = done := by rw [e]; exact List.take_left' rfl
    have hlen : done.length ≤ names.length := by rw [e, List.length_append]; omega
    rw [List.length_cons, List.range'_succ, List.map_cons, forL_cons]
    unfold dupN
    have start : m_l_due_b1 names ((done.length : Nat) : Int) () = if n ∈ done then some (.ret (.inl (Str.ofString "DuplicateTable", n))) else some (.nx ()) := by
      unfold m_l_due_b1
      rw [at_get hg, bindO_s, cut_to hlen, htk, letO_s]
      by_cases q : n ∈ done
      · rw [decide_eq_true q, iteO_T, if_pos q]; rfl
      · rw [decide_eq_false q, iteO_F, if_neg q]
    rw [start]
    by_cases q : n ∈ done
    · rw [if_pos q, if_pos q]; rfl
    · rw [if_neg q, if_neg q]
      dsimp only
      have := due_b1 (names := names) ns (done ++ [n]) (by rw [e, List.append_assoc]; rfl)
      rw [List.length_append, List.length_singleton] at this
      exact this
theorem due_names {names : List Str} (hl : names.length ≤ 1000) : bindO (pyRng (names.length : Int)) (fun l => forL (m_l_due_b1 names) l ()) = stepD (dupN [] names) := by
  rw [rng_some (by omega) (by omega), bindO_s, show ((names.length : Int)).toNat = names.length by omega, rng_range]
  exact due_b1 names [] rfl
end Law
set_option maxHeartbeats 4000000
namespace Law
local instance : G.TabL := ⟨[]⟩
open PySem L2 G
abbrev Dct := List (Str × List (List Int))
theorem forL_fnd {α ρ : Type} {f : α → Unit → Option (Step ρ Unit)} {p : α → Option ρ} : ∀ {xs : List α}, (∀ x ∈ xs, f x () = some (match p x with | some r => .ret r | none => .nx ())) → forL f xs () = some (match xs.findSome? p with | some r => .ret r | none => .nx ())
  | [], _ => rfl
  | x :: xs, h => by
    rw [forL_cons, h x List.mem_cons_self, List.findSome?_cons]
    cases p x with
    | some r => rfl
    | none => exact forL_fnd fun y hy => h y (List.mem_cons_of_mem _ hy)
theorem shelf_nil (t : Tb) : m_shelf_of_Ve t () = some (.ok []) := by
  have hs : oI.sort [] = [] := by unfold Ord.sort; exact List.mergeSort_nil
  unfold m_shelf_of_Ve
  rw [show forL (m_shelf_of_Ve_b1 t) [] ([] : Shf) = some (.nx []) from rfl]
  simp only [letO_s, iteO_F, bindO_s, stepO_N]
  rw [show pyKeysD ([] : Shf) = some [] from rfl, bindO_s, sortU_ok (xs := []) (by decide) (fun _ h => nomatch h), hs]
  rfl
def rwD (d : Dct) (t : Tb) : List (List Int) := (getM d t.1).getD []
theorem shelf_any {t : Tb} (ht : TabK t) {d : Dct} (hl : (rwD d t).length < 64) : ∃ r, m_filled_shelves_c3 d t = some r ∧ match badR t [] (rwD d t) with | some e => r = .er (erR t e) | none => ∃ s, r = .ok s := by
  unfold m_filled_shelves_c3 rwD at *
  cases q : getM d t.1 with
  | some rows =>
    rw [q] at hl
    exact shelf_res ht hl
  | none => exact ⟨.ok [], by show m_shelf_of_Ve t () = _; exact shelf_nil t, [], rfl⟩
def badT (d : Dct) (T : List Tb) : Option (Tb × (List Int ⊕ List Int)) := T.findSome? fun t => (badR t [] (rwD d t)).map fun e => (t, e)
theorem shelves_res {d : Dct} : ∀ (T : List Tb) (acc : List (Str × Shf)), (∀ t ∈ T, TabK t ∧ (rwD d t).length < 64) → ∃ r, compDE m_filled_shelves_c2 (m_filled_shelves_c3 d) T acc = some r ∧ match badT d T with | some e => r = .er (erR e.1 e.2) | none => ∃ s, r = .ok s
  | [], acc, _ => ⟨.ok acc, rfl, acc, rfl⟩
  | t :: T, acc, h => by
    obtain ⟨r, e, hr⟩ := shelf_any (h t List.mem_cons_self).1 (h t List.mem_cons_self).2
    unfold badT
    rw [List.findSome?_cons]
    unfold compDE m_filled_shelves_c2
    rw [bindO_s, e, bindO_s]
    cases q : badR t [] (rwD d t) with
    | some x =>
      rw [q] at hr
      rw [hr]
      exact ⟨_, rfl, rfl⟩
    | none =>
      rw [q] at hr
      obtain ⟨s, hr⟩ := hr
      rw [hr, resX_ok]
      exact shelves_res T _ fun u hu => h u (List.mem_cons_of_mem _ hu)
theorem due_b3 {d : Dct} {t : Tb} (ht : t ∈ T4s) (hl : (rwD d t).length ≤ 1000) : m_l_due_b3 d t.1 () = some (match (badR t [] (rwD d t)).map (ansR t) with | some r => .ret r | none => .nx ()) := by
  have e := due_rows ht hl
  unfold m_l_due_b3
  rw [letO_s, show (getM d t.1).getD [] = rwD d t from rfl]
  rw [rng_some (by omega) (by omega), bindO_s] at e
  rw [rng_some (by omega) (by omega), bindO_s, e]
  cases badR t [] (rwD d t) <;> rfl
end Law
set_option maxHeartbeats 4000000
namespace Law
local instance : G.TabL := ⟨[]⟩
open PySem L2 G
theorem forL_fndM {α β ρ : Type} {f : β → Unit → Option (Step ρ Unit)} {g : α → β} {p : α → Option ρ} : ∀ {xs : List α}, (∀ x ∈ xs, f (g x) () = some (match p x with | some r => .ret r | none => .nx ())) → forL f (xs.map g) () = some (match xs.findSome? p with | some r => .ret r | none => .nx ())
  | [], _ => rfl
  | x :: xs, h => by
    rw [List.map_cons, forL_cons, h x List.mem_cons_self, List.findSome?_cons]
    cases p x with
    | some r => rfl
    | none => exact forL_fndM fun y hy => h y (List.mem_cons_of_mem _ hy)
abbrev nmT (ts : List Tb) : List Str := ts.map fun t => t.1
def strN (ts : List Tb) (d : Dct) : Option Str := (oS.sort (d.map Prod.fst)).find? fun k => !decide (k ∈ nmT ts)
theorem sort_fil {keys : List Str} (nd : keys.Nodup) (p : Str → Bool) : oS.sort (keys.filter p) = (oS.sort keys).filter p := by
  refine asc_ext oS (f := id) (by rw [List.map_id]; exact sort_lt oS (nd.filter p)) (by rw [List.map_id]; exact (sort_lt oS nd).filter p) fun x => ?_
  rw [mem_sort, List.mem_filter, List.mem_filter, mem_sort]
inductive Ans where
  | dup (n : Str)
  | str (n : Str)
  | bad (t : Tb) (e : List Int ⊕ List Int)
  | made
def ansT (ts : List Tb) (d : Dct) : Ans := match dupN [] (nmT ts) with
  | some n => .dup n
  | none => match strN ts d with
    | some n => .str n
    | none => match badT d (srtT ts) with
      | some x => .bad x.1 x.2
      | none => .made
def toA : Ans → An
  | .dup n => .inl (Str.ofString "DuplicateTable", n)
  | .str n => .inl (Str.ofString "NoTable", n)
  | .bad t e => ansR t e
  | .made => .inr (.inr (Str.ofString "made"))
structure Hd (ts : List Tb) (d : Dct) : Prop where
  l8 : ts.length ≤ 8
  nk : (d.map Prod.fst).Nodup
  ld : d.length < 64
  tk : ∀ t ∈ ts, TabK t
  t4 : dupN [] (nmT ts) = none → ∀ t ∈ ts, t ∈ T4s
  lr : ∀ t ∈ ts, (rwD d t).length < 64
theorem filled_res {ts : List Tb} {d : Dct} (h : Hd ts d) (nd : (nmT ts).Nodup) : ∃ r, m_filled_shelves (srtT ts) d = some r ∧ match strN ts d with | some n => r = .er (.inl n) | none => match badT d (srtT ts) with | some x => r = .er (.inr (erR x.1 x.2)) | none => ∃ s, r = .ok s := by
  have hT : ∀ t ∈ srtT ts, t ∈ ts := fun t ht => (mem_srtT nd).mp ht
  obtain ⟨r, e, hr⟩ := shelves_res (d := d) (srtT ts) [] fun t ht => ⟨h.tk t (hT t ht), h.lr t (hT t ht)⟩
  have e1 : compL m_filled_shelves_c1 (srtT ts) = some ((srtT ts).map fun t => t.1) := compL_mp fun _ _ => rfl
  have hm : ∀ k, k ∈ ((srtT ts).map fun t => t.1) ↔ k ∈ nmT ts := fun k => by rw [srtT_fst nd, mem_sort]
  have e2 := forL_fnd (f := m_filled_shelves_b1 ((srtT ts).map fun t => t.1)) (p := fun k => if k ∈ nmT ts then none else some (Res.er (.inl k))) (xs := oS.sort (d.map Prod.fst)) fun k _ => by
    unfold m_filled_shelves_b1
    by_cases q : k ∈ nmT ts
    · rw [decide_eq_true ((hm k).mpr q), Bool.not_true, letO_s, iteO_F, if_pos q]
    · rw [decide_eq_false (fun z => q ((hm k).mp z)), Bool.not_false, letO_s, iteO_T, if_neg q]
  have hld := h.ld
  unfold m_filled_shelves
  rw [e1, bindO_s, letO_s, keysD_ok (by omega), bindO_s, sortS_ok (by rw [List.length_map]; omega), bindO_s, e2]
  have fs : ∀ l : List Str, (l.findSome? fun k => if k ∈ nmT ts then (none : Option (Res (Str ⊕ ErR) (List (Str × Shf)))) else some (Res.er (.inl k))) = (l.find? fun k => !decide (k ∈ nmT ts)).map fun k => Res.er (.inl k) := by
    intro l
    induction l with
    | nil => rfl
    | cons x l ih =>
      rw [List.findSome?_cons, List.find?_cons]
      by_cases q : x ∈ nmT ts
      · rw [if_pos q, decide_eq_true q]; exact ih
      · rw [if_neg q, decide_eq_false q]; rfl
  rw [fs]
  unfold strN
  cases q : (oS.sort (d.map Prod.fst)).find? fun k => !decide (k ∈ nmT ts) with
  | some n => exact ⟨_, rfl, rfl⟩
  | none =>
    show ∃ r, bindO (some (Step.nx ())) _ = some r ∧ _
    rw [bindO_s, stepO_N, e, bindO_s]
    dsimp only
    cases q2 : badT d (srtT ts) with
    | some x =>
      rw [q2] at hr
      rw [hr]
      obtain ⟨t, x⟩ := x
      rcases x with x | x <;> exact ⟨_, rfl, rfl⟩
    | none =>
      rw [q2] at hr
      obtain ⟨s, hr⟩ := hr
      rw [hr]
      exact ⟨_, rfl, s, rfl⟩
end Law
set_option maxHeartbeats 4000000
namespace Law
local instance : G.TabL := ⟨[]⟩
open PySem L2 G
theorem store_res {ts : List Tb} {d : Dct} (h : Hd ts d) : ∃ r, m_Store___init ts d = some r ∧ match ansT ts d with | .dup n => r = .er (.inl n) | .str n => r = .er (.inr (.inl n)) | .bad t e => r = .er (.inr (.inr (erR t e))) | .made => ∃ s, r = .ok s := by
  have h8 := h.l8
  unfold ansT
  cases q : dupN [] (nmT ts) with
  | some n =>
    refine ⟨_, ?_, rfl⟩
    unfold m_Store___init
    rw [tables_dup (by omega) q, bindO_s, resX_er]
  | none =>
    have nd : (nmT ts).Nodup := by have := dup_none q List.nodup_nil; rwa [List.nil_append] at this
    obtain ⟨r, e, hr⟩ := filled_res h nd
    have e1 : compL m_Store___init_c1 (srtT ts) = some ((srtT ts).map fun t => t.1) := compL_mp fun _ _ => rfl
    unfold m_Store___init
    rw [tables_ok nd (by omega), bindO_s, resX_ok, e1, bindO_s, letO_s]
    dsimp only
    rw [e, bindO_s]
    cases q2 : strN ts d with
    | some n =>
      rw [q2] at hr
      rw [hr]
      exact ⟨_, rfl, rfl⟩
    | none =>
      rw [q2] at hr
      dsimp only at hr ⊢
      cases q3 : badT d (srtT ts) with
      | some x =>
        rw [q3] at hr
        rw [hr]
        obtain ⟨t, x⟩ := x
        rcases x with x | x <;> exact ⟨_, rfl, rfl⟩
      | none =>
        rw [q3] at hr
        obtain ⟨s, hr⟩ := hr
        rw [hr]
        exact ⟨_, rfl, _, rfl⟩
def word (A : An) : Str := altO A (fun (z : (Str × Str)) => z.1) (fun (z : ((Str × Str × (List Int)) ⊕ Str)) => altO z (fun (z : (Str × Str × (List Int))) => z.1) (fun (z : Str) => z))
theorem both_ok {ts : List Tb} {d : Dct} (h : Hd ts d) : m_l_made ts d = some (toA (ansT ts d)) ∧ m_l_base_caught ts d (word (toA (ansT ts d))) = some true := by
  obtain ⟨r, e, hr⟩ := store_res h
  have vt : m_Store___init___Vt ts d = m_Store___init ts d := rfl
  unfold m_l_made m_l_base_caught
  rw [vt, e]
  cases q : ansT ts d with
  | dup n => rw [q] at hr; rw [hr]; exact ⟨rfl, rfl⟩
  | str n => rw [q] at hr; rw [hr]; exact ⟨rfl, rfl⟩
  | bad t x =>
    rw [q] at hr; rw [hr]
    rcases x with x | x <;> exact ⟨rfl, rfl⟩
  | made =>
    rw [q] at hr
    obtain ⟨s, hr⟩ := hr
    rw [hr]; exact ⟨rfl, rfl⟩
theorem strn_lay {xs : List Str} (h : ∀ x ∈ xs, PyData.canLay0 (.str x) = true) : pyEq ((dLst PyData.str) xs) ((dHls dw0) ()) = some (decide (xs = [])) := (dt_lst dt_str).eq (by decide) (x := xs) (y := []) h (fun _ h => nomatch h)
theorem due_ok {ts : List Tb} {d : Dct} (h : Hd ts d) (hk : ∀ k ∈ d.map Prod.fst, PyData.canLay0 (.str k) = true) : m_l_due ts d = some (toA (ansT ts d)) := by
  have h8 := h.l8
  have hld := h.ld
  have e1 : compL m_l_due_c1 ts = some (nmT ts) := compL_mp fun _ _ => rfl
  have en : (nmT ts).length = ts.length := by unfold nmT; rw [List.length_map]
  obtain ⟨b, eb, e2⟩ : ∃ l, pyRng ((nmT ts).length : Int) = some l ∧ forL (m_l_due_b1 (nmT ts)) l () = stepD (dupN [] (nmT ts)) := by
    have := due_names (names := nmT ts) (by omega)
    rw [rng_some (by omega) (by omega), bindO_s] at this
    exact ⟨_, rng_some (by omega) (by omega), this⟩
  unfold m_l_due ansT
  rw [e1, bindO_s, letO_s, eb, bindO_s, e2]
  cases q : dupN [] (nmT ts) with
  | some n => rfl
  | none =>
    have nd : (nmT ts).Nodup := by have := dup_none q List.nodup_nil; rwa [List.nil_append] at this
    show bindO (some (Step.nx ())) _ = _
    rw [bindO_s, stepO_N, keysD_ok (by omega), bindO_s]
    have ef : compL (m_l_due_c2 (nmT ts)) (d.map Prod.fst) = some ((d.map Prod.fst).filter fun k => !decide (k ∈ nmT ts)) := by
      rw [compL_fm (g := fun k => if k ∈ nmT ts then none else some k) fun k _ => by
        unfold m_l_due_c2
        by_cases z : k ∈ nmT ts
        · rw [decide_eq_true z, Bool.not_true, letO_s, iteO_F, if_pos z]
        · rw [decide_eq_false z, Bool.not_false, letO_s, iteO_T, if_neg z]]
      congr 1
      rw [fm_if]
      exact List.filter_congr fun x _ => by rw [decide_not]
    have hl : ((d.map Prod.fst).filter fun k => !decide (k ∈ nmT ts)).length < 64 := by
      have := List.length_filter_le (fun k => !decide (k ∈ nmT ts)) (d.map Prod.fst)
      rw [List.length_map] at this
      omega
    rw [ef, bindO_s, sortS_ok hl, bindO_s, letO_s, sort_fil h.nk, strn_lay (fun x hx => hk x ((mem_sort oS).mp (List.mem_filter.mp hx).1)), bindO_s, letO_s]
    have hf : ((oS.sort (d.map Prod.fst)).filter fun k => !decide (k ∈ nmT ts)).head? = strN ts d := List.head?_filter ..
    cases q2 : strN ts d with
    | some n =>
      rw [q2] at hf
      obtain ⟨rest, er⟩ := List.head?_eq_some_iff.mp hf
      rw [er, decide_eq_false (by simp), Bool.not_false, iteO_T, show atI (n :: rest) (0 : Int) = some n from at_get (i := 0) rfl, bindO_s]
      rfl
    | none =>
      rw [q2] at hf
      have er := List.head?_eq_none_iff.mp hf
      rw [er, decide_eq_true rfl, Bool.not_true, iteO_F, sortS_ok (by omega), bindO_s, ← srtT_fst nd]
      have t4 := h.t4 q
      rw [forL_fndM (f := m_l_due_b3 d) (g := fun t : Tb => t.1) (p := fun t => (badR t [] (rwD d t)).map (ansR t)) fun t ht => by
        rw [due_b3 (t4 t ((mem_srtT nd).mp ht)) (Nat.le_of_lt (Nat.lt_trans (h.lr t ((mem_srtT nd).mp ht)) (by decide)))]
        cases (badR t [] (rwD d t)) <;> rfl]
      have fs : ∀ T : List Tb, (T.findSome? fun t => (badR t [] (rwD d t)).map (ansR t)) = (badT d T).map fun x => ansR x.1 x.2 := by
        intro T
        induction T with
        | nil => rfl
        | cons t T ih =>
          unfold badT
          rw [List.findSome?_cons, List.findSome?_cons]
          cases badR t [] (rwD d t) with
          | some x => rfl
          | none => exact ih
      rw [fs]
      dsimp only
      cases badT d (srtT ts) with
      | some x => rfl
      | none => rfl
end Law
set_option maxHeartbeats 4000000
namespace Law
local instance : G.TabL := ⟨[]⟩
open PySem L2 G
structure Rws (t : Tb) (rows : List (List Int)) (n : Nat) : Prop where
  fit : ∀ r ∈ rows, fitT t r
  nd : (rows.map (keyT t)).Nodup
  len : rows.length ≤ n
theorem Rws.snoc {t : Tb} {rows : List (List Int)} {n : Nat} (h : Rws t rows n) {r : List Int} (hr : fitT t r) (hk : keyT t r ∉ rows.map (keyT t)) : Rws t (rows ++ [r]) (n + 1) :=
  ⟨fun x hx => (List.mem_append.mp hx).elim (h.fit x) fun z => by rw [List.mem_singleton.mp z]; exact hr, by rw [List.map_append]; exact nodup_snoc.mpr ⟨h.nd, hk⟩, by rw [List.length_append, List.length_singleton]; have := h.len; omega⟩
theorem Rws.le {t : Tb} {rows : List (List Int)} {n m : Nat} (h : Rws t rows n) (k : n ≤ m) : Rws t rows m := ⟨h.fit, h.nd, Nat.le_trans h.len k⟩
theorem rows_nil (t : Tb) (n : Nat) : Rws t [] n := ⟨(fun _ h => nomatch h), .nil, Nat.zero_le _⟩
theorem rows_ok {t : Tb} (ht : t ∈ T4s) {n : Int} {st : Dr} (h : I n st) (hn : n ≤ 98000) : ∃ rows st', m_l_rows st t.1 = some (rows, st', ()) ∧ Rws t rows 6 ∧ I (n + 25) st' := by
  obtain ⟨d, s0, e0, d0, d1, i0⟩ := draw_ok h (by omega) (show (0 : Int) < 7 by decide) (by decide)
  obtain ⟨s, es, hs⟩ := forL_inv (ρ := List (List Int) × Dr × Unit) (f := m_l_rows_b1 t.1) (xs := rng 0 d.toNat) (s := (s0, [])) (k := 0) (fun i s => i ≤ d.toNat → Rws t s.2 i ∧ I (n + 1 + 3 * (i : Int)) s.1) (fun _ => ⟨rows_nil t 0, by simpa using i0⟩) (fun i x s hx hs => by
    have hi : i < d.toNat := (rng_get hx).1
    obtain ⟨h1, h2⟩ := hs (by omega)
    rw [Nat.zero_add] at h1 h2
    obtain ⟨r, s1, e1, f1, i1⟩ := row_ok ht h2 (by omega)
    have ek : compL (m_l_rows_c1 t.1) s.2 = some (s.2.map (keyT t)) := keys_ok ht (fun _ => rfl) h1.fit
    obtain ⟨q, e2, hq⟩ := (dt_tpl dt_int).isinE (by decide) (x := keyT t r) (ys := s.2.map (keyT t)) (fun _ _ => trivial) (fun _ _ _ _ => trivial)
    have hl := h1.len
    have fin : ∃ rows', m_l_rows_b1 t.1 x s = some (.nx (s1, rows')) ∧ Rws t rows' (i + 1) := by
      unfold m_l_rows_b1
      rw [e1, bindO_s, letO_s, key_ok ht f1, bindO_s, ek, bindO_s, e2, bindO_s, letO_s]
      cases q with
      | true => exact ⟨s.2, rfl, h1.le (by omega)⟩
      | false =>
        rw [Bool.not_false, iteO_T, app_some (by omega), bindO_s]
        exact ⟨_, rfl, h1.snoc f1 (fun z => by have := hq.mpr z; cases this)⟩
    obtain ⟨rows', e, h3⟩ := fin
    exact ⟨(s1, rows'), e, fun _ => ⟨by rw [Nat.zero_add]; exact h3, I_mono i1 (by omega)⟩⟩)
  rw [rng_len, Nat.zero_add] at hs
  obtain ⟨h1, h2⟩ := hs (Nat.le_refl _)
  refine ⟨s.2, s.1, ?_, h1.le (by omega), I_mono h2 (by omega)⟩
  unfold m_l_rows
  simp only [letO_s, e0, bindO_s, rng_some d0 (show d ≤ 1000 by omega), es, stepO_N]
end Law
set_option maxHeartbeats 4000000
namespace Law
local instance : G.TabL := ⟨[]⟩
open PySem L2 G
abbrev NM : List Str := nmT T4s
theorem nm_t4 {n : Str} (h : n ∈ NM) : ∃ t ∈ T4s, t.1 = n := List.mem_map.mp h
theorem fill_ok : ∀ (ns : List Str) (d : Dct) (st : Dr) (n : Int), (∀ x ∈ ns, x ∈ NM) → (d.map Prod.fst ++ ns).Nodup → d.length + ns.length ≤ 100 → (∀ x ∈ d, x.2.length ≤ 6) → I n st → n + 25 * (ns.length : Int) ≤ 90000 →
    ∃ d' st', forL m_law_b1 ns (d, st) = some (.nx (d', st')) ∧ d'.map Prod.fst = d.map Prod.fst ++ ns ∧ (∀ x ∈ d', x.2.length ≤ 6) ∧ I (n + 25 * (ns.length : Int)) st'
  | [], d, st, n, _, _, _, hr, hi, _ => ⟨d, st, rfl, by rw [List.append_nil], hr, by simpa using hi⟩
  | x :: ns, d, st, n, hx, nd, hl, hr, hi, hn => by
    rw [List.length_cons] at hl hn ⊢
    obtain ⟨t, t4, rfl⟩ := nm_t4 (hx x List.mem_cons_self)
    obtain ⟨rows, s1, e, rw', i1⟩ := rows_ok t4 hi (by omega)
    have hx' : t.1 ∉ d.map Prod.fst := fun z => (List.nodup_append.mp nd).2.2 _ z _ List.mem_cons_self rfl
    have e1 : m_law_b1 t.1 (d, st) = some (.nx (d ++ [(t.1, rows)], s1)) := by
      unfold m_law_b1
      rw [e, bindO_s, dput_new hx' (by omega), bindO_s]
    obtain ⟨d', st', e2, h1, h2, h3⟩ := fill_ok ns (d ++ [(t.1, rows)]) s1 (n + 25) (fun y hy => hx y (List.mem_cons_of_mem _ hy)) (by rw [List.map_append, List.append_assoc]; exact nd) (by rw [List.length_append, List.length_singleton]; omega) (fun y hy => (List.mem_append.mp hy).elim (hr y) fun z => by rw [List.mem_singleton.mp z]; exact rw'.len) i1 (by omega)
    refine ⟨d', st', by rw [forL_cons, e1]; exact e2, by rw [h1, List.map_append, List.append_assoc]; rfl, h2, I_mono h3 (by omega)⟩
abbrev KX : List Str := [(Str.ofString "aa"), (Str.ofString "zz"), (Str.ofString "bb"), (Str.ofString "c")]
theorem kx_nm : ∀ x ∈ KX, x ∉ NM := by decide +kernel
theorem key_lay : ∀ x ∈ NM ++ KX, PyData.canLay0 (.str x) = true := by decide +kernel
abbrev tq (n : Str) : Tb := (n, [Str.ofString "q"], [Str.ofString "q"], [0])
theorem tq_init : ∀ n ∈ NM, m_Table___init n [(Str.ofString "q")] [(Str.ofString "q")] = some (tq n) := by decide +kernel
theorem tq_tab {n : Str} (h : n ∈ NM) : TabK (tq n) where
  pl := by
    intro i hi
    rw [List.mem_singleton.mp hi]
    exact ⟨by decide, by show (0 : Nat) < 1; decide⟩
  ne := by simp
  tx := by
    obtain ⟨t, t4, rfl⟩ := nm_t4 h
    exact (tabK_4 t4).tx
  tc := by
    intro x hx
    rw [List.mem_singleton.mp hx]
    unfold TxO; decide +kernel
  tk := by
    intro x hx
    rw [List.mem_singleton.mp hx]
    unfold TxO; decide +kernel
structure In (i : Nat) (ts : List Tb) (d : Dct) : Prop where
  l1 : 0 < ts.length
  l4 : ts.length ≤ 4 + i
  tk : ∀ t ∈ ts, TabK t ∧ t.1 ∈ NM
  t4 : (∀ t ∈ ts, t ∈ T4s) ∨ ¬ (nmT ts).Nodup
  nk : (d.map Prod.fst).Nodup
  kk : ∀ k ∈ d.map Prod.fst, k ∈ NM ++ KX
  kl : d.length ≤ 4 + i
  sub : ∀ t ∈ ts, t.1 ∈ d.map Prod.fst
  lr : ∀ x ∈ d, x.2.length ≤ 6 + 2 * i
theorem In.hd {i : Nat} {ts : List Tb} {d : Dct} (h : In i ts d) (hi : i ≤ 4) : Hd ts d where
  l8 := by have := h.l4; omega
  nk := h.nk
  ld := by have := h.kl; omega
  tk t ht := (h.tk t ht).1
  t4 q := h.t4.elim id fun z => absurd (by have := dup_none q List.nodup_nil; rwa [List.nil_append] at this) z
  lr t _ := by
    unfold rwD
    cases q : getM d t.1 with
    | none => show ([] : List (List Int)).length < 64; decide
    | some rows =>
      have := h.lr _ (dg_of q)
      show rows.length < 64
      dsimp only at this
      omega
end Law
set_option maxHeartbeats 4000000
namespace Law
local instance : G.TabL := ⟨[]⟩
open PySem L2 G
theorem put_mem {β : Type} {l : List (Str × β)} {k : Str} {b : β} {x : Str × β} (h : x ∈ putM l k b) : x = (k, b) ∨ x ∈ l := by
  unfold putM at h
  split at h
  · obtain ⟨e, he, z⟩ := List.mem_map.mp h
    by_cases q : e.1 = k
    · rw [if_pos q] at z; rw [← z, q]; exact .inl rfl
    · rw [if_neg q] at z; rw [← z]; exact .inr he
  · rcases List.mem_append.mp h with h | h
    · exact .inr h
    · exact .inl (List.mem_singleton.mp h)
theorem put_key {β : Type} {l : List (Str × β)} {k x : Str} {b : β} (h : x ∈ (putM l k b).map Prod.fst) : x = k ∨ x ∈ l.map Prod.fst := by
  obtain ⟨z, hz, rfl⟩ := List.mem_map.mp h
  rcases put_mem hz with e | e
  · rw [e]; exact .inl rfl
  · exact .inr (List.mem_map_of_mem e)
theorem put_len {β : Type} {l : List (Str × β)} {k : Str} {b : β} (h : k ∈ l.map Prod.fst) : (putM l k b).length = l.length := by
  unfold putM
  rw [if_pos, List.length_map]
  obtain ⟨z, hz, e⟩ := List.mem_map.mp h
  exact List.any_eq_true.mpr ⟨z, hz, decide_eq_true e⟩
theorem ins_ok {α : Type} {xs : List α} {sp : Int} (h0 : 0 ≤ sp) (hl : xs.length ≤ 1000) (y : α) : ∃ ys, pyMod sp ((xs.length : Int) + 1) = some (sp % ((xs.length : Int) + 1)) ∧ pyIns xs (sp % ((xs.length : Int) + 1)) y = some ys ∧ ys.length = xs.length + 1 ∧ (∀ z ∈ ys, z = y ∨ z ∈ xs) ∧ y ∈ ys ∧ ∀ z ∈ xs, z ∈ ys := by
  have a0 : 0 ≤ sp % ((xs.length : Int) + 1) := Int.emod_nonneg _ (by omega)
  have a1 : sp % ((xs.length : Int) + 1) < (xs.length : Int) + 1 := Int.emod_lt_of_pos _ (by omega)
  refine ⟨xs.take (sp % ((xs.length : Int) + 1)).toNat ++ [y] ++ xs.drop (sp % ((xs.length : Int) + 1)).toNat, if_pos (by omega), if_pos ⟨by omega, a0, by omega⟩, ?_, fun z hz => ?_, ?_, fun z hz => ?_⟩
  · simp only [List.length_append, List.length_take, List.length_drop, List.length_singleton]
    omega
  · rcases List.mem_append.mp hz with hz | hz
    · rcases List.mem_append.mp hz with hz | hz
      · exact .inr (List.mem_of_mem_take hz)
      · exact .inl (List.mem_singleton.mp hz)
    · exact .inr (List.mem_of_mem_drop hz)
  · exact List.mem_append_left _ (List.mem_append_right _ (List.mem_singleton.mpr rfl))
  · rw [← List.take_append_drop (sp % ((xs.length : Int) + 1)).toNat xs] at hz
    rcases List.mem_append.mp hz with hz | hz
    · exact List.mem_append_left _ (List.mem_append_left _ hz)
    · exact List.mem_append_right _ hz
end Law
set_option maxHeartbeats 4000000
namespace Law
local instance : G.TabL := ⟨[]⟩
open PySem L2 G
theorem spoil_ok {i : Nat} (i3 : i ≤ 3) {ts : List Tb} {d : Dct} {st : Dr} {n : Int} (h : In i ts d) (hI : I n st) (hn : n ≤ 80000) : ∃ st' ts' d' u, m_l_spoil st ts d = some ((), (st', (ts', (d', u)))) ∧ In (i + 1) ts' d' ∧ I (n + 8) st' := by
  have l4 := h.l4
  have l1 := h.l1
  have kl := h.kl
  obtain ⟨kind, s1, e1, a0, a1, j1⟩ := draw_ok hI (by omega) (show (0 : Int) < 5 by decide) (by decide)
  obtain ⟨spot, s2, e2, b0, b1, j2⟩ := draw_ok j1 (by omega) (show (0 : Int) < 8 by decide) (by decide)
  obtain ⟨pk, s3, e3, c0, c1, j3⟩ := draw_ok j2 (by omega) (show (0 : Int) < (ts.length : Int) by omega) (by omega)
  obtain ⟨y, ey⟩ := at_some (l := ts) c0 c1
  have hy := at_mem ey
  obtain ⟨t, t4, et⟩ := nm_t4 (h.tk y hy).2
  obtain ⟨here, eh⟩ : ∃ here, getM d y.1 = some here := by
    cases q : getM d y.1 with
    | some r => exact ⟨r, rfl⟩
    | none => exact absurd (h.sub y hy) (dg_none.mp q)
  have lh : here.length ≤ 6 + 2 * i := h.lr _ (dg_of eh)
  obtain ⟨row, s4, e4, fr, j4⟩ := row_ok t4 j3 (by omega)
  rw [et] at e4
  have hrow : row.length ≤ 3 := by have := wid t4; unfold fitT at fr; omega
  unfold m_l_spoil
  rw [e1, bindO_s, letO_s, e2, bindO_s, letO_s, e3, bindO_s, ey, bindO_s, letO_s, eh, bindO_s, e4, bindO_s, letO_s, letO_s]
  obtain ⟨ts', ea, hts⟩ : ∃ ts', iteO (decide (kind = (0 : Int))) (bindO (pyMod spot ((ts.length : Int) + (1 : Int))) fun r13 => bindO (m_Table___init y.1 [(Str.ofString "q")] [(Str.ofString "q")]) fun o14 => bindO (pyIns ts r13 o14) fun tables_here15 => some tables_here15) (some ts) = some ts' ∧ (ts' = ts ∨ (ts'.length = ts.length + 1 ∧ (∀ z ∈ ts', z = tq y.1 ∨ z ∈ ts) ∧ ¬ (nmT ts').Nodup)) := by
    by_cases q : kind = 0
    · have a0' : 0 ≤ spot % ((ts.length : Int) + 1) := Int.emod_nonneg _ (by omega)
      have a1' : spot % ((ts.length : Int) + 1) < (ts.length : Int) + 1 := Int.emod_lt_of_pos _ (by omega)
      obtain ⟨ys, f1, f2, f3, f4, _, _⟩ := ins_ok (xs := ts) b0 (by omega) (tq y.1)
      rw [decide_eq_true q, iteO_T, f1, bindO_s, tq_init _ (h.tk y hy).2, bindO_s, f2, bindO_s]
      refine ⟨ys, rfl, .inr ⟨f3, f4, fun nd => ?_⟩⟩
      have e : ys = ts.take (spot % ((ts.length : Int) + 1)).toNat ++ [tq y.1] ++ ts.drop (spot % ((ts.length : Int) + 1)).toNat := by
        have : pyIns ts (spot % ((ts.length : Int) + 1)) (tq y.1) = some (ts.take (spot % ((ts.length : Int) + 1)).toNat ++ [tq y.1] ++ ts.drop (spot % ((ts.length : Int) + 1)).toNat) := if_pos ⟨by omega, a0', by omega⟩
        rw [this] at f2
        exact (Option.some.inj f2).symm
      have hp : ys.Perm (tq y.1 :: ts) := by
        rw [e, List.append_assoc]
        refine List.perm_middle.trans ?_
        show (tq y.1 :: (List.take (spot % ((ts.length : Int) + 1)).toNat ts ++ List.drop (spot % ((ts.length : Int) + 1)).toNat ts)).Perm _
        rw [List.take_append_drop]
      have := (hp.map fun t => t.1).nodup_iff.mp nd
      rw [List.map_cons] at this
      exact (List.nodup_cons.mp this).1 (List.mem_map.mpr ⟨y, hy, rfl⟩)
    · rw [decide_eq_false q, iteO_F]; exact ⟨ts, rfl, .inl rfl⟩
  rw [ea, bindO_s, letO_s]
  obtain ⟨d1, eb, hd⟩ : ∃ d1, iteO (decide (kind = (1 : Int))) (bindO (atI [(Str.ofString "aa"), (Str.ofString "zz"), (Str.ofString "bb"), (Str.ofString "c")] (spot % (4 : Int))) fun y18 => bindO (pyNe y18 y.1) fun _ => bindO (pyPutD d y18 []) fun d19 => some d19) (some d) = some d1 ∧ (d1 = d ∨ ∃ k ∈ KX, d1 = putM d k []) := by
    by_cases q : kind = 1
    · obtain ⟨k, ek⟩ := at_some (l := KX) (i := spot % 4) (Int.emod_nonneg _ (by decide)) (by have := Int.emod_lt_of_pos spot (show (0 : Int) < 4 by decide); exact this)
      have hk := at_mem ek
      have hne : pyNe k y.1 = some () := if_neg (fun e : k = y.1 => kx_nm k hk (by rw [e]; exact (h.tk y hy).2))
      rw [decide_eq_true q, iteO_T, show atI [(Str.ofString "aa"), (Str.ofString "zz"), (Str.ofString "bb"), (Str.ofString "c")] (spot % (4 : Int)) = some k from ek, bindO_s, hne, bindO_s, show pyPutD d k [] = some (putM d k []) from if_pos (by omega), bindO_s]
      exact ⟨_, rfl, .inr ⟨k, hk, rfl⟩⟩
    · rw [decide_eq_false q, iteO_F]; exact ⟨d, rfl, .inl rfl⟩
  rw [eb, bindO_s, letO_s]
  obtain ⟨h22, ec, l22, k22⟩ : ∃ h22, iteO (decide (kind = (2 : Int))) (bindO (pyMod spot ((here.length : Int) + (1 : Int))) fun r23 => bindO (pyCat row [(1 : Int)]) fun l24 => bindO (pyIns here r23 l24) fun here25 => some here25) (some here) = some h22 ∧ h22.length ≤ here.length + 1 ∧ (kind ≠ 2 → h22 = here) := by
    by_cases q : kind = 2
    · obtain ⟨ys, f1, f2, f3, _⟩ := ins_ok (xs := here) b0 (by omega) (row ++ [1])
      rw [decide_eq_true q, iteO_T, f1, bindO_s, cat_some (by omega) (by simp), bindO_s, f2, bindO_s]
      exact ⟨ys, rfl, by omega, fun z => absurd q z⟩
    · rw [decide_eq_false q, iteO_F]; exact ⟨here, rfl, by omega, fun _ => rfl⟩
  rw [ec, bindO_s, letO_s]
  obtain ⟨h27, ed, l27, k27⟩ : ∃ h27, iteO (decide (kind = (3 : Int))) (bindO (pyMod spot ((h22.length : Int) + (1 : Int))) fun r28 => bindO (pyIns h22 r28 (cut row (some (1 : Int)) none)) fun here29 => some here29) (some h22) = some h27 ∧ h27.length ≤ h22.length + 1 ∧ (kind ≠ 3 → h27 = h22) := by
    by_cases q : kind = 3
    · obtain ⟨ys, f1, f2, f3, _⟩ := ins_ok (xs := h22) b0 (by omega) (cut row (some (1 : Int)) none)
      rw [decide_eq_true q, iteO_T, f1, bindO_s, f2, bindO_s]
      exact ⟨ys, rfl, by omega, fun z => absurd q z⟩
    · rw [decide_eq_false q, iteO_F]; exact ⟨h22, rfl, by omega, fun _ => rfl⟩
  rw [ed, bindO_s, letO_s]
  have hin : y.1 ∈ d1.map Prod.fst := by
    rcases hd with rfl | ⟨k, _, rfl⟩
    · exact h.sub y hy
    · exact putM_in (h.sub y hy)
  have fin : ∀ hz : List (List Int), hz.length ≤ here.length + 2 → In (i + 1) ts' (putM d1 y.1 hz) := fun hz lz => by
    have d1n : (d1.map Prod.fst).Nodup := by
      rcases hd with rfl | ⟨k, _, rfl⟩
      · exact h.nk
      · exact putM_nk h.nk
    have d1l : d1.length ≤ d.length + 1 := by
      rcases hd with rfl | ⟨k, _, rfl⟩
      · omega
      · exact putM_len d k []
    refine ⟨?_, ?_, fun z hz' => ?_, ?_, putM_nk d1n, fun k hk => ?_, by rw [put_len hin]; omega, fun z hz' => ?_, fun x hx => ?_⟩
    · rcases hts with rfl | ⟨a, _, _⟩ <;> omega
    · rcases hts with rfl | ⟨a, _, _⟩ <;> omega
    · rcases hts with rfl | ⟨_, b, _⟩
      · exact h.tk z hz'
      · rcases b z hz' with rfl | b
        · exact ⟨tq_tab (h.tk y hy).2, (h.tk y hy).2⟩
        · exact h.tk z b
    · rcases hts with rfl | ⟨_, _, c⟩
      · exact h.t4
      · exact .inr c
    · rcases put_key hk with rfl | hk
      · exact List.mem_append_left _ (h.tk y hy).2
      · rcases hd with rfl | ⟨k2, hk2, rfl⟩
        · exact h.kk k hk
        · rcases put_key hk with rfl | hk
          · exact List.mem_append_right _ hk2
          · exact h.kk k hk
    · have : z.1 ∈ d.map Prod.fst := by
        rcases hts with rfl | ⟨_, b, _⟩
        · exact h.sub z hz'
        · rcases b z hz' with rfl | b
          · exact h.sub y hy
          · exact h.sub z b
      refine putM_in ?_
      rcases hd with rfl | ⟨k, _, rfl⟩
      · exact this
      · exact putM_in this
    · rcases put_mem hx with rfl | hx
      · show hz.length ≤ _; omega
      · rcases hd with rfl | ⟨k, _, rfl⟩
        · have := h.lr x hx; omega
        · rcases put_mem hx with rfl | hx
          · show ([] : List (List Int)).length ≤ _; simp
          · have := h.lr x hx; omega
  by_cases q : kind = 4
  · have e27 : h27 = here := by rw [k27 (by omega), k22 (by omega)]
    subst e27
    obtain ⟨h33, ef, l33⟩ : ∃ h33, iteO (decide (h27 = [])) (bindO (pyApp h27 row) fun here34 => some here34) (some h27) = some h33 ∧ h33.length ≤ h27.length + 1 ∧ 0 < h33.length := by
      by_cases z : h27 = []
      · rw [decide_eq_true z, iteO_T, app_some (by omega), bindO_s]
        exact ⟨_, rfl, by rw [List.length_append, List.length_singleton]; omega, by rw [List.length_append, List.length_singleton]; omega⟩
      · rw [decide_eq_false z, iteO_F]
        exact ⟨_, rfl, by omega, List.length_pos_iff.mpr z⟩
    obtain ⟨tw, s5, e5, g0, g1, j5⟩ := draw_ok j4 (by omega) (show (0 : Int) < (h33.length : Int) by omega) (by omega)
    obtain ⟨w, ew⟩ := at_some (l := h33) g0 g1
    obtain ⟨ys, f1, f2, f3, _⟩ := ins_ok (xs := h33) b0 (by omega) w
    rw [decide_eq_true q, iteO_T, show pyEq ((dLst (dTpl PyData.int)) h27) ((dHls dw0) ()) = some (decide (h27 = [])) from (dt_lst (dt_tpl dt_int)).eq (by decide) (x := h27) (y := []) (fun _ _ _ _ => trivial) (fun _ h => nomatch h), bindO_s, letO_s, ef, bindO_s, e5, bindO_s, ew, bindO_s, letO_s, f1, bindO_s, f2, bindO_s]
    exact ⟨_, _, _, _, rfl, fin ys (by omega), I_mono j5 (by omega)⟩
  · rw [decide_eq_false q, iteO_F]
    have : h27.length ≤ here.length + 2 := by omega
    exact ⟨_, _, _, _, rfl, fin h27 this, I_mono j4 (by omega)⟩
end Law
set_option maxHeartbeats 4000000
namespace Law
local instance : G.TabL := ⟨[]⟩
open PySem L2 G
theorem laid : PyData.canLay0 (.str (Str.ofString "DuplicateTable")) = true ∧ PyData.canLay0 (.str (Str.ofString "NoTable")) = true ∧ PyData.canLay0 (.str (Str.ofString "InvalidRow")) = true ∧ PyData.canLay0 (.str (Str.ofString "DuplicateKey")) = true ∧ PyData.canLay0 (.str (Str.ofString "made")) = true := by decide +kernel
theorem eqA {ts : List Tb} {d : Dct} (h1 : ∀ t ∈ ts, PyData.canLay0 (.str t.1) = true) (h2 : ∀ k ∈ d.map Prod.fst, PyData.canLay0 (.str k) = true) (nd : dupN [] (nmT ts) = none → (nmT ts).Nodup) : pyEq ((dAlt (dTup (dwC PyData.str (dw1 PyData.str))) (dAlt (dTup (dwC PyData.str (dwC PyData.str (dw1 (dTpl PyData.int))))) (dTup (dw1 PyData.str)))) (toA (ansT ts d))) ((dAlt (dTup (dwC PyData.str (dw1 PyData.str))) (dAlt (dTup (dwC PyData.str (dwC PyData.str (dw1 (dTpl PyData.int))))) (dTup (dw1 PyData.str)))) (toA (ansT ts d))) = some true := by
  have key : ∀ {α : Type} [DecidableEq α] {f : α → PyData} {Z : α → Prop} {k : Nat} (D : Dt f Z k) (hk : k ≤ 64) {x : α}, Z x → pyEq (f x) (f x) = some true := fun D hk x hx => by
    have := D.eq hk hx hx
    rw [decide_eq_true rfl] at this
    exact this
  have c1 : ∀ s : Str × Str, PyData.canLay0 (.str s.1) = true → PyData.canLay0 (.str s.2) = true → pyEq (dTup (dwC PyData.str (dw1 PyData.str)) s) (dTup (dwC PyData.str (dw1 PyData.str)) s) = some true := fun s a b => key (dt_tup (dw_C dt_str (dw_1 dt_str))) (by decide) ⟨a, b⟩
  have c2 : ∀ s : Str × Str × List Int, PyData.canLay0 (.str s.1) = true → PyData.canLay0 (.str s.2.1) = true → pyEq (dTup (dwC PyData.str (dwC PyData.str (dw1 (dTpl PyData.int)))) s) (dTup (dwC PyData.str (dwC PyData.str (dw1 (dTpl PyData.int)))) s) = some true := fun s a b => key (dt_tup (dw_C (dt_str.up (Nat.zero_le 1)) (dw_C (dt_str.up (Nat.zero_le 1)) (dw_1 (dt_tpl dt_int))))) (by decide) ⟨a, b, fun _ _ => trivial⟩
  have c3 : ∀ s : Str, PyData.canLay0 (.str s) = true → pyEq (dTup (dw1 PyData.str) s) (dTup (dw1 PyData.str) s) = some true := fun s a => key (dt_tup (dw_1 dt_str)) (by decide) a
  have dl : ∀ (ns done : List Str) n, dupN done ns = some n → n ∈ ns := by
    intro ns
    induction ns with
    | nil => intro _ _ h; cases h
    | cons x ns ih =>
      intro done n h
      unfold dupN at h
      split at h
      · cases h; exact List.mem_cons_self
      · exact List.mem_cons_of_mem _ (ih _ _ h)
  unfold ansT
  cases q : dupN [] (nmT ts) with
  | some n =>
    have := dl _ _ _ q
    obtain ⟨t, ht, e⟩ := List.mem_map.mp this
    exact c1 (_, n) laid.1 (e ▸ h1 t ht)
  | none =>
    dsimp only
    cases q2 : strN ts d with
    | some n => exact c1 (_, n) laid.2.1 (h2 n ((mem_sort oS).mp (List.mem_of_find?_eq_some q2)))
    | none =>
      dsimp only
      cases q3 : badT d (srtT ts) with
      | some x =>
        obtain ⟨t, x⟩ := x
        have ht : t ∈ ts := by
          obtain ⟨u, hu, e⟩ := List.exists_of_findSome?_eq_some q3
          cases z : badR u [] (rwD d u) with
          | none => rw [z] at e; cases e
          | some w =>
            rw [z] at e
            cases e
            exact (mem_srtT (nd q)).mp hu
        rcases x with x | x
        · exact c2 (_, t.1, x) laid.2.2.1 (h1 t ht)
        · exact c2 (_, t.1, x) laid.2.2.2.1 (h1 t ht)
      | none => exact c3 _ laid.2.2.2.2
theorem law_true (ns : List Int) (hlen : ns.length ≤ 63) : m_law ns = some true := by
  obtain ⟨s0, e0, i0⟩ := start_ok ns hlen
  obtain ⟨fa, s1, e1, f0, f1, i1⟩ := draw_ok i0 (by omega) (show (0 : Int) < 3 by decide) (by decide)
  obtain ⟨ts, s2, e2, tb, i2⟩ := tables_drawn i1 (by omega)
  obtain ⟨od, s3, e3, _, _, i3⟩ := draw_ok i2 (by omega) (show (0 : Int) < 2 by decide) (by decide)
  have l2 := tb.lo
  have l4 := tb.hi
  obtain ⟨ord, eo, po⟩ : ∃ ord, iteO (decide (od = (0 : Int))) (letO ((nmT ts).reverse) fun order14 => some order14) (some (nmT ts)) = some ord ∧ ord.Perm (nmT ts) := by
    by_cases q : od = 0
    · rw [decide_eq_true q, iteO_T]; exact ⟨_, rfl, List.reverse_perm _⟩
    · rw [decide_eq_false q, iteO_F]; exact ⟨_, rfl, List.Perm.refl _⟩
  have en : (nmT ts).length = ts.length := by unfold nmT; rw [List.length_map]
  have lo := po.length_eq
  obtain ⟨d, s4, e4, hk, hr, i4⟩ := fill_ok ord [] s3 (0 + 1 + 5 + 1) (fun x hx => by
    obtain ⟨t, ht, e⟩ := List.mem_map.mp (po.mem_iff.mp hx)
    exact List.mem_map.mpr ⟨t, tb.mem t ht, e⟩) (by rw [List.map_nil, List.nil_append]; exact po.nodup_iff.mpr tb.nd) (by simp; omega) (fun _ z => nomatch z) i3 (by omega)
  rw [List.map_nil, List.nil_append] at hk
  have dl : d.length = ts.length := by
    have := congrArg List.length hk
    rw [List.length_map] at this
    omega
  have in0 : In 0 ts d := ⟨by omega, by omega, fun t ht => ⟨tabK_4 (tb.mem t ht), List.mem_map.mpr ⟨t, tb.mem t ht, rfl⟩⟩, .inl tb.mem, by rw [hk]; exact po.nodup_iff.mpr tb.nd, fun k z => by
    rw [hk] at z
    obtain ⟨t, ht, e⟩ := List.mem_map.mp (po.mem_iff.mp z)
    exact List.mem_append_left _ (List.mem_map.mpr ⟨t, tb.mem t ht, e⟩), by omega, fun t ht => by rw [hk]; exact po.mem_iff.mpr (List.mem_map.mpr ⟨t, ht, rfl⟩), fun x hx => by have := hr x hx; omega⟩
  obtain ⟨s', ef, hs⟩ := forL_inv (ρ := Bool) (f := m_law_b2) (xs := rng 0 fa.toNat) (s := (s4, ts, d)) (k := 0) (fun i s => i ≤ fa.toNat → In i s.2.1 s.2.2 ∧ I (200 + 8 * (i : Int)) s.1) (fun _ => ⟨in0, I_mono i4 (by omega)⟩) (fun i x s hx hs => by
    have hi : i < fa.toNat := (rng_get hx).1
    obtain ⟨h1, h2⟩ := hs (by omega)
    rw [Nat.zero_add] at h1 h2
    obtain ⟨st', ts', d', u, e, h3, h4⟩ := spoil_ok (by omega) h1 h2 (by omega)
    refine ⟨(st', ts', d'), ?_, fun _ => ⟨by rw [Nat.zero_add]; exact h3, I_mono h4 (by omega)⟩⟩
    unfold m_law_b2
    rw [e, bindO_s])
  rw [rng_len, Nat.zero_add] at hs
  obtain ⟨hin, _⟩ := hs (Nat.le_refl _)
  have H := hin.hd (by omega)
  obtain ⟨b1, b2⟩ := both_ok H
  have hlay : ∀ k ∈ s'.2.2.map Prod.fst, PyData.canLay0 (.str k) = true := fun k hk => key_lay k (hin.kk k hk)
  have e5 := due_ok H hlay
  have e6 := eqA (ts := s'.2.1) (d := s'.2.2) (fun t ht => key_lay _ (List.mem_append_left _ (hin.tk t ht).2)) hlay (fun q => by have := dup_none q List.nodup_nil; rwa [List.nil_append] at this)
  have hld := H.ld
  have ec : ∀ f : Str → Option (Option (List (List Int))), (∀ k, f k = bindO (getM s'.2.2 k) fun y => some (some y)) → compL f (s'.2.2.map Prod.fst) = some ((s'.2.2.map Prod.fst).map fun k => (getM s'.2.2 k).getD []) := fun f hf => compL_mp fun k hk => by
    rw [hf]
    cases q : getM s'.2.2 k with
    | none => exact absurd hk (dg_none.mp q)
    | some y => rfl
  have e7 : ∀ xs : List (List (List Int)), pyEq ((dLst (dLst (dTpl PyData.int))) xs) ((dLst (dLst (dTpl PyData.int))) xs) = some true := fun xs => by
    have := (dt_lst (dt_lst (dt_tpl dt_int))).eq (by decide) (x := xs) (y := xs) (fun _ _ _ _ _ _ => trivial) (fun _ _ _ _ _ _ => trivial)
    rw [decide_eq_true rfl] at this
    exact this
  have e8 : compL m_law_c1 ts = some (nmT ts) := compL_mp fun _ _ => rfl
  unfold m_law
  rw [e0, bindO_s, letO_s, e1, bindO_s, letO_s, e2, bindO_s, letO_s, e8, bindO_s, letO_s, e3, bindO_s, letO_s, eo, bindO_s, e4, bindO_s, stepO_N, rng_some f0 (by omega), bindO_s, ef, bindO_s, stepO_N, e5, bindO_s, letO_s, keysD_ok (by omega), bindO_s, ec (m_law_c2 s') (fun _ => rfl), bindO_s, letO_s, b1, bindO_s, e6, bindO_s, Bool.not_true, letO_s, iteO_F, bindO_s, ec (m_law_c3 s') (fun _ => rfl), bindO_s, e7, bindO_s, Bool.not_true, bindO_s, letO_s, iteO_F]
  rw [show altO (toA (ansT s'.2.1 s'.2.2)) (fun (z : (Str × Str)) => z.1) (fun (z : ((Str × Str × (List Int)) ⊕ Str)) => altO z (fun (z : (Str × Str × (List Int))) => z.1) (fun (z : Str) => z)) = word (toA (ansT s'.2.1 s'.2.2)) from rfl, b2]
  rfl
end Law
namespace LinH
open PySem PySem.W
end LinH
set_option maxHeartbeats 4000000
namespace Law
open PySem PySem.Spec PyProof.Rows L2 G
theorem all_mk [TabL] {P : Program} {w : World} {K : PySem.W.Frag} {h : Heap} {mg : Str → Option Value} {fa : Addr} (X : K.In h) (G : h.Ns mainGlobals mg) (hfa : mg "law" = some (.ref fa))
    {C_Table : Addr} {C_InvalidRow : Addr} {C_DuplicateTable : Addr} {C_Shelf : Addr} {C_DuplicateKey : Addr} {C_NoTable : Addr}
    {C_Store : Addr} {C_ShownError : Addr} {C_Unlike : Addr} {oc_is_name : Value} {kV_is_name : Value} {dc_is_name : Value}
    {pm_is_name : Value} {cd_is_name : Value} {ct_is_name : Value} {od_is_name an_is_name : Option Addr} {sl_is_name : Array (Option Value)} {f_is_name : Addr} {oc_are_columns : Value} {kV_are_columns : Value}
    {dc_are_columns : Value} {pm_are_columns : Value} {cd_are_columns : Value} {ct_are_columns : Value} {od_are_columns an_are_columns : Option Addr} {sl_are_columns : Array (Option Value)} {f_are_columns : Addr} {oc_is_key : Value}
    {kV_is_key : Value} {dc_is_key : Value} {pm_is_key : Value} {cd_is_key : Value} {ct_is_key : Value} {od_is_key an_is_key : Option Addr} {sl_is_key : Array (Option Value)} {f_is_key : Addr}
    {oc_Table___init : Value} {kV_Table___init : Value} {dc_Table___init : Value} {pm_Table___init : Value} {cd_Table___init : Value} {ct_Table___init : Value}
    {od_Table___init an_Table___init : Option Addr} {sl_Table___init : Array (Option Value)} {f_Table___init : Addr} {oc_Table_fits : Value} {kV_Table_fits : Value} {dc_Table_fits : Value} {pm_Table_fits : Value} {cd_Table_fits : Value}
    {ct_Table_fits : Value} {od_Table_fits an_Table_fits : Option Addr} {sl_Table_fits : Array (Option Value)} {f_Table_fits : Addr} {oc_Table_key_of : Value} {kV_Table_key_of : Value} {dc_Table_key_of : Value} {pm_Table_key_of : Value}
    {cd_Table_key_of : Value} {ct_Table_key_of : Value} {od_Table_key_of an_Table_key_of : Option Addr} {sl_Table_key_of : Array (Option Value)} {f_Table_key_of : Addr} {oc_sorted_tables : Value} {kV_sorted_tables : Value} {dc_sorted_tables : Value}
    {pm_sorted_tables : Value} {cd_sorted_tables : Value} {ct_sorted_tables : Value} {od_sorted_tables an_sorted_tables : Option Addr} {sl_sorted_tables : Array (Option Value)} {f_sorted_tables : Addr} {oc_Shelf___init : Value} {kV_Shelf___init : Value}
    {dc_Shelf___init : Value} {pm_Shelf___init : Value} {cd_Shelf___init : Value} {ct_Shelf___init : Value} {od_Shelf___init an_Shelf___init : Option Addr} {sl_Shelf___init : Array (Option Value)} {f_Shelf___init : Addr} {oc_shelf_of : Value}
    {kV_shelf_of : Value} {dc_shelf_of : Value} {pm_shelf_of : Value} {cd_shelf_of : Value} {ct_shelf_of : Value} {od_shelf_of an_shelf_of : Option Addr} {sl_shelf_of : Array (Option Value)} {f_shelf_of : Addr}
    {oc_filled_shelves : Value} {kV_filled_shelves : Value} {dc_filled_shelves : Value} {pm_filled_shelves : Value} {cd_filled_shelves : Value} {ct_filled_shelves : Value}
    {od_filled_shelves an_filled_shelves : Option Addr} {sl_filled_shelves : Array (Option Value)} {f_filled_shelves : Addr} {oc_Store___init : Value} {kV_Store___init : Value} {dc_Store___init : Value} {pm_Store___init : Value} {cd_Store___init : Value}
    {ct_Store___init : Value} {tc_Store___init : Value} {od_Store___init an_Store___init td_Store___init : Option Addr} {sl_Store___init ts_Store___init : Array (Option Value)} {f_Store___init T_Store___init : Addr} {tn_Store___init : Nat} {oc_l_start : Value} {kV_l_start : Value} {dc_l_start : Value}
    {pm_l_start : Value} {cd_l_start : Value} {ct_l_start : Value} {od_l_start an_l_start : Option Addr} {sl_l_start : Array (Option Value)} {f_l_start : Addr} {oc_l_draw : Value} {kV_l_draw : Value}
    {dc_l_draw : Value} {pm_l_draw : Value} {cd_l_draw : Value} {ct_l_draw : Value} {od_l_draw an_l_draw : Option Addr} {sl_l_draw : Array (Option Value)} {f_l_draw : Addr} {oc_l_tables : Value}
    {kV_l_tables : Value} {dc_l_tables : Value} {pm_l_tables : Value} {cd_l_tables : Value} {ct_l_tables : Value} {od_l_tables an_l_tables : Option Addr} {sl_l_tables : Array (Option Value)} {f_l_tables : Addr}
    {oc_l_key : Value} {kV_l_key : Value} {dc_l_key : Value} {pm_l_key : Value} {cd_l_key : Value} {ct_l_key : Value}
    {od_l_key an_l_key : Option Addr} {sl_l_key : Array (Option Value)} {f_l_key : Addr} {oc_l_size : Value} {kV_l_size : Value} {dc_l_size : Value} {pm_l_size : Value} {cd_l_size : Value}
    {ct_l_size : Value} {od_l_size an_l_size : Option Addr} {sl_l_size : Array (Option Value)} {f_l_size : Addr} {oc_l_row : Value} {kV_l_row : Value} {dc_l_row : Value} {pm_l_row : Value}
    {cd_l_row : Value} {ct_l_row : Value} {od_l_row an_l_row : Option Addr} {sl_l_row : Array (Option Value)} {f_l_row : Addr} {oc_l_rows : Value} {kV_l_rows : Value} {dc_l_rows : Value}
    {pm_l_rows : Value} {cd_l_rows : Value} {ct_l_rows : Value} {od_l_rows an_l_rows : Option Addr} {sl_l_rows : Array (Option Value)} {f_l_rows : Addr} {oc_l_spoil : Value} {kV_l_spoil : Value}
    {dc_l_spoil : Value} {pm_l_spoil : Value} {cd_l_spoil : Value} {ct_l_spoil : Value} {od_l_spoil an_l_spoil : Option Addr} {sl_l_spoil : Array (Option Value)} {f_l_spoil : Addr} {oc_l_due : Value}
    {kV_l_due : Value} {dc_l_due : Value} {pm_l_due : Value} {cd_l_due : Value} {ct_l_due : Value} {od_l_due an_l_due : Option Addr} {sl_l_due : Array (Option Value)} {f_l_due : Addr}
    {oc_l_made : Value} {kV_l_made : Value} {dc_l_made : Value} {pm_l_made : Value} {cd_l_made : Value} {ct_l_made : Value}
    {od_l_made an_l_made : Option Addr} {sl_l_made : Array (Option Value)} {f_l_made : Addr} {oc_l_base_caught : Value} {kV_l_base_caught : Value} {dc_l_base_caught : Value} {pm_l_base_caught : Value} {cd_l_base_caught : Value}
    {ct_l_base_caught : Value} {od_l_base_caught an_l_base_caught : Option Addr} {sl_l_base_caught : Array (Option Value)} {f_l_base_caught : Addr} {oc_law : Value} {kV_law : Value} {dc_law : Value} {pm_law : Value}
    {cd_law : Value} {ct_law : Value} {od_law an_law : Option Addr} {sl_law : Array (Option Value)} {f_law : Addr} {tk_FIRST : Tok} {tk_FURTHER : Tok} {tk_LONGEST : Tok}
    {nm_DuplicateKey q_DuplicateKey : Str} {N_DuplicateKey : Addr} {bs_DuplicateKey bm_DuplicateKey sub_DuplicateKey : List Value} {sn_DuplicateKey : List Str} {ab_DuplicateKey : Bool} {col_DuplicateKey : Option Bool} {dd_DuplicateKey : Option Addr} {m0_DuplicateKey m1_DuplicateKey m2_DuplicateKey m3_DuplicateKey m5_DuplicateKey : Option Value} {oc_e_DuplicateKey : Value} {kV_e_DuplicateKey : Value} {dc_e_DuplicateKey : Value} {pm_e_DuplicateKey : Value} {cd_e_DuplicateKey : Value}
    {ct_e_DuplicateKey : Value} {od_e_DuplicateKey an_e_DuplicateKey : Option Addr} {sl_e_DuplicateKey : Array (Option Value)} {f_e_DuplicateKey : Addr} {nm_DuplicateTable q_DuplicateTable : Str} {N_DuplicateTable : Addr} {bs_DuplicateTable bm_DuplicateTable sub_DuplicateTable : List Value} {sn_DuplicateTable : List Str} {ab_DuplicateTable : Bool} {col_DuplicateTable : Option Bool} {dd_DuplicateTable : Option Addr} {m0_DuplicateTable m1_DuplicateTable m2_DuplicateTable m3_DuplicateTable m5_DuplicateTable : Option Value} {oc_e_DuplicateTable : Value} {kV_e_DuplicateTable : Value} {dc_e_DuplicateTable : Value}
    {pm_e_DuplicateTable : Value} {cd_e_DuplicateTable : Value} {ct_e_DuplicateTable : Value} {od_e_DuplicateTable an_e_DuplicateTable : Option Addr} {sl_e_DuplicateTable : Array (Option Value)} {f_e_DuplicateTable : Addr} {nm_InvalidRow q_InvalidRow : Str} {N_InvalidRow : Addr} {bs_InvalidRow bm_InvalidRow sub_InvalidRow : List Value} {sn_InvalidRow : List Str} {ab_InvalidRow : Bool} {col_InvalidRow : Option Bool} {dd_InvalidRow : Option Addr} {m0_InvalidRow m1_InvalidRow m2_InvalidRow m3_InvalidRow m5_InvalidRow : Option Value} {oc_e_InvalidRow : Value}
    {kV_e_InvalidRow : Value} {dc_e_InvalidRow : Value} {pm_e_InvalidRow : Value} {cd_e_InvalidRow : Value} {ct_e_InvalidRow : Value} {od_e_InvalidRow an_e_InvalidRow : Option Addr} {sl_e_InvalidRow : Array (Option Value)} {f_e_InvalidRow : Addr}
    {nm_NoTable q_NoTable : Str} {N_NoTable : Addr} {bs_NoTable bm_NoTable sub_NoTable : List Value} {sn_NoTable : List Str} {ab_NoTable : Bool} {col_NoTable : Option Bool} {dd_NoTable : Option Addr} {m0_NoTable m1_NoTable m2_NoTable m3_NoTable m5_NoTable : Option Value} {oc_e_NoTable : Value} {kV_e_NoTable : Value} {dc_e_NoTable : Value} {pm_e_NoTable : Value} {cd_e_NoTable : Value}
    {ct_e_NoTable : Value} {od_e_NoTable an_e_NoTable : Option Addr} {sl_e_NoTable : Array (Option Value)} {f_e_NoTable : Addr}
    (aC_Table : PySem.W.nsIn K mainGlobals "Table" = some (some (.ref C_Table)))
    (aC_InvalidRow : PySem.W.nsIn K mainGlobals "InvalidRow" = some (some (.ref C_InvalidRow)))
    (aC_DuplicateTable : PySem.W.nsIn K mainGlobals "DuplicateTable" = some (some (.ref C_DuplicateTable)))
    (aC_Shelf : PySem.W.nsIn K mainGlobals "Shelf" = some (some (.ref C_Shelf)))
    (aC_DuplicateKey : PySem.W.nsIn K mainGlobals "DuplicateKey" = some (some (.ref C_DuplicateKey)))
    (aC_NoTable : PySem.W.nsIn K mainGlobals "NoTable" = some (some (.ref C_NoTable)))
    (aC_Store : PySem.W.nsIn K mainGlobals "Store" = some (some (.ref C_Store)))
    (aC_ShownError : PySem.W.nsIn K mainGlobals "ShownError" = some (some (.ref C_ShownError)))
    (aC_Unlike : PySem.W.nsIn K mainGlobals "Unlike" = some (some (.ref C_Unlike)))
    (a_is_name : PySem.W.nsIn K mainGlobals "is_name" = some (some (.ref f_is_name)))
    (l_is_name : K.lookup f_is_name = some ⟨oc_is_name, od_is_name, .func (PySem.W.fnOf "is_name" "is_name" (defArgs s_is_name) (defBody s_is_name) (defScope s_is_name) .none kV_is_name dc_is_name pm_is_name an_is_name cd_is_name ct_is_name), sl_is_name⟩)
    (c_is_name : PySem.W.codeIn K cd_is_name "is_name" = true)
    (k_is_name : PySem.W.keepIn K (.ref f_is_name) = true)
    (a_are_columns : PySem.W.nsIn K mainGlobals "are_columns" = some (some (.ref f_are_columns)))
    (l_are_columns : K.lookup f_are_columns = some ⟨oc_are_columns, od_are_columns, .func (PySem.W.fnOf "are_columns" "are_columns" (defArgs s_are_columns) (defBody s_are_columns) (defScope s_are_columns) .none kV_are_columns dc_are_columns pm_are_columns an_are_columns cd_are_columns ct_are_columns), sl_are_columns⟩)
    (c_are_columns : PySem.W.codeIn K cd_are_columns "are_columns" = true)
    (k_are_columns : PySem.W.keepIn K (.ref f_are_columns) = true)
    (a_is_key : PySem.W.nsIn K mainGlobals "is_key" = some (some (.ref f_is_key)))
    (l_is_key : K.lookup f_is_key = some ⟨oc_is_key, od_is_key, .func (PySem.W.fnOf "is_key" "is_key" (defArgs s_is_key) (defBody s_is_key) (defScope s_is_key) .none kV_is_key dc_is_key pm_is_key an_is_key cd_is_key ct_is_key), sl_is_key⟩)
    (c_is_key : PySem.W.codeIn K cd_is_key "is_key" = true)
    (k_is_key : PySem.W.keepIn K (.ref f_is_key) = true)
    (a_Table___init : PySem.W.findIn K (.ref C_Table) "__init__" = some (some (.ref f_Table___init)))
    (l_Table___init : K.lookup f_Table___init = some ⟨oc_Table___init, od_Table___init, .func (PySem.W.fnOf "__init__" "Table.__init__" (defArgs s_Table___init) (defBody s_Table___init) (defScope s_Table___init) .none kV_Table___init dc_Table___init pm_Table___init an_Table___init cd_Table___init ct_Table___init), sl_Table___init⟩)
    (c_Table___init : PySem.W.codeIn K cd_Table___init "Table.__init__" = true)
    (k_Table___init : PySem.W.keepIn K (.ref f_Table___init) = true)
    (i_Table___init : PySem.W.isFn K (.ref f_Table___init) = true)
    (a_Table_fits : PySem.W.findIn K (.ref C_Table) "fits" = some (some (.ref f_Table_fits)))
    (l_Table_fits : K.lookup f_Table_fits = some ⟨oc_Table_fits, od_Table_fits, .func (PySem.W.fnOf "fits" "Table.fits" (defArgs s_Table_fits) (defBody s_Table_fits) (defScope s_Table_fits) .none kV_Table_fits dc_Table_fits pm_Table_fits an_Table_fits cd_Table_fits ct_Table_fits), sl_Table_fits⟩)
    (c_Table_fits : PySem.W.codeIn K cd_Table_fits "Table.fits" = true)
    (k_Table_fits : PySem.W.keepIn K (.ref f_Table_fits) = true)
    (i_Table_fits : PySem.W.isFn K (.ref f_Table_fits) = true)
    (a_Table_key_of : PySem.W.findIn K (.ref C_Table) "key_of" = some (some (.ref f_Table_key_of)))
    (l_Table_key_of : K.lookup f_Table_key_of = some ⟨oc_Table_key_of, od_Table_key_of, .func (PySem.W.fnOf "key_of" "Table.key_of" (defArgs s_Table_key_of) (defBody s_Table_key_of) (defScope s_Table_key_of) .none kV_Table_key_of dc_Table_key_of pm_Table_key_of an_Table_key_of cd_Table_key_of ct_Table_key_of), sl_Table_key_of⟩)
    (c_Table_key_of : PySem.W.codeIn K cd_Table_key_of "Table.key_of" = true)
    (k_Table_key_of : PySem.W.keepIn K (.ref f_Table_key_of) = true)
    (i_Table_key_of : PySem.W.isFn K (.ref f_Table_key_of) = true)
    (a_sorted_tables : PySem.W.nsIn K mainGlobals "sorted_tables" = some (some (.ref f_sorted_tables)))
    (l_sorted_tables : K.lookup f_sorted_tables = some ⟨oc_sorted_tables, od_sorted_tables, .func (PySem.W.fnOf "sorted_tables" "sorted_tables" (defArgs s_sorted_tables) (defBody s_sorted_tables) (defScope s_sorted_tables) .none kV_sorted_tables dc_sorted_tables pm_sorted_tables an_sorted_tables cd_sorted_tables ct_sorted_tables), sl_sorted_tables⟩)
    (c_sorted_tables : PySem.W.codeIn K cd_sorted_tables "sorted_tables" = true)
    (k_sorted_tables : PySem.W.keepIn K (.ref f_sorted_tables) = true)
    (a_Shelf___init : PySem.W.findIn K (.ref C_Shelf) "__init__" = some (some (.ref f_Shelf___init)))
    (l_Shelf___init : K.lookup f_Shelf___init = some ⟨oc_Shelf___init, od_Shelf___init, .func (PySem.W.fnOf "__init__" "Shelf.__init__" (defArgs s_Shelf___init) (defBody s_Shelf___init) (defScope s_Shelf___init) .none kV_Shelf___init dc_Shelf___init pm_Shelf___init an_Shelf___init cd_Shelf___init ct_Shelf___init), sl_Shelf___init⟩)
    (c_Shelf___init : PySem.W.codeIn K cd_Shelf___init "Shelf.__init__" = true)
    (k_Shelf___init : PySem.W.keepIn K (.ref f_Shelf___init) = true)
    (i_Shelf___init : PySem.W.isFn K (.ref f_Shelf___init) = true)
    (a_shelf_of : PySem.W.nsIn K mainGlobals "shelf_of" = some (some (.ref f_shelf_of)))
    (l_shelf_of : K.lookup f_shelf_of = some ⟨oc_shelf_of, od_shelf_of, .func (PySem.W.fnOf "shelf_of" "shelf_of" (defArgs s_shelf_of) (defBody s_shelf_of) (defScope s_shelf_of) .none kV_shelf_of dc_shelf_of pm_shelf_of an_shelf_of cd_shelf_of ct_shelf_of), sl_shelf_of⟩)
    (c_shelf_of : PySem.W.codeIn K cd_shelf_of "shelf_of" = true)
    (k_shelf_of : PySem.W.keepIn K (.ref f_shelf_of) = true)
    (a_filled_shelves : PySem.W.nsIn K mainGlobals "filled_shelves" = some (some (.ref f_filled_shelves)))
    (l_filled_shelves : K.lookup f_filled_shelves = some ⟨oc_filled_shelves, od_filled_shelves, .func (PySem.W.fnOf "filled_shelves" "filled_shelves" (defArgs s_filled_shelves) (defBody s_filled_shelves) (defScope s_filled_shelves) .none kV_filled_shelves dc_filled_shelves pm_filled_shelves an_filled_shelves cd_filled_shelves ct_filled_shelves), sl_filled_shelves⟩)
    (c_filled_shelves : PySem.W.codeIn K cd_filled_shelves "filled_shelves" = true)
    (k_filled_shelves : PySem.W.keepIn K (.ref f_filled_shelves) = true)
    (a_Store___init : PySem.W.findIn K (.ref C_Store) "__init__" = some (some (.ref f_Store___init)))
    (l_Store___init : K.lookup f_Store___init = some ⟨oc_Store___init, od_Store___init, .func (PySem.W.fnOf "__init__" "Store.__init__" (defArgs s_Store___init) (defBody s_Store___init) (defScope s_Store___init) (.ref T_Store___init) kV_Store___init dc_Store___init pm_Store___init an_Store___init cd_Store___init ct_Store___init), sl_Store___init⟩)
    (c_Store___init : PySem.W.codeIn K cd_Store___init "Store.__init__" = true)
    (k_Store___init : PySem.W.keepIn K (.ref f_Store___init) = true)
    (lT_Store___init : K.lookup T_Store___init = some ⟨tc_Store___init, td_Store___init, .seq #[Value.none] tn_Store___init, ts_Store___init⟩)
    (i_Store___init : PySem.W.isFn K (.ref f_Store___init) = true)
    (a_l_start : PySem.W.nsIn K mainGlobals "_law_start" = some (some (.ref f_l_start)))
    (l_l_start : K.lookup f_l_start = some ⟨oc_l_start, od_l_start, .func (PySem.W.fnOf "_law_start" "_law_start" (defArgs s_l_start) (defBody s_l_start) (defScope s_l_start) .none kV_l_start dc_l_start pm_l_start an_l_start cd_l_start ct_l_start), sl_l_start⟩)
    (c_l_start : PySem.W.codeIn K cd_l_start "_law_start" = true)
    (k_l_start : PySem.W.keepIn K (.ref f_l_start) = true)
    (a_l_draw : PySem.W.nsIn K mainGlobals "_law_draw" = some (some (.ref f_l_draw)))
    (l_l_draw : K.lookup f_l_draw = some ⟨oc_l_draw, od_l_draw, .func (PySem.W.fnOf "_law_draw" "_law_draw" (defArgs s_l_draw) (defBody s_l_draw) (defScope s_l_draw) .none kV_l_draw dc_l_draw pm_l_draw an_l_draw cd_l_draw ct_l_draw), sl_l_draw⟩)
    (c_l_draw : PySem.W.codeIn K cd_l_draw "_law_draw" = true)
    (k_l_draw : PySem.W.keepIn K (.ref f_l_draw) = true)
    (a_l_tables : PySem.W.nsIn K mainGlobals "_law_tables" = some (some (.ref f_l_tables)))
    (l_l_tables : K.lookup f_l_tables = some ⟨oc_l_tables, od_l_tables, .func (PySem.W.fnOf "_law_tables" "_law_tables" (defArgs s_l_tables) (defBody s_l_tables) (defScope s_l_tables) .none kV_l_tables dc_l_tables pm_l_tables an_l_tables cd_l_tables ct_l_tables), sl_l_tables⟩)
    (c_l_tables : PySem.W.codeIn K cd_l_tables "_law_tables" = true)
    (k_l_tables : PySem.W.keepIn K (.ref f_l_tables) = true)
    (a_l_key : PySem.W.nsIn K mainGlobals "_law_key" = some (some (.ref f_l_key)))
    (l_l_key : K.lookup f_l_key = some ⟨oc_l_key, od_l_key, .func (PySem.W.fnOf "_law_key" "_law_key" (defArgs s_l_key) (defBody s_l_key) (defScope s_l_key) .none kV_l_key dc_l_key pm_l_key an_l_key cd_l_key ct_l_key), sl_l_key⟩)
    (c_l_key : PySem.W.codeIn K cd_l_key "_law_key" = true)
    (k_l_key : PySem.W.keepIn K (.ref f_l_key) = true)
    (a_l_size : PySem.W.nsIn K mainGlobals "_law_size" = some (some (.ref f_l_size)))
    (l_l_size : K.lookup f_l_size = some ⟨oc_l_size, od_l_size, .func (PySem.W.fnOf "_law_size" "_law_size" (defArgs s_l_size) (defBody s_l_size) (defScope s_l_size) .none kV_l_size dc_l_size pm_l_size an_l_size cd_l_size ct_l_size), sl_l_size⟩)
    (c_l_size : PySem.W.codeIn K cd_l_size "_law_size" = true)
    (k_l_size : PySem.W.keepIn K (.ref f_l_size) = true)
    (a_l_row : PySem.W.nsIn K mainGlobals "_law_row" = some (some (.ref f_l_row)))
    (l_l_row : K.lookup f_l_row = some ⟨oc_l_row, od_l_row, .func (PySem.W.fnOf "_law_row" "_law_row" (defArgs s_l_row) (defBody s_l_row) (defScope s_l_row) .none kV_l_row dc_l_row pm_l_row an_l_row cd_l_row ct_l_row), sl_l_row⟩)
    (c_l_row : PySem.W.codeIn K cd_l_row "_law_row" = true)
    (k_l_row : PySem.W.keepIn K (.ref f_l_row) = true)
    (a_l_rows : PySem.W.nsIn K mainGlobals "_law_rows" = some (some (.ref f_l_rows)))
    (l_l_rows : K.lookup f_l_rows = some ⟨oc_l_rows, od_l_rows, .func (PySem.W.fnOf "_law_rows" "_law_rows" (defArgs s_l_rows) (defBody s_l_rows) (defScope s_l_rows) .none kV_l_rows dc_l_rows pm_l_rows an_l_rows cd_l_rows ct_l_rows), sl_l_rows⟩)
    (c_l_rows : PySem.W.codeIn K cd_l_rows "_law_rows" = true)
    (k_l_rows : PySem.W.keepIn K (.ref f_l_rows) = true)
    (a_l_spoil : PySem.W.nsIn K mainGlobals "_law_spoil" = some (some (.ref f_l_spoil)))
    (l_l_spoil : K.lookup f_l_spoil = some ⟨oc_l_spoil, od_l_spoil, .func (PySem.W.fnOf "_law_spoil" "_law_spoil" (defArgs s_l_spoil) (defBody s_l_spoil) (defScope s_l_spoil) .none kV_l_spoil dc_l_spoil pm_l_spoil an_l_spoil cd_l_spoil ct_l_spoil), sl_l_spoil⟩)
    (c_l_spoil : PySem.W.codeIn K cd_l_spoil "_law_spoil" = true)
    (k_l_spoil : PySem.W.keepIn K (.ref f_l_spoil) = true)
    (a_l_due : PySem.W.nsIn K mainGlobals "_law_due" = some (some (.ref f_l_due)))
    (l_l_due : K.lookup f_l_due = some ⟨oc_l_due, od_l_due, .func (PySem.W.fnOf "_law_due" "_law_due" (defArgs s_l_due) (defBody s_l_due) (defScope s_l_due) .none kV_l_due dc_l_due pm_l_due an_l_due cd_l_due ct_l_due), sl_l_due⟩)
    (c_l_due : PySem.W.codeIn K cd_l_due "_law_due" = true)
    (k_l_due : PySem.W.keepIn K (.ref f_l_due) = true)
    (a_l_made : PySem.W.nsIn K mainGlobals "_law_made" = some (some (.ref f_l_made)))
    (l_l_made : K.lookup f_l_made = some ⟨oc_l_made, od_l_made, .func (PySem.W.fnOf "_law_made" "_law_made" (defArgs s_l_made) (defBody s_l_made) (defScope s_l_made) .none kV_l_made dc_l_made pm_l_made an_l_made cd_l_made ct_l_made), sl_l_made⟩)
    (c_l_made : PySem.W.codeIn K cd_l_made "_law_made" = true)
    (k_l_made : PySem.W.keepIn K (.ref f_l_made) = true)
    (a_l_base_caught : PySem.W.nsIn K mainGlobals "_law_base_caught" = some (some (.ref f_l_base_caught)))
    (l_l_base_caught : K.lookup f_l_base_caught = some ⟨oc_l_base_caught, od_l_base_caught, .func (PySem.W.fnOf "_law_base_caught" "_law_base_caught" (defArgs s_l_base_caught) (defBody s_l_base_caught) (defScope s_l_base_caught) .none kV_l_base_caught dc_l_base_caught pm_l_base_caught an_l_base_caught cd_l_base_caught ct_l_base_caught), sl_l_base_caught⟩)
    (c_l_base_caught : PySem.W.codeIn K cd_l_base_caught "_law_base_caught" = true)
    (k_l_base_caught : PySem.W.keepIn K (.ref f_l_base_caught) = true)
    (a_law : PySem.W.nsIn K mainGlobals "law" = some (some (.ref f_law)))
    (l_law : K.lookup f_law = some ⟨oc_law, od_law, .func (PySem.W.fnOf "law" "law" (defArgs s_law) (defBody s_law) (defScope s_law) .none kV_law dc_law pm_law an_law cd_law ct_law), sl_law⟩)
    (c_law : PySem.W.codeIn K cd_law "law" = true)
    (k_law : PySem.W.keepIn K (.ref f_law) = true)
    (z_ValueError : PySem.W.nsIn K mainGlobals "ValueError" = some none)
    (z_all : PySem.W.nsIn K mainGlobals "all" = some none)
    (z_enumerate : PySem.W.nsIn K mainGlobals "enumerate" = some none)
    (z_int : PySem.W.nsIn K mainGlobals "int" = some none)
    (z_isinstance : PySem.W.nsIn K mainGlobals "isinstance" = some none)
    (z_len : PySem.W.nsIn K mainGlobals "len" = some none)
    (z_list : PySem.W.nsIn K mainGlobals "list" = some none)
    (z_range : PySem.W.nsIn K mainGlobals "range" = some none)
    (z_set : PySem.W.nsIn K mainGlobals "set" = some none)
    (z_sorted : PySem.W.nsIn K mainGlobals "sorted" = some none)
    (z_tuple : PySem.W.nsIn K mainGlobals "tuple" = some none)
    (v_FIRST : PySem.W.nsIn K mainGlobals "FIRST" = some (some (.str (Str.ofString "abcdefghijklmnopqrstuvwxyz") tk_FIRST)))
    (v_FURTHER : PySem.W.nsIn K mainGlobals "FURTHER" = some (some (.str (Str.ofString "abcdefghijklmnopqrstuvwxyz0123456789_") tk_FURTHER)))
    (v_LONGEST : PySem.W.nsIn K mainGlobals "LONGEST" = some (some (.int 20 tk_LONGEST)))
    (pg_Table : PySem.W.plainGet K C_Table Str.empty = true)
    (hd_Table : PySem.W.hasDictIn K C_Table = true)
    (po_Table : PySem.W.plainOver K C_Table = true)
    (sa_Table : PySem.W.findIn K (.ref C_Table) "__setattr__" = some (some (.builtin "object.__setattr__")))
    (na_Table_name : PySem.W.findIn K (.ref C_Table) "name" = some none)
    (na_Table_columns : PySem.W.findIn K (.ref C_Table) "columns" = some none)
    (na_Table_key : PySem.W.findIn K (.ref C_Table) "key" = some none)
    (na_Table__key_places : PySem.W.findIn K (.ref C_Table) "_key_places" = some none)
    (qq_list_Shelf : PySem.W.kitOne K (.type "list") (.ref C_Shelf) = some false)
    (pg_Shelf : PySem.W.plainGet K C_Shelf Str.empty = true)
    (hd_Shelf : PySem.W.hasDictIn K C_Shelf = true)
    (po_Shelf : PySem.W.plainOver K C_Shelf = true)
    (sa_Shelf : PySem.W.findIn K (.ref C_Shelf) "__setattr__" = some (some (.builtin "object.__setattr__")))
    (mk_Shelf : PySem.W.makesIn K C_Shelf = true)
    (kc_Shelf : PySem.W.keepIn K (.ref C_Shelf) = true)
    (na_Shelf_held : PySem.W.findIn K (.ref C_Shelf) "held" = some none)
    (qq_tuple_Shelf : PySem.W.kitOne K (.type "tuple") (.ref C_Shelf) = some false)
    (pg_Store : PySem.W.plainGet K C_Store Str.empty = true)
    (hd_Store : PySem.W.hasDictIn K C_Store = true)
    (po_Store : PySem.W.plainOver K C_Store = true)
    (sa_Store : PySem.W.findIn K (.ref C_Store) "__setattr__" = some (some (.builtin "object.__setattr__")))
    (na_Store_tables : PySem.W.findIn K (.ref C_Store) "tables" = some none)
    (na_Store_names : PySem.W.findIn K (.ref C_Store) "names" = some none)
    (na_Store__shelves : PySem.W.findIn K (.ref C_Store) "_shelves" = some none)
    (mk_Table : PySem.W.makesIn K C_Table = true)
    (kc_Table : PySem.W.keepIn K (.ref C_Table) = true)
    (mk_Store : PySem.W.makesIn K C_Store = true)
    (kc_Store : PySem.W.keepIn K (.ref C_Store) = true)
    (ex_DuplicateTable : PySem.W.subIn K (.ref C_DuplicateTable) (.type "BaseException") = some true)
    (ic_DuplicateTable : PySem.W.isClsIn K C_DuplicateTable = true)
    (ty_DuplicateTable : PySem.W.typeIn K (.ref C_DuplicateTable) = some (.type "type"))
    (su_DuplicateTable_DuplicateTable : PySem.W.subIn K (.ref C_DuplicateTable) (.ref C_DuplicateTable) = some true)
    (ga_DuplicateTable : PySem.W.findIn K (.ref C_DuplicateTable) "__getattribute__" = some (some (.builtin "BaseException.__getattribute__")))
    (gg_DuplicateTable : PySem.W.findIn K (.ref C_DuplicateTable) "__getattr__" = some none)
    (hd_DuplicateTable : PySem.W.hasDictIn K C_DuplicateTable = true)
    (na_DuplicateTable_name : PySem.W.findIn K (.ref C_DuplicateTable) "name" = some none)
    (su_NoTable_DuplicateTable : PySem.W.subIn K (.ref C_NoTable) (.ref C_DuplicateTable) = some false)
    (ex_NoTable : PySem.W.subIn K (.ref C_NoTable) (.type "BaseException") = some true)
    (ic_NoTable : PySem.W.isClsIn K C_NoTable = true)
    (ty_NoTable : PySem.W.typeIn K (.ref C_NoTable) = some (.type "type"))
    (su_NoTable_NoTable : PySem.W.subIn K (.ref C_NoTable) (.ref C_NoTable) = some true)
    (ga_NoTable : PySem.W.findIn K (.ref C_NoTable) "__getattribute__" = some (some (.builtin "BaseException.__getattribute__")))
    (gg_NoTable : PySem.W.findIn K (.ref C_NoTable) "__getattr__" = some none)
    (hd_NoTable : PySem.W.hasDictIn K C_NoTable = true)
    (na_NoTable_name : PySem.W.findIn K (.ref C_NoTable) "name" = some none)
    (su_InvalidRow_DuplicateTable : PySem.W.subIn K (.ref C_InvalidRow) (.ref C_DuplicateTable) = some false)
    (su_InvalidRow_NoTable : PySem.W.subIn K (.ref C_InvalidRow) (.ref C_NoTable) = some false)
    (ex_InvalidRow : PySem.W.subIn K (.ref C_InvalidRow) (.type "BaseException") = some true)
    (ic_InvalidRow : PySem.W.isClsIn K C_InvalidRow = true)
    (ty_InvalidRow : PySem.W.typeIn K (.ref C_InvalidRow) = some (.type "type"))
    (su_InvalidRow_InvalidRow : PySem.W.subIn K (.ref C_InvalidRow) (.ref C_InvalidRow) = some true)
    (ga_InvalidRow : PySem.W.findIn K (.ref C_InvalidRow) "__getattribute__" = some (some (.builtin "BaseException.__getattribute__")))
    (gg_InvalidRow : PySem.W.findIn K (.ref C_InvalidRow) "__getattr__" = some none)
    (hd_InvalidRow : PySem.W.hasDictIn K C_InvalidRow = true)
    (na_InvalidRow_name : PySem.W.findIn K (.ref C_InvalidRow) "name" = some none)
    (na_InvalidRow_row : PySem.W.findIn K (.ref C_InvalidRow) "row" = some none)
    (su_DuplicateKey_DuplicateTable : PySem.W.subIn K (.ref C_DuplicateKey) (.ref C_DuplicateTable) = some false)
    (su_DuplicateKey_NoTable : PySem.W.subIn K (.ref C_DuplicateKey) (.ref C_NoTable) = some false)
    (su_DuplicateKey_InvalidRow : PySem.W.subIn K (.ref C_DuplicateKey) (.ref C_InvalidRow) = some false)
    (ex_DuplicateKey : PySem.W.subIn K (.ref C_DuplicateKey) (.type "BaseException") = some true)
    (ic_DuplicateKey : PySem.W.isClsIn K C_DuplicateKey = true)
    (ty_DuplicateKey : PySem.W.typeIn K (.ref C_DuplicateKey) = some (.type "type"))
    (su_DuplicateKey_DuplicateKey : PySem.W.subIn K (.ref C_DuplicateKey) (.ref C_DuplicateKey) = some true)
    (ga_DuplicateKey : PySem.W.findIn K (.ref C_DuplicateKey) "__getattribute__" = some (some (.builtin "BaseException.__getattribute__")))
    (gg_DuplicateKey : PySem.W.findIn K (.ref C_DuplicateKey) "__getattr__" = some none)
    (hd_DuplicateKey : PySem.W.hasDictIn K C_DuplicateKey = true)
    (na_DuplicateKey_name : PySem.W.findIn K (.ref C_DuplicateKey) "name" = some none)
    (na_DuplicateKey_key : PySem.W.findIn K (.ref C_DuplicateKey) "key" = some none)
    (ex_ShownError : PySem.W.subIn K (.ref C_ShownError) (.type "BaseException") = some true)
    (ic_ShownError : PySem.W.isClsIn K C_ShownError = true)
    (ty_ShownError : PySem.W.typeIn K (.ref C_ShownError) = some (.type "type"))
    (su_DuplicateTable_ShownError : PySem.W.subIn K (.ref C_DuplicateTable) (.ref C_ShownError) = some true)
    (ca_DuplicateTable : PySem.W.findIn K (.ref C_DuplicateTable) "__class__" = some (some (.builtin "object.__class__")))
    (cn_ : PySem.W.specialIn K (.builtin "object.__class__") "__get__" = some (some (.builtin "getset_descriptor.__get__")))
    (ct_ : PySem.W.takesIn K (.builtin "object.__class__") = some true)
    (cm_DuplicateTable : PySem.W.mroIn K C_DuplicateTable (.type "object") = some true)
    (qq_DuplicateTable_DuplicateTable : PySem.W.kitOne K (.ref C_DuplicateTable) (.ref C_DuplicateTable) = some true)
    (qq_DuplicateTable_NoTable : PySem.W.kitOne K (.ref C_DuplicateTable) (.ref C_NoTable) = some false)
    (qq_DuplicateTable_InvalidRow : PySem.W.kitOne K (.ref C_DuplicateTable) (.ref C_InvalidRow) = some false)
    (qq_DuplicateTable_DuplicateKey : PySem.W.kitOne K (.ref C_DuplicateTable) (.ref C_DuplicateKey) = some false)
    (qq_DuplicateTable_Unlike : PySem.W.kitOne K (.ref C_DuplicateTable) (.ref C_Unlike) = some false)
    (qq_DuplicateTable_ValueError : PySem.W.kitOne K (.ref C_DuplicateTable) (.type "ValueError") = some true)
    (su_NoTable_ShownError : PySem.W.subIn K (.ref C_NoTable) (.ref C_ShownError) = some true)
    (ca_NoTable : PySem.W.findIn K (.ref C_NoTable) "__class__" = some (some (.builtin "object.__class__")))
    (cm_NoTable : PySem.W.mroIn K C_NoTable (.type "object") = some true)
    (qq_NoTable_DuplicateTable : PySem.W.kitOne K (.ref C_NoTable) (.ref C_DuplicateTable) = some false)
    (qq_NoTable_NoTable : PySem.W.kitOne K (.ref C_NoTable) (.ref C_NoTable) = some true)
    (qq_NoTable_InvalidRow : PySem.W.kitOne K (.ref C_NoTable) (.ref C_InvalidRow) = some false)
    (qq_NoTable_DuplicateKey : PySem.W.kitOne K (.ref C_NoTable) (.ref C_DuplicateKey) = some false)
    (qq_NoTable_Unlike : PySem.W.kitOne K (.ref C_NoTable) (.ref C_Unlike) = some false)
    (qq_NoTable_ValueError : PySem.W.kitOne K (.ref C_NoTable) (.type "ValueError") = some true)
    (su_InvalidRow_ShownError : PySem.W.subIn K (.ref C_InvalidRow) (.ref C_ShownError) = some true)
    (ca_InvalidRow : PySem.W.findIn K (.ref C_InvalidRow) "__class__" = some (some (.builtin "object.__class__")))
    (cm_InvalidRow : PySem.W.mroIn K C_InvalidRow (.type "object") = some true)
    (qq_InvalidRow_DuplicateTable : PySem.W.kitOne K (.ref C_InvalidRow) (.ref C_DuplicateTable) = some false)
    (qq_InvalidRow_NoTable : PySem.W.kitOne K (.ref C_InvalidRow) (.ref C_NoTable) = some false)
    (qq_InvalidRow_InvalidRow : PySem.W.kitOne K (.ref C_InvalidRow) (.ref C_InvalidRow) = some true)
    (qq_InvalidRow_DuplicateKey : PySem.W.kitOne K (.ref C_InvalidRow) (.ref C_DuplicateKey) = some false)
    (qq_InvalidRow_Unlike : PySem.W.kitOne K (.ref C_InvalidRow) (.ref C_Unlike) = some false)
    (qq_InvalidRow_ValueError : PySem.W.kitOne K (.ref C_InvalidRow) (.type "ValueError") = some true)
    (su_DuplicateKey_ShownError : PySem.W.subIn K (.ref C_DuplicateKey) (.ref C_ShownError) = some true)
    (ca_DuplicateKey : PySem.W.findIn K (.ref C_DuplicateKey) "__class__" = some (some (.builtin "object.__class__")))
    (cm_DuplicateKey : PySem.W.mroIn K C_DuplicateKey (.type "object") = some true)
    (qq_DuplicateKey_DuplicateTable : PySem.W.kitOne K (.ref C_DuplicateKey) (.ref C_DuplicateTable) = some false)
    (qq_DuplicateKey_NoTable : PySem.W.kitOne K (.ref C_DuplicateKey) (.ref C_NoTable) = some false)
    (qq_DuplicateKey_InvalidRow : PySem.W.kitOne K (.ref C_DuplicateKey) (.ref C_InvalidRow) = some false)
    (qq_DuplicateKey_DuplicateKey : PySem.W.kitOne K (.ref C_DuplicateKey) (.ref C_DuplicateKey) = some true)
    (qq_DuplicateKey_Unlike : PySem.W.kitOne K (.ref C_DuplicateKey) (.ref C_Unlike) = some false)
    (qq_DuplicateKey_ValueError : PySem.W.kitOne K (.ref C_DuplicateKey) (.type "ValueError") = some true)
    (xl_DuplicateKey : K.lookup C_DuplicateKey = some (excClassObj nm_DuplicateKey q_DuplicateKey C_DuplicateKey N_DuplicateKey bs_DuplicateKey bm_DuplicateKey true sn_DuplicateKey sub_DuplicateKey ab_DuplicateKey col_DuplicateKey dd_DuplicateKey m0_DuplicateKey m1_DuplicateKey m2_DuplicateKey m3_DuplicateKey m5_DuplicateKey "ValueError.__new__"))
    (rv_DuplicateKey : PySem.HandSPX.refsVE bm_DuplicateKey = true)
    (sa_DuplicateKey : PySem.W.findIn K (.ref C_DuplicateKey) "__setattr__" = some (some (.builtin "object.__setattr__")))
    (kc_DuplicateKey : PySem.W.keepIn K (.ref C_DuplicateKey) = true)
    (a_e_DuplicateKey : PySem.W.findIn K (.ref C_DuplicateKey) "__init__" = some (some (.ref f_e_DuplicateKey)))
    (l_e_DuplicateKey : K.lookup f_e_DuplicateKey = some ⟨oc_e_DuplicateKey, od_e_DuplicateKey, .func (PySem.W.fnOf "__init__" "DuplicateKey.__init__" (defArgs s_e_DuplicateKey) (defBody s_e_DuplicateKey) (defScope s_e_DuplicateKey) .none kV_e_DuplicateKey dc_e_DuplicateKey pm_e_DuplicateKey an_e_DuplicateKey cd_e_DuplicateKey ct_e_DuplicateKey), sl_e_DuplicateKey⟩)
    (c_e_DuplicateKey : PySem.W.codeIn K cd_e_DuplicateKey "DuplicateKey.__init__" = true)
    (k_e_DuplicateKey : PySem.W.keepIn K (.ref f_e_DuplicateKey) = true)
    (tI_DuplicateKey : PySem.W.typeIn K (.ref f_e_DuplicateKey) = some (.type "function"))
    (xl_DuplicateTable : K.lookup C_DuplicateTable = some (excClassObj nm_DuplicateTable q_DuplicateTable C_DuplicateTable N_DuplicateTable bs_DuplicateTable bm_DuplicateTable true sn_DuplicateTable sub_DuplicateTable ab_DuplicateTable col_DuplicateTable dd_DuplicateTable m0_DuplicateTable m1_DuplicateTable m2_DuplicateTable m3_DuplicateTable m5_DuplicateTable "ValueError.__new__"))
    (rv_DuplicateTable : PySem.HandSPX.refsVE bm_DuplicateTable = true)
    (sa_DuplicateTable : PySem.W.findIn K (.ref C_DuplicateTable) "__setattr__" = some (some (.builtin "object.__setattr__")))
    (kc_DuplicateTable : PySem.W.keepIn K (.ref C_DuplicateTable) = true)
    (a_e_DuplicateTable : PySem.W.findIn K (.ref C_DuplicateTable) "__init__" = some (some (.ref f_e_DuplicateTable)))
    (l_e_DuplicateTable : K.lookup f_e_DuplicateTable = some ⟨oc_e_DuplicateTable, od_e_DuplicateTable, .func (PySem.W.fnOf "__init__" "DuplicateTable.__init__" (defArgs s_e_DuplicateTable) (defBody s_e_DuplicateTable) (defScope s_e_DuplicateTable) .none kV_e_DuplicateTable dc_e_DuplicateTable pm_e_DuplicateTable an_e_DuplicateTable cd_e_DuplicateTable ct_e_DuplicateTable), sl_e_DuplicateTable⟩)
    (c_e_DuplicateTable : PySem.W.codeIn K cd_e_DuplicateTable "DuplicateTable.__init__" = true)
    (k_e_DuplicateTable : PySem.W.keepIn K (.ref f_e_DuplicateTable) = true)
    (tI_DuplicateTable : PySem.W.typeIn K (.ref f_e_DuplicateTable) = some (.type "function"))
    (xl_InvalidRow : K.lookup C_InvalidRow = some (excClassObj nm_InvalidRow q_InvalidRow C_InvalidRow N_InvalidRow bs_InvalidRow bm_InvalidRow true sn_InvalidRow sub_InvalidRow ab_InvalidRow col_InvalidRow dd_InvalidRow m0_InvalidRow m1_InvalidRow m2_InvalidRow m3_InvalidRow m5_InvalidRow "ValueError.__new__"))
    (rv_InvalidRow : PySem.HandSPX.refsVE bm_InvalidRow = true)
    (sa_InvalidRow : PySem.W.findIn K (.ref C_InvalidRow) "__setattr__" = some (some (.builtin "object.__setattr__")))
    (kc_InvalidRow : PySem.W.keepIn K (.ref C_InvalidRow) = true)
    (a_e_InvalidRow : PySem.W.findIn K (.ref C_InvalidRow) "__init__" = some (some (.ref f_e_InvalidRow)))
    (l_e_InvalidRow : K.lookup f_e_InvalidRow = some ⟨oc_e_InvalidRow, od_e_InvalidRow, .func (PySem.W.fnOf "__init__" "InvalidRow.__init__" (defArgs s_e_InvalidRow) (defBody s_e_InvalidRow) (defScope s_e_InvalidRow) .none kV_e_InvalidRow dc_e_InvalidRow pm_e_InvalidRow an_e_InvalidRow cd_e_InvalidRow ct_e_InvalidRow), sl_e_InvalidRow⟩)
    (c_e_InvalidRow : PySem.W.codeIn K cd_e_InvalidRow "InvalidRow.__init__" = true)
    (k_e_InvalidRow : PySem.W.keepIn K (.ref f_e_InvalidRow) = true)
    (tI_InvalidRow : PySem.W.typeIn K (.ref f_e_InvalidRow) = some (.type "function"))
    (xl_NoTable : K.lookup C_NoTable = some (excClassObj nm_NoTable q_NoTable C_NoTable N_NoTable bs_NoTable bm_NoTable true sn_NoTable sub_NoTable ab_NoTable col_NoTable dd_NoTable m0_NoTable m1_NoTable m2_NoTable m3_NoTable m5_NoTable "ValueError.__new__"))
    (rv_NoTable : PySem.HandSPX.refsVE bm_NoTable = true)
    (sa_NoTable : PySem.W.findIn K (.ref C_NoTable) "__setattr__" = some (some (.builtin "object.__setattr__")))
    (kc_NoTable : PySem.W.keepIn K (.ref C_NoTable) = true)
    (a_e_NoTable : PySem.W.findIn K (.ref C_NoTable) "__init__" = some (some (.ref f_e_NoTable)))
    (l_e_NoTable : K.lookup f_e_NoTable = some ⟨oc_e_NoTable, od_e_NoTable, .func (PySem.W.fnOf "__init__" "NoTable.__init__" (defArgs s_e_NoTable) (defBody s_e_NoTable) (defScope s_e_NoTable) .none kV_e_NoTable dc_e_NoTable pm_e_NoTable an_e_NoTable cd_e_NoTable ct_e_NoTable), sl_e_NoTable⟩)
    (c_e_NoTable : PySem.W.codeIn K cd_e_NoTable "NoTable.__init__" = true)
    (k_e_NoTable : PySem.W.keepIn K (.ref f_e_NoTable) = true)
    (tI_NoTable : PySem.W.typeIn K (.ref f_e_NoTable) = some (.type "function"))
    (ntab : ∀ q : Addr, ¬ isTab q)
    : ∃ fd : FuncData, (∀ (s : Shared) (v : Value), BindsTo s fd ⟨[v], []⟩ [("_law_script", v)]) ∧ ∀ base : Heap, K.In base → base.Ns mainGlobals mg → FnOk P w K mg base CX0 10 fa fd ["_law_script"] (SpL (w1 (rScr K)) rBool (fun x => m_law x)) := by
  have e := hfa.symm.trans (PySem.W.mg_of X G a_law)
  cases e
  have FD_Store___init : FunD K "__init__" "Store.__init__" (defArgs s_Store___init) (defBody s_Store___init) (defScope s_Store___init) [V.non] [] f_Store___init (PySem.W.fnOf "__init__" "Store.__init__" (defArgs s_Store___init) (defBody s_Store___init) (defScope s_Store___init) (.ref T_Store___init) kV_Store___init dc_Store___init pm_Store___init an_Store___init cd_Store___init ct_Store___init) := ⟨⟨_, _, _, _, _, _, _, _, _, _, rfl, l_Store___init, c_Store___init, .inr ⟨List.cons_ne_nil _ _, T_Store___init, _, [Value.none], _, rfl, lT_Store___init, rfl, (.cons rfl .nil)⟩, .inl rfl⟩, k_Store___init⟩
  obtain ⟨z_Store___init_1, v_Store___init_1, n_Store___init_1⟩ := FD_Store___init.binds1 (ps := ["self", "tables", "rows"]) 3 1 (List.cons_ne_nil _ _) rfl (fun T kV doc pm an cdv ct us its l1 l2 => match us, its, l1, l2 with | [_, _, _], [_], _, _ => ⟨_, rfl, rfl⟩)
  have T : Txt K mg { f_is_name := f_is_name, d_is_name := PySem.W.fnOf "is_name" "is_name" (defArgs s_is_name) (defBody s_is_name) (defScope s_is_name) .none kV_is_name dc_is_name pm_is_name an_is_name cd_is_name ct_is_name, f_are_columns := f_are_columns, d_are_columns := PySem.W.fnOf "are_columns" "are_columns" (defArgs s_are_columns) (defBody s_are_columns) (defScope s_are_columns) .none kV_are_columns dc_are_columns pm_are_columns an_are_columns cd_are_columns ct_are_columns, f_is_key := f_is_key, d_is_key := PySem.W.fnOf "is_key" "is_key" (defArgs s_is_key) (defBody s_is_key) (defScope s_is_key) .none kV_is_key dc_is_key pm_is_key an_is_key cd_is_key ct_is_key, f_Table___init := f_Table___init, d_Table___init := PySem.W.fnOf "__init__" "Table.__init__" (defArgs s_Table___init) (defBody s_Table___init) (defScope s_Table___init) .none kV_Table___init dc_Table___init pm_Table___init an_Table___init cd_Table___init ct_Table___init, f_Table_fits := f_Table_fits, d_Table_fits := PySem.W.fnOf "fits" "Table.fits" (defArgs s_Table_fits) (defBody s_Table_fits) (defScope s_Table_fits) .none kV_Table_fits dc_Table_fits pm_Table_fits an_Table_fits cd_Table_fits ct_Table_fits, f_Table_key_of := f_Table_key_of, d_Table_key_of := PySem.W.fnOf "key_of" "Table.key_of" (defArgs s_Table_key_of) (defBody s_Table_key_of) (defScope s_Table_key_of) .none kV_Table_key_of dc_Table_key_of pm_Table_key_of an_Table_key_of cd_Table_key_of ct_Table_key_of, f_sorted_tables := f_sorted_tables, d_sorted_tables := PySem.W.fnOf "sorted_tables" "sorted_tables" (defArgs s_sorted_tables) (defBody s_sorted_tables) (defScope s_sorted_tables) .none kV_sorted_tables dc_sorted_tables pm_sorted_tables an_sorted_tables cd_sorted_tables ct_sorted_tables, f_Shelf___init := f_Shelf___init, d_Shelf___init := PySem.W.fnOf "__init__" "Shelf.__init__" (defArgs s_Shelf___init) (defBody s_Shelf___init) (defScope s_Shelf___init) .none kV_Shelf___init dc_Shelf___init pm_Shelf___init an_Shelf___init cd_Shelf___init ct_Shelf___init, f_shelf_of := f_shelf_of, d_shelf_of := PySem.W.fnOf "shelf_of" "shelf_of" (defArgs s_shelf_of) (defBody s_shelf_of) (defScope s_shelf_of) .none kV_shelf_of dc_shelf_of pm_shelf_of an_shelf_of cd_shelf_of ct_shelf_of, f_filled_shelves := f_filled_shelves, d_filled_shelves := PySem.W.fnOf "filled_shelves" "filled_shelves" (defArgs s_filled_shelves) (defBody s_filled_shelves) (defScope s_filled_shelves) .none kV_filled_shelves dc_filled_shelves pm_filled_shelves an_filled_shelves cd_filled_shelves ct_filled_shelves, f_Store___init := f_Store___init, d_Store___init := PySem.W.fnOf "__init__" "Store.__init__" (defArgs s_Store___init) (defBody s_Store___init) (defScope s_Store___init) (.ref T_Store___init) kV_Store___init dc_Store___init pm_Store___init an_Store___init cd_Store___init ct_Store___init, z_Store___init_1 := z_Store___init_1, f_l_start := f_l_start, d_l_start := PySem.W.fnOf "_law_start" "_law_start" (defArgs s_l_start) (defBody s_l_start) (defScope s_l_start) .none kV_l_start dc_l_start pm_l_start an_l_start cd_l_start ct_l_start, f_l_draw := f_l_draw, d_l_draw := PySem.W.fnOf "_law_draw" "_law_draw" (defArgs s_l_draw) (defBody s_l_draw) (defScope s_l_draw) .none kV_l_draw dc_l_draw pm_l_draw an_l_draw cd_l_draw ct_l_draw, f_l_tables := f_l_tables, d_l_tables := PySem.W.fnOf "_law_tables" "_law_tables" (defArgs s_l_tables) (defBody s_l_tables) (defScope s_l_tables) .none kV_l_tables dc_l_tables pm_l_tables an_l_tables cd_l_tables ct_l_tables, f_l_key := f_l_key, d_l_key := PySem.W.fnOf "_law_key" "_law_key" (defArgs s_l_key) (defBody s_l_key) (defScope s_l_key) .none kV_l_key dc_l_key pm_l_key an_l_key cd_l_key ct_l_key, f_l_size := f_l_size, d_l_size := PySem.W.fnOf "_law_size" "_law_size" (defArgs s_l_size) (defBody s_l_size) (defScope s_l_size) .none kV_l_size dc_l_size pm_l_size an_l_size cd_l_size ct_l_size, f_l_row := f_l_row, d_l_row := PySem.W.fnOf "_law_row" "_law_row" (defArgs s_l_row) (defBody s_l_row) (defScope s_l_row) .none kV_l_row dc_l_row pm_l_row an_l_row cd_l_row ct_l_row, f_l_rows := f_l_rows, d_l_rows := PySem.W.fnOf "_law_rows" "_law_rows" (defArgs s_l_rows) (defBody s_l_rows) (defScope s_l_rows) .none kV_l_rows dc_l_rows pm_l_rows an_l_rows cd_l_rows ct_l_rows, f_l_spoil := f_l_spoil, d_l_spoil := PySem.W.fnOf "_law_spoil" "_law_spoil" (defArgs s_l_spoil) (defBody s_l_spoil) (defScope s_l_spoil) .none kV_l_spoil dc_l_spoil pm_l_spoil an_l_spoil cd_l_spoil ct_l_spoil, f_l_due := f_l_due, d_l_due := PySem.W.fnOf "_law_due" "_law_due" (defArgs s_l_due) (defBody s_l_due) (defScope s_l_due) .none kV_l_due dc_l_due pm_l_due an_l_due cd_l_due ct_l_due, f_l_made := f_l_made, d_l_made := PySem.W.fnOf "_law_made" "_law_made" (defArgs s_l_made) (defBody s_l_made) (defScope s_l_made) .none kV_l_made dc_l_made pm_l_made an_l_made cd_l_made ct_l_made, f_l_base_caught := f_l_base_caught, d_l_base_caught := PySem.W.fnOf "_law_base_caught" "_law_base_caught" (defArgs s_l_base_caught) (defBody s_l_base_caught) (defScope s_l_base_caught) .none kV_l_base_caught dc_l_base_caught pm_l_base_caught an_l_base_caught cd_l_base_caught ct_l_base_caught, f_law := fa, d_law := PySem.W.fnOf "law" "law" (defArgs s_law) (defBody s_law) (defScope s_law) .none kV_law dc_law pm_law an_law cd_law ct_law, C_Table := C_Table, C_InvalidRow := C_InvalidRow, C_DuplicateTable := C_DuplicateTable, C_Shelf := C_Shelf, C_DuplicateKey := C_DuplicateKey, C_NoTable := C_NoTable, C_Store := C_Store, C_ShownError := C_ShownError, C_Unlike := C_Unlike, f_e_DuplicateKey := f_e_DuplicateKey, d_e_DuplicateKey := PySem.W.fnOf "__init__" "DuplicateKey.__init__" (defArgs s_e_DuplicateKey) (defBody s_e_DuplicateKey) (defScope s_e_DuplicateKey) .none kV_e_DuplicateKey dc_e_DuplicateKey pm_e_DuplicateKey an_e_DuplicateKey cd_e_DuplicateKey ct_e_DuplicateKey, f_e_DuplicateTable := f_e_DuplicateTable, d_e_DuplicateTable := PySem.W.fnOf "__init__" "DuplicateTable.__init__" (defArgs s_e_DuplicateTable) (defBody s_e_DuplicateTable) (defScope s_e_DuplicateTable) .none kV_e_DuplicateTable dc_e_DuplicateTable pm_e_DuplicateTable an_e_DuplicateTable cd_e_DuplicateTable ct_e_DuplicateTable, f_e_InvalidRow := f_e_InvalidRow, d_e_InvalidRow := PySem.W.fnOf "__init__" "InvalidRow.__init__" (defArgs s_e_InvalidRow) (defBody s_e_InvalidRow) (defScope s_e_InvalidRow) .none kV_e_InvalidRow dc_e_InvalidRow pm_e_InvalidRow an_e_InvalidRow cd_e_InvalidRow ct_e_InvalidRow, f_e_NoTable := f_e_NoTable, d_e_NoTable := PySem.W.fnOf "__init__" "NoTable.__init__" (defArgs s_e_NoTable) (defBody s_e_NoTable) (defScope s_e_NoTable) .none kV_e_NoTable dc_e_NoTable pm_e_NoTable an_e_NoTable cd_e_NoTable ct_e_NoTable } := { F_is_name := fun_mk (st := s_is_name) l_is_name c_is_name k_is_name, g_is_name := PySem.W.mg_of X G a_is_name, n_is_name := (fun_mk (st := s_is_name) l_is_name c_is_name k_is_name).binds (ps := ["text"]) fun _ _ _ _ _ _ us hl => match us, hl with | [_], _ => rfl, F_are_columns := fun_mk (st := s_are_columns) l_are_columns c_are_columns k_are_columns, g_are_columns := PySem.W.mg_of X G a_are_columns, n_are_columns := (fun_mk (st := s_are_columns) l_are_columns c_are_columns k_are_columns).binds (ps := ["columns"]) fun _ _ _ _ _ _ us hl => match us, hl with | [_], _ => rfl, F_is_key := fun_mk (st := s_is_key) l_is_key c_is_key k_is_key, g_is_key := PySem.W.mg_of X G a_is_key, n_is_key := (fun_mk (st := s_is_key) l_is_key c_is_key k_is_key).binds (ps := ["key", "columns"]) fun _ _ _ _ _ _ us hl => match us, hl with | [_, _], _ => rfl, F_Table___init := fun_mk (st := s_Table___init) l_Table___init c_Table___init k_Table___init, n_Table___init := (fun_mk (st := s_Table___init) l_Table___init c_Table___init k_Table___init).binds (ps := ["self", "name", "columns", "key"]) fun _ _ _ _ _ _ us hl => match us, hl with | [_, _, _, _], _ => rfl, F_Table_fits := fun_mk (st := s_Table_fits) l_Table_fits c_Table_fits k_Table_fits, n_Table_fits := (fun_mk (st := s_Table_fits) l_Table_fits c_Table_fits k_Table_fits).binds (ps := ["self", "row"]) fun _ _ _ _ _ _ us hl => match us, hl with | [_, _], _ => rfl, F_Table_key_of := fun_mk (st := s_Table_key_of) l_Table_key_of c_Table_key_of k_Table_key_of, n_Table_key_of := (fun_mk (st := s_Table_key_of) l_Table_key_of c_Table_key_of k_Table_key_of).binds (ps := ["self", "row"]) fun _ _ _ _ _ _ us hl => match us, hl with | [_, _], _ => rfl, F_sorted_tables := fun_mk (st := s_sorted_tables) l_sorted_tables c_sorted_tables k_sorted_tables, g_sorted_tables := PySem.W.mg_of X G a_sorted_tables, n_sorted_tables := (fun_mk (st := s_sorted_tables) l_sorted_tables c_sorted_tables k_sorted_tables).binds (ps := ["tables"]) fun _ _ _ _ _ _ us hl => match us, hl with | [_], _ => rfl, F_Shelf___init := fun_mk (st := s_Shelf___init) l_Shelf___init c_Shelf___init k_Shelf___init, n_Shelf___init := (fun_mk (st := s_Shelf___init) l_Shelf___init c_Shelf___init k_Shelf___init).binds (ps := ["self", "held"]) fun _ _ _ _ _ _ us hl => match us, hl with | [_, _], _ => rfl, F_shelf_of := fun_mk (st := s_shelf_of) l_shelf_of c_shelf_of k_shelf_of, g_shelf_of := PySem.W.mg_of X G a_shelf_of, n_shelf_of := (fun_mk (st := s_shelf_of) l_shelf_of c_shelf_of k_shelf_of).binds (ps := ["table", "rows"]) fun _ _ _ _ _ _ us hl => match us, hl with | [_, _], _ => rfl, F_filled_shelves := fun_mk (st := s_filled_shelves) l_filled_shelves c_filled_shelves k_filled_shelves, g_filled_shelves := PySem.W.mg_of X G a_filled_shelves, n_filled_shelves := (fun_mk (st := s_filled_shelves) l_filled_shelves c_filled_shelves k_filled_shelves).binds (ps := ["tables", "rows"]) fun _ _ _ _ _ _ us hl => match us, hl with | [_, _], _ => rfl, F_Store___init := FD_Store___init, n_Store___init_1 := n_Store___init_1, v_Store___init_1 := v_Store___init_1, F_l_start := fun_mk (st := s_l_start) l_l_start c_l_start k_l_start, g_l_start := PySem.W.mg_of X G a_l_start, n_l_start := (fun_mk (st := s_l_start) l_l_start c_l_start k_l_start).binds (ps := ["_law_script"]) fun _ _ _ _ _ _ us hl => match us, hl with | [_], _ => rfl, F_l_draw := fun_mk (st := s_l_draw) l_l_draw c_l_draw k_l_draw, g_l_draw := PySem.W.mg_of X G a_l_draw, n_l_draw := (fun_mk (st := s_l_draw) l_l_draw c_l_draw k_l_draw).binds (ps := ["_law_state", "_law_many"]) fun _ _ _ _ _ _ us hl => match us, hl with | [_, _], _ => rfl, F_l_tables := fun_mk (st := s_l_tables) l_l_tables c_l_tables k_l_tables, g_l_tables := PySem.W.mg_of X G a_l_tables, n_l_tables := (fun_mk (st := s_l_tables) l_l_tables c_l_tables k_l_tables).binds (ps := ["_law_state"]) fun _ _ _ _ _ _ us hl => match us, hl with | [_], _ => rfl, F_l_key := fun_mk (st := s_l_key) l_l_key c_l_key k_l_key, g_l_key := PySem.W.mg_of X G a_l_key, n_l_key := (fun_mk (st := s_l_key) l_l_key c_l_key k_l_key).binds (ps := ["_law_name", "_law_row_here"]) fun _ _ _ _ _ _ us hl => match us, hl with | [_, _], _ => rfl, F_l_size := fun_mk (st := s_l_size) l_l_size c_l_size k_l_size, g_l_size := PySem.W.mg_of X G a_l_size, n_l_size := (fun_mk (st := s_l_size) l_l_size c_l_size k_l_size).binds (ps := ["_law_name"]) fun _ _ _ _ _ _ us hl => match us, hl with | [_], _ => rfl, F_l_row := fun_mk (st := s_l_row) l_l_row c_l_row k_l_row, g_l_row := PySem.W.mg_of X G a_l_row, n_l_row := (fun_mk (st := s_l_row) l_l_row c_l_row k_l_row).binds (ps := ["_law_state", "_law_name"]) fun _ _ _ _ _ _ us hl => match us, hl with | [_, _], _ => rfl, F_l_rows := fun_mk (st := s_l_rows) l_l_rows c_l_rows k_l_rows, g_l_rows := PySem.W.mg_of X G a_l_rows, n_l_rows := (fun_mk (st := s_l_rows) l_l_rows c_l_rows k_l_rows).binds (ps := ["_law_state", "_law_name"]) fun _ _ _ _ _ _ us hl => match us, hl with | [_, _], _ => rfl, F_l_spoil := fun_mk (st := s_l_spoil) l_l_spoil c_l_spoil k_l_spoil, g_l_spoil := PySem.W.mg_of X G a_l_spoil, n_l_spoil := (fun_mk (st := s_l_spoil) l_l_spoil c_l_spoil k_l_spoil).binds (ps := ["_law_state", "_law_tables_here", "_law_handed"]) fun _ _ _ _ _ _ us hl => match us, hl with | [_, _, _], _ => rfl, F_l_due := fun_mk (st := s_l_due) l_l_due c_l_due k_l_due, g_l_due := PySem.W.mg_of X G a_l_due, n_l_due := (fun_mk (st := s_l_due) l_l_due c_l_due k_l_due).binds (ps := ["_law_tables_here", "_law_handed"]) fun _ _ _ _ _ _ us hl => match us, hl with | [_, _], _ => rfl, F_l_made := fun_mk (st := s_l_made) l_l_made c_l_made k_l_made, g_l_made := PySem.W.mg_of X G a_l_made, n_l_made := (fun_mk (st := s_l_made) l_l_made c_l_made k_l_made).binds (ps := ["_law_tables_here", "_law_handed"]) fun _ _ _ _ _ _ us hl => match us, hl with | [_, _], _ => rfl, F_l_base_caught := fun_mk (st := s_l_base_caught) l_l_base_caught c_l_base_caught k_l_base_caught, g_l_base_caught := PySem.W.mg_of X G a_l_base_caught, n_l_base_caught := (fun_mk (st := s_l_base_caught) l_l_base_caught c_l_base_caught k_l_base_caught).binds (ps := ["_law_tables_here", "_law_handed", "_law_word"]) fun _ _ _ _ _ _ us hl => match us, hl with | [_, _, _], _ => rfl, F_law := fun_mk (st := s_law) l_law c_law k_law, g_law := PySem.W.mg_of X G a_law, n_law := (fun_mk (st := s_law) l_law c_law k_law).binds (ps := ["_law_script"]) fun _ _ _ _ _ _ us hl => match us, hl with | [_], _ => rfl, b_ValueError := PySem.W.mg_none_of X G z_ValueError, b_all := PySem.W.mg_none_of X G z_all, b_enumerate := PySem.W.mg_none_of X G z_enumerate, b_int := PySem.W.mg_none_of X G z_int, b_isinstance := PySem.W.mg_none_of X G z_isinstance, b_len := PySem.W.mg_none_of X G z_len, b_list := PySem.W.mg_none_of X G z_list, b_range := PySem.W.mg_none_of X G z_range, b_set := PySem.W.mg_none_of X G z_set, b_sorted := PySem.W.mg_none_of X G z_sorted, b_tuple := PySem.W.mg_none_of X G z_tuple, c_FIRST := ⟨_, PySem.W.mg_of X G v_FIRST, tk_FIRST, rfl⟩, c_FURTHER := ⟨_, PySem.W.mg_of X G v_FURTHER, tk_FURTHER, rfl⟩, c_LONGEST := ⟨_, PySem.W.mg_of X G v_LONGEST, tk_LONGEST, rfl⟩, g_Table := PySem.W.mg_of X G aC_Table, cl_Table := ⟨pg_Table, hd_Table, po_Table, sa_Table⟩, na_Table_name := na_Table_name, na_Table_columns := na_Table_columns, na_Table_key := na_Table_key, na_Table__key_places := na_Table__key_places, me_Table_fits := ⟨a_Table_fits, i_Table_fits, k_Table_fits⟩, g_InvalidRow := PySem.W.mg_of X G aC_InvalidRow, g_DuplicateTable := PySem.W.mg_of X G aC_DuplicateTable, g_Shelf := PySem.W.mg_of X G aC_Shelf, q_list_Shelf := qq_list_Shelf, me_Table_key_of := ⟨a_Table_key_of, i_Table_key_of, k_Table_key_of⟩, g_DuplicateKey := PySem.W.mg_of X G aC_DuplicateKey, cl_Shelf := ⟨pg_Shelf, hd_Shelf, po_Shelf, sa_Shelf⟩, M_Shelf := ⟨mk_Shelf, a_Shelf___init, i_Shelf___init, kc_Shelf⟩, na_Shelf_held := na_Shelf_held, q_tuple_Shelf := qq_tuple_Shelf, g_NoTable := PySem.W.mg_of X G aC_NoTable, g_Store := PySem.W.mg_of X G aC_Store, cl_Store := ⟨pg_Store, hd_Store, po_Store, sa_Store⟩, na_Store_tables := na_Store_tables, na_Store_names := na_Store_names, na_Store__shelves := na_Store__shelves, M_Table := ⟨mk_Table, a_Table___init, i_Table___init, kc_Table⟩, M_Store := ⟨mk_Store, a_Store___init, i_Store___init, kc_Store⟩, e_DuplicateTable_DuplicateTable := exm_of ex_DuplicateTable ic_DuplicateTable ty_DuplicateTable su_DuplicateTable_DuplicateTable, xf_DuplicateTable := ⟨ga_DuplicateTable, gg_DuplicateTable, ex_DuplicateTable, hd_DuplicateTable⟩, na_DuplicateTable_name := na_DuplicateTable_name, e_NoTable_DuplicateTable := exm_of ex_DuplicateTable ic_DuplicateTable ty_DuplicateTable su_NoTable_DuplicateTable, e_NoTable_NoTable := exm_of ex_NoTable ic_NoTable ty_NoTable su_NoTable_NoTable, xf_NoTable := ⟨ga_NoTable, gg_NoTable, ex_NoTable, hd_NoTable⟩, na_NoTable_name := na_NoTable_name, e_InvalidRow_DuplicateTable := exm_of ex_DuplicateTable ic_DuplicateTable ty_DuplicateTable su_InvalidRow_DuplicateTable, e_InvalidRow_NoTable := exm_of ex_NoTable ic_NoTable ty_NoTable su_InvalidRow_NoTable, e_InvalidRow_InvalidRow := exm_of ex_InvalidRow ic_InvalidRow ty_InvalidRow su_InvalidRow_InvalidRow, xf_InvalidRow := ⟨ga_InvalidRow, gg_InvalidRow, ex_InvalidRow, hd_InvalidRow⟩, na_InvalidRow_name := na_InvalidRow_name, na_InvalidRow_row := na_InvalidRow_row, e_DuplicateKey_DuplicateTable := exm_of ex_DuplicateTable ic_DuplicateTable ty_DuplicateTable su_DuplicateKey_DuplicateTable, e_DuplicateKey_NoTable := exm_of ex_NoTable ic_NoTable ty_NoTable su_DuplicateKey_NoTable, e_DuplicateKey_InvalidRow := exm_of ex_InvalidRow ic_InvalidRow ty_InvalidRow su_DuplicateKey_InvalidRow, e_DuplicateKey_DuplicateKey := exm_of ex_DuplicateKey ic_DuplicateKey ty_DuplicateKey su_DuplicateKey_DuplicateKey, xf_DuplicateKey := ⟨ga_DuplicateKey, gg_DuplicateKey, ex_DuplicateKey, hd_DuplicateKey⟩, na_DuplicateKey_name := na_DuplicateKey_name, na_DuplicateKey_key := na_DuplicateKey_key, g_ShownError := PySem.W.mg_of X G aC_ShownError, e_DuplicateTable_ShownError := exm_of ex_ShownError ic_ShownError ty_ShownError su_DuplicateTable_ShownError, xc_DuplicateTable := ⟨ga_DuplicateTable, gg_DuplicateTable, ex_DuplicateTable, hd_DuplicateTable, ca_DuplicateTable, cn_, ct_, cm_DuplicateTable⟩, q_DuplicateTable_DuplicateTable := qq_DuplicateTable_DuplicateTable, q_DuplicateTable_NoTable := qq_DuplicateTable_NoTable, q_DuplicateTable_InvalidRow := qq_DuplicateTable_InvalidRow, q_DuplicateTable_DuplicateKey := qq_DuplicateTable_DuplicateKey, g_Unlike := PySem.W.mg_of X G aC_Unlike, q_DuplicateTable_Unlike := qq_DuplicateTable_Unlike, q_DuplicateTable_ValueError := qq_DuplicateTable_ValueError, e_NoTable_ShownError := exm_of ex_ShownError ic_ShownError ty_ShownError su_NoTable_ShownError, xc_NoTable := ⟨ga_NoTable, gg_NoTable, ex_NoTable, hd_NoTable, ca_NoTable, cn_, ct_, cm_NoTable⟩, q_NoTable_DuplicateTable := qq_NoTable_DuplicateTable, q_NoTable_NoTable := qq_NoTable_NoTable, q_NoTable_InvalidRow := qq_NoTable_InvalidRow, q_NoTable_DuplicateKey := qq_NoTable_DuplicateKey, q_NoTable_Unlike := qq_NoTable_Unlike, q_NoTable_ValueError := qq_NoTable_ValueError, e_InvalidRow_ShownError := exm_of ex_ShownError ic_ShownError ty_ShownError su_InvalidRow_ShownError, xc_InvalidRow := ⟨ga_InvalidRow, gg_InvalidRow, ex_InvalidRow, hd_InvalidRow, ca_InvalidRow, cn_, ct_, cm_InvalidRow⟩, q_InvalidRow_DuplicateTable := qq_InvalidRow_DuplicateTable, q_InvalidRow_NoTable := qq_InvalidRow_NoTable, q_InvalidRow_InvalidRow := qq_InvalidRow_InvalidRow, q_InvalidRow_DuplicateKey := qq_InvalidRow_DuplicateKey, q_InvalidRow_Unlike := qq_InvalidRow_Unlike, q_InvalidRow_ValueError := qq_InvalidRow_ValueError, e_DuplicateKey_ShownError := exm_of ex_ShownError ic_ShownError ty_ShownError su_DuplicateKey_ShownError, xc_DuplicateKey := ⟨ga_DuplicateKey, gg_DuplicateKey, ex_DuplicateKey, hd_DuplicateKey, ca_DuplicateKey, cn_, ct_, cm_DuplicateKey⟩, q_DuplicateKey_DuplicateTable := qq_DuplicateKey_DuplicateTable, q_DuplicateKey_NoTable := qq_DuplicateKey_NoTable, q_DuplicateKey_InvalidRow := qq_DuplicateKey_InvalidRow, q_DuplicateKey_DuplicateKey := qq_DuplicateKey_DuplicateKey, q_DuplicateKey_Unlike := qq_DuplicateKey_Unlike, q_DuplicateKey_ValueError := qq_DuplicateKey_ValueError, x_DuplicateKey := ⟨⟨_, _, _, _, _, _, _, _, _, _, _, _, _, _, _, xl_DuplicateKey, rv_DuplicateKey⟩, sa_DuplicateKey, ex_DuplicateKey, ty_DuplicateKey, kc_DuplicateKey⟩, F_e_DuplicateKey := fun_mk (st := s_e_DuplicateKey) l_e_DuplicateKey c_e_DuplicateKey k_e_DuplicateKey, i_DuplicateKey := a_e_DuplicateKey, t_DuplicateKey := tI_DuplicateKey, n_e_DuplicateKey := (fun_mk (st := s_e_DuplicateKey) l_e_DuplicateKey c_e_DuplicateKey k_e_DuplicateKey).binds (ps := ["self", "name", "key"]) fun _ _ _ _ _ _ us hl => match us, hl with | [_, _, _], _ => rfl, x_DuplicateTable := ⟨⟨_, _, _, _, _, _, _, _, _, _, _, _, _, _, _, xl_DuplicateTable, rv_DuplicateTable⟩, sa_DuplicateTable, ex_DuplicateTable, ty_DuplicateTable, kc_DuplicateTable⟩, F_e_DuplicateTable := fun_mk (st := s_e_DuplicateTable) l_e_DuplicateTable c_e_DuplicateTable k_e_DuplicateTable, i_DuplicateTable := a_e_DuplicateTable, t_DuplicateTable := tI_DuplicateTable, n_e_DuplicateTable := (fun_mk (st := s_e_DuplicateTable) l_e_DuplicateTable c_e_DuplicateTable k_e_DuplicateTable).binds (ps := ["self", "name"]) fun _ _ _ _ _ _ us hl => match us, hl with | [_, _], _ => rfl, x_InvalidRow := ⟨⟨_, _, _, _, _, _, _, _, _, _, _, _, _, _, _, xl_InvalidRow, rv_InvalidRow⟩, sa_InvalidRow, ex_InvalidRow, ty_InvalidRow, kc_InvalidRow⟩, F_e_InvalidRow := fun_mk (st := s_e_InvalidRow) l_e_InvalidRow c_e_InvalidRow k_e_InvalidRow, i_InvalidRow := a_e_InvalidRow, t_InvalidRow := tI_InvalidRow, n_e_InvalidRow := (fun_mk (st := s_e_InvalidRow) l_e_InvalidRow c_e_InvalidRow k_e_InvalidRow).binds (ps := ["self", "name", "row"]) fun _ _ _ _ _ _ us hl => match us, hl with | [_, _, _], _ => rfl, x_NoTable := ⟨⟨_, _, _, _, _, _, _, _, _, _, _, _, _, _, _, xl_NoTable, rv_NoTable⟩, sa_NoTable, ex_NoTable, ty_NoTable, kc_NoTable⟩, F_e_NoTable := fun_mk (st := s_e_NoTable) l_e_NoTable c_e_NoTable k_e_NoTable, i_NoTable := a_e_NoTable, t_NoTable := tI_NoTable, n_e_NoTable := (fun_mk (st := s_e_NoTable) l_e_NoTable c_e_NoTable k_e_NoTable).binds (ps := ["self", "name"]) fun _ _ _ _ _ _ us hl => match us, hl with | [_, _], _ => rfl, nt := ntab }
  exact ⟨_, fun s v => .of_eq rfl, fun base _ _ => ok_law T⟩
end Law
open PySem PySem.W PyProof.Rows
local instance : G.TabL := ⟨[]⟩
set_option maxRecDepth 100000 in
set_option maxHeartbeats 0 in
theorem PySem.Challenge.cw_shownwrites_k16_store_refusals_holds : PySem.Challenge.rw_shownwrites_k16_store_refusals.Holds := by
  w_on; o_law; k_head; (case hw => w_witness2)
  k_fill
  refine L2.walk_of (n := 63) (k := 10) (x := "_law_script") (CX := fun _ => L2.CX0) (sp := fun w => G.SpL (G.w1 (G.rScr _)) G.rBool (fun x => Law.m_law x)) rfl (by decide) rfl ⟨rfl, by decide, by decide⟩ (fun w h Y => PySem.W.kIn_of Y) ?F (fun w H a ns hl _ hS => ⟨H, ns, true, ⟨L2.Same.refl _, fun _ _ m => (nomatch m), fun _ ⟨_, m⟩ => nomatch m⟩, ⟨_, rfl, a, rfl, hS⟩, Law.law_true ns hl, fun H2 B2 v P k => k⟩) fun _ _ _ _ _ z => z
  case F =>
    intro w mg fa h KX G hmg
    refine' Law.all_mk KX G hmg ?aC_Table ?aC_InvalidRow ?aC_DuplicateTable ?aC_Shelf ?aC_DuplicateKey ?aC_NoTable ?aC_Store ?aC_ShownError ?aC_Unlike ?a_is_name ?l_is_name ?c_is_name ?k_is_name ?a_are_columns ?l_are_columns ?c_are_columns ?k_are_columns ?a_is_key ?l_is_key ?c_is_key ?k_is_key ?a_Table___init ?l_Table___init ?c_Table___init ?k_Table___init ?i_Table___init ?a_Table_fits ?l_Table_fits ?c_Table_fits ?k_Table_fits ?i_Table_fits ?a_Table_key_of ?l_Table_key_of ?c_Table_key_of ?k_Table_key_of ?i_Table_key_of ?a_sorted_tables ?l_sorted_tables ?c_sorted_tables ?k_sorted_tables ?a_Shelf___init ?l_Shelf___init ?c_Shelf___init ?k_Shelf___init ?i_Shelf___init ?a_shelf_of ?l_shelf_of ?c_shelf_of ?k_shelf_of ?a_filled_shelves ?l_filled_shelves ?c_filled_shelves ?k_filled_shelves ?a_Store___init ?l_Store___init ?c_Store___init ?k_Store___init ?lT_Store___init ?i_Store___init ?a_l_start ?l_l_start ?c_l_start ?k_l_start ?a_l_draw ?l_l_draw ?c_l_draw ?k_l_draw ?a_l_tables ?l_l_tables ?c_l_tables ?k_l_tables ?a_l_key ?l_l_key ?c_l_key ?k_l_key ?a_l_size ?l_l_size ?c_l_size ?k_l_size ?a_l_row ?l_l_row ?c_l_row ?k_l_row ?a_l_rows ?l_l_rows ?c_l_rows ?k_l_rows ?a_l_spoil ?l_l_spoil ?c_l_spoil ?k_l_spoil ?a_l_due ?l_l_due ?c_l_due ?k_l_due ?a_l_made ?l_l_made ?c_l_made ?k_l_made ?a_l_base_caught ?l_l_base_caught ?c_l_base_caught ?k_l_base_caught ?a_law ?l_law ?c_law ?k_law ?z_ValueError ?z_all ?z_enumerate ?z_int ?z_isinstance ?z_len ?z_list ?z_range ?z_set ?z_sorted ?z_tuple ?v_FIRST ?v_FURTHER ?v_LONGEST ?pg_Table ?hd_Table ?po_Table ?sa_Table ?na_Table_name ?na_Table_columns ?na_Table_key ?na_Table__key_places ?qq_list_Shelf ?pg_Shelf ?hd_Shelf ?po_Shelf ?sa_Shelf ?mk_Shelf ?kc_Shelf ?na_Shelf_held ?qq_tuple_Shelf ?pg_Store ?hd_Store ?po_Store ?sa_Store ?na_Store_tables ?na_Store_names ?na_Store__shelves ?mk_Table ?kc_Table ?mk_Store ?kc_Store ?ex_DuplicateTable ?ic_DuplicateTable ?ty_DuplicateTable ?su_DuplicateTable_DuplicateTable ?ga_DuplicateTable ?gg_DuplicateTable ?hd_DuplicateTable ?na_DuplicateTable_name ?su_NoTable_DuplicateTable ?ex_NoTable ?ic_NoTable ?ty_NoTable ?su_NoTable_NoTable ?ga_NoTable ?gg_NoTable ?hd_NoTable ?na_NoTable_name ?su_InvalidRow_DuplicateTable ?su_InvalidRow_NoTable ?ex_InvalidRow ?ic_InvalidRow ?ty_InvalidRow ?su_InvalidRow_InvalidRow ?ga_InvalidRow ?gg_InvalidRow ?hd_InvalidRow ?na_InvalidRow_name ?na_InvalidRow_row ?su_DuplicateKey_DuplicateTable ?su_DuplicateKey_NoTable ?su_DuplicateKey_InvalidRow ?ex_DuplicateKey ?ic_DuplicateKey ?ty_DuplicateKey ?su_DuplicateKey_DuplicateKey ?ga_DuplicateKey ?gg_DuplicateKey ?hd_DuplicateKey ?na_DuplicateKey_name ?na_DuplicateKey_key ?ex_ShownError ?ic_ShownError ?ty_ShownError ?su_DuplicateTable_ShownError ?ca_DuplicateTable ?cn_ ?ct_ ?cm_DuplicateTable ?qq_DuplicateTable_DuplicateTable ?qq_DuplicateTable_NoTable ?qq_DuplicateTable_InvalidRow ?qq_DuplicateTable_DuplicateKey ?qq_DuplicateTable_Unlike ?qq_DuplicateTable_ValueError ?su_NoTable_ShownError ?ca_NoTable ?cm_NoTable ?qq_NoTable_DuplicateTable ?qq_NoTable_NoTable ?qq_NoTable_InvalidRow ?qq_NoTable_DuplicateKey ?qq_NoTable_Unlike ?qq_NoTable_ValueError ?su_InvalidRow_ShownError ?ca_InvalidRow ?cm_InvalidRow ?qq_InvalidRow_DuplicateTable ?qq_InvalidRow_NoTable ?qq_InvalidRow_InvalidRow ?qq_InvalidRow_DuplicateKey ?qq_InvalidRow_Unlike ?qq_InvalidRow_ValueError ?su_DuplicateKey_ShownError ?ca_DuplicateKey ?cm_DuplicateKey ?qq_DuplicateKey_DuplicateTable ?qq_DuplicateKey_NoTable ?qq_DuplicateKey_InvalidRow ?qq_DuplicateKey_DuplicateKey ?qq_DuplicateKey_Unlike ?qq_DuplicateKey_ValueError ?xl_DuplicateKey ?rv_DuplicateKey ?sa_DuplicateKey ?kc_DuplicateKey ?a_e_DuplicateKey ?l_e_DuplicateKey ?c_e_DuplicateKey ?k_e_DuplicateKey ?tI_DuplicateKey ?xl_DuplicateTable ?rv_DuplicateTable ?sa_DuplicateTable ?kc_DuplicateTable ?a_e_DuplicateTable ?l_e_DuplicateTable ?c_e_DuplicateTable ?k_e_DuplicateTable ?tI_DuplicateTable ?xl_InvalidRow ?rv_InvalidRow ?sa_InvalidRow ?kc_InvalidRow ?a_e_InvalidRow ?l_e_InvalidRow ?c_e_InvalidRow ?k_e_InvalidRow ?tI_InvalidRow ?xl_NoTable ?rv_NoTable ?sa_NoTable ?kc_NoTable ?a_e_NoTable ?l_e_NoTable ?c_e_NoTable ?k_e_NoTable ?tI_NoTable ?ntab
    (case aC_Table => first | k_is | rfl)
    (case aC_InvalidRow => first | k_is | rfl)
    (case aC_DuplicateTable => first | k_is | rfl)
    (case aC_Shelf => first | k_is | rfl)
    (case aC_DuplicateKey => first | k_is | rfl)
    (case aC_NoTable => first | k_is | rfl)
    (case aC_Store => first | k_is | rfl)
    (case aC_ShownError => first | k_is | rfl)
    (case aC_Unlike => first | k_is | rfl)
    (case a_is_name => first | k_is | rfl)
    (case l_is_name => first | k_is | rfl)
    (case c_is_name => first | k_is | rfl)
    (case k_is_name => first | k_is | rfl)
    (case a_are_columns => first | k_is | rfl)
    (case l_are_columns => first | k_is | rfl)
    (case c_are_columns => first | k_is | rfl)
    (case k_are_columns => first | k_is | rfl)
    (case a_is_key => first | k_is | rfl)
    (case l_is_key => first | k_is | rfl)
    (case c_is_key => first | k_is | rfl)
    (case k_is_key => first | k_is | rfl)
    (case a_Table___init => first | k_is | rfl)
    (case l_Table___init => first | k_is | rfl)
    (case c_Table___init => first | k_is | rfl)
    (case k_Table___init => first | k_is | rfl)
    (case i_Table___init => first | k_is | rfl)
    (case a_Table_fits => first | k_is | rfl)
    (case l_Table_fits => first | k_is | rfl)
    (case c_Table_fits => first | k_is | rfl)
    (case k_Table_fits => first | k_is | rfl)
    (case i_Table_fits => first | k_is | rfl)
    (case a_Table_key_of => first | k_is | rfl)
    (case l_Table_key_of => first | k_is | rfl)
    (case c_Table_key_of => first | k_is | rfl)
    (case k_Table_key_of => first | k_is | rfl)
    (case i_Table_key_of => first | k_is | rfl)
    (case a_sorted_tables => first | k_is | rfl)
    (case l_sorted_tables => first | k_is | rfl)
    (case c_sorted_tables => first | k_is | rfl)
    (case k_sorted_tables => first | k_is | rfl)
    (case a_Shelf___init => first | k_is | rfl)
    (case l_Shelf___init => first | k_is | rfl)
    (case c_Shelf___init => first | k_is | rfl)
    (case k_Shelf___init => first | k_is | rfl)
    (case i_Shelf___init => first | k_is | rfl)
    (case a_shelf_of => first | k_is | rfl)
    (case l_shelf_of => first | k_is | rfl)
    (case c_shelf_of => first | k_is | rfl)
    (case k_shelf_of => first | k_is | rfl)
    (case a_filled_shelves => first | k_is | rfl)
    (case l_filled_shelves => first | k_is | rfl)
    (case c_filled_shelves => first | k_is | rfl)
    (case k_filled_shelves => first | k_is | rfl)
    (case a_Store___init => first | k_is | rfl)
    (case l_Store___init => first | k_is | rfl)
    (case c_Store___init => first | k_is | rfl)
    (case k_Store___init => first | k_is | rfl)
    (case lT_Store___init => first | k_is | rfl)
    (case i_Store___init => first | k_is | rfl)
    (case a_l_start => first | k_is | rfl)
    (case l_l_start => first | k_is | rfl)
    (case c_l_start => first | k_is | rfl)
    (case k_l_start => first | k_is | rfl)
    (case a_l_draw => first | k_is | rfl)
    (case l_l_draw => first | k_is | rfl)
    (case c_l_draw => first | k_is | rfl)
    (case k_l_draw => first | k_is | rfl)
    (case a_l_tables => first | k_is | rfl)
    (case l_l_tables => first | k_is | rfl)
    (case c_l_tables => first | k_is | rfl)
    (case k_l_tables => first | k_is | rfl)
    (case a_l_key => first | k_is | rfl)
    (case l_l_key => first | k_is | rfl)
    (case c_l_key => first | k_is | rfl)
    (case k_l_key => first | k_is | rfl)
    (case a_l_size => first | k_is | rfl)
    (case l_l_size => first | k_is | rfl)
    (case c_l_size => first | k_is | rfl)
    (case k_l_size => first | k_is | rfl)
    (case a_l_row => first | k_is | rfl)
    (case l_l_row => first | k_is | rfl)
    (case c_l_row => first | k_is | rfl)
    (case k_l_row => first | k_is | rfl)
    (case a_l_rows => first | k_is | rfl)
    (case l_l_rows => first | k_is | rfl)
    (case c_l_rows => first | k_is | rfl)
    (case k_l_rows => first | k_is | rfl)
    (case a_l_spoil => first | k_is | rfl)
    (case l_l_spoil => first | k_is | rfl)
    (case c_l_spoil => first | k_is | rfl)
    (case k_l_spoil => first | k_is | rfl)
    (case a_l_due => first | k_is | rfl)
    (case l_l_due => first | k_is | rfl)
    (case c_l_due => first | k_is | rfl)
    (case k_l_due => first | k_is | rfl)
    (case a_l_made => first | k_is | rfl)
    (case l_l_made => first | k_is | rfl)
    (case c_l_made => first | k_is | rfl)
    (case k_l_made => first | k_is | rfl)
    (case a_l_base_caught => first | k_is | rfl)
    (case l_l_base_caught => first | k_is | rfl)
    (case c_l_base_caught => first | k_is | rfl)
    (case k_l_base_caught => first | k_is | rfl)
    (case a_law => first | k_is | rfl)
    (case l_law => first | k_is | rfl)
    (case c_law => first | k_is | rfl)
    (case k_law => first | k_is | rfl)
    (case z_ValueError => first | k_is | rfl)
    (case z_all => first | k_is | rfl)
    (case z_enumerate => first | k_is | rfl)
    (case z_int => first | k_is | rfl)
    (case z_isinstance => first | k_is | rfl)
    (case z_len => first | k_is | rfl)
    (case z_list => first | k_is | rfl)
    (case z_range => first | k_is | rfl)
    (case z_set => first | k_is | rfl)
    (case z_sorted => first | k_is | rfl)
    (case z_tuple => first | k_is | rfl)
    (case v_FIRST => first | k_is | rfl)
    (case v_FURTHER => first | k_is | rfl)
    (case v_LONGEST => first | k_is | rfl)
    (case pg_Table => first | k_is | rfl)
    (case hd_Table => first | k_is | rfl)
    (case po_Table => first | k_is | rfl)
    (case sa_Table => first | k_is | rfl)
    (case na_Table_name => first | k_is | rfl)
    (case na_Table_columns => first | k_is | rfl)
    (case na_Table_key => first | k_is | rfl)
    (case na_Table__key_places => first | k_is | rfl)
    (case qq_list_Shelf => first | k_is | rfl)
    (case pg_Shelf => first | k_is | rfl)
    (case hd_Shelf => first | k_is | rfl)
    (case po_Shelf => first | k_is | rfl)
    (case sa_Shelf => first | k_is | rfl)
    (case mk_Shelf => first | k_is | rfl)
    (case kc_Shelf => first | k_is | rfl)
    (case na_Shelf_held => first | k_is | rfl)
    (case qq_tuple_Shelf => first | k_is | rfl)
    (case pg_Store => first | k_is | rfl)
    (case hd_Store => first | k_is | rfl)
    (case po_Store => first | k_is | rfl)
    (case sa_Store => first | k_is | rfl)
    (case na_Store_tables => first | k_is | rfl)
    (case na_Store_names => first | k_is | rfl)
    (case na_Store__shelves => first | k_is | rfl)
    (case mk_Table => first | k_is | rfl)
    (case kc_Table => first | k_is | rfl)
    (case mk_Store => first | k_is | rfl)
    (case kc_Store => first | k_is | rfl)
    (case ex_DuplicateTable => first | k_is | rfl)
    (case ic_DuplicateTable => first | k_is | rfl)
    (case ty_DuplicateTable => first | k_is | rfl)
    (case su_DuplicateTable_DuplicateTable => first | k_is | rfl)
    (case ga_DuplicateTable => first | k_is | rfl)
    (case gg_DuplicateTable => first | k_is | rfl)
    (case hd_DuplicateTable => first | k_is | rfl)
    (case na_DuplicateTable_name => first | k_is | rfl)
    (case su_NoTable_DuplicateTable => first | k_is | rfl)
    (case ex_NoTable => first | k_is | rfl)
    (case ic_NoTable => first | k_is | rfl)
    (case ty_NoTable => first | k_is | rfl)
    (case su_NoTable_NoTable => first | k_is | rfl)
    (case ga_NoTable => first | k_is | rfl)
    (case gg_NoTable => first | k_is | rfl)
    (case hd_NoTable => first | k_is | rfl)
    (case na_NoTable_name => first | k_is | rfl)
    (case su_InvalidRow_DuplicateTable => first | k_is | rfl)
    (case su_InvalidRow_NoTable => first | k_is | rfl)
    (case ex_InvalidRow => first | k_is | rfl)
    (case ic_InvalidRow => first | k_is | rfl)
    (case ty_InvalidRow => first | k_is | rfl)
    (case su_InvalidRow_InvalidRow => first | k_is | rfl)
    (case ga_InvalidRow => first | k_is | rfl)
    (case gg_InvalidRow => first | k_is | rfl)
    (case hd_InvalidRow => first | k_is | rfl)
    (case na_InvalidRow_name => first | k_is | rfl)
    (case na_InvalidRow_row => first | k_is | rfl)
    (case su_DuplicateKey_DuplicateTable => first | k_is | rfl)
    (case su_DuplicateKey_NoTable => first | k_is | rfl)
    (case su_DuplicateKey_InvalidRow => first | k_is | rfl)
    (case ex_DuplicateKey => first | k_is | rfl)
    (case ic_DuplicateKey => first | k_is | rfl)
    (case ty_DuplicateKey => first | k_is | rfl)
    (case su_DuplicateKey_DuplicateKey => first | k_is | rfl)
    (case ga_DuplicateKey => first | k_is | rfl)
    (case gg_DuplicateKey => first | k_is | rfl)
    (case hd_DuplicateKey => first | k_is | rfl)
    (case na_DuplicateKey_name => first | k_is | rfl)
    (case na_DuplicateKey_key => first | k_is | rfl)
    (case ex_ShownError => first | k_is | rfl)
    (case ic_ShownError => first | k_is | rfl)
    (case ty_ShownError => first | k_is | rfl)
    (case su_DuplicateTable_ShownError => first | k_is | rfl)
    (case ca_DuplicateTable => first | k_is | rfl)
    (case cn_ => first | k_is | rfl)
    (case ct_ => first | k_is | rfl)
    (case cm_DuplicateTable => first | k_is | rfl)
    (case qq_DuplicateTable_DuplicateTable => first | k_is | rfl)
    (case qq_DuplicateTable_NoTable => first | k_is | rfl)
    (case qq_DuplicateTable_InvalidRow => first | k_is | rfl)
    (case qq_DuplicateTable_DuplicateKey => first | k_is | rfl)
    (case qq_DuplicateTable_Unlike => first | k_is | rfl)
    (case qq_DuplicateTable_ValueError => first | k_is | rfl)
    (case su_NoTable_ShownError => first | k_is | rfl)
    (case ca_NoTable => first | k_is | rfl)
    (case cm_NoTable => first | k_is | rfl)
    (case qq_NoTable_DuplicateTable => first | k_is | rfl)
    (case qq_NoTable_NoTable => first | k_is | rfl)
    (case qq_NoTable_InvalidRow => first | k_is | rfl)
    (case qq_NoTable_DuplicateKey => first | k_is | rfl)
    (case qq_NoTable_Unlike => first | k_is | rfl)
    (case qq_NoTable_ValueError => first | k_is | rfl)
    (case su_InvalidRow_ShownError => first | k_is | rfl)
    (case ca_InvalidRow => first | k_is | rfl)
    (case cm_InvalidRow => first | k_is | rfl)
    (case qq_InvalidRow_DuplicateTable => first | k_is | rfl)
    (case qq_InvalidRow_NoTable => first | k_is | rfl)
    (case qq_InvalidRow_InvalidRow => first | k_is | rfl)
    (case qq_InvalidRow_DuplicateKey => first | k_is | rfl)
    (case qq_InvalidRow_Unlike => first | k_is | rfl)
    (case qq_InvalidRow_ValueError => first | k_is | rfl)
    (case su_DuplicateKey_ShownError => first | k_is | rfl)
    (case ca_DuplicateKey => first | k_is | rfl)
    (case cm_DuplicateKey => first | k_is | rfl)
    (case qq_DuplicateKey_DuplicateTable => first | k_is | rfl)
    (case qq_DuplicateKey_NoTable => first | k_is | rfl)
    (case qq_DuplicateKey_InvalidRow => first | k_is | rfl)
    (case qq_DuplicateKey_DuplicateKey => first | k_is | rfl)
    (case qq_DuplicateKey_Unlike => first | k_is | rfl)
    (case qq_DuplicateKey_ValueError => first | k_is | rfl)
    (case xl_DuplicateKey => first | k_is | rfl)
    (case rv_DuplicateKey => first | k_is | rfl)
    (case sa_DuplicateKey => first | k_is | rfl)
    (case kc_DuplicateKey => first | k_is | rfl)
    (case a_e_DuplicateKey => first | k_is | rfl)
    (case l_e_DuplicateKey => first | k_is | rfl)
    (case c_e_DuplicateKey => first | k_is | rfl)
    (case k_e_DuplicateKey => first | k_is | rfl)
    (case tI_DuplicateKey => first | k_is | rfl)
    (case xl_DuplicateTable => first | k_is | rfl)
    (case rv_DuplicateTable => first | k_is | rfl)
    (case sa_DuplicateTable => first | k_is | rfl)
    (case kc_DuplicateTable => first | k_is | rfl)
    (case a_e_DuplicateTable => first | k_is | rfl)
    (case l_e_DuplicateTable => first | k_is | rfl)
    (case c_e_DuplicateTable => first | k_is | rfl)
    (case k_e_DuplicateTable => first | k_is | rfl)
    (case tI_DuplicateTable => first | k_is | rfl)
    (case xl_InvalidRow => first | k_is | rfl)
    (case rv_InvalidRow => first | k_is | rfl)
    (case sa_InvalidRow => first | k_is | rfl)
    (case kc_InvalidRow => first | k_is | rfl)
    (case a_e_InvalidRow => first | k_is | rfl)
    (case l_e_InvalidRow => first | k_is | rfl)
    (case c_e_InvalidRow => first | k_is | rfl)
    (case k_e_InvalidRow => first | k_is | rfl)
    (case tI_InvalidRow => first | k_is | rfl)
    (case xl_NoTable => first | k_is | rfl)
    (case rv_NoTable => first | k_is | rfl)
    (case sa_NoTable => first | k_is | rfl)
    (case kc_NoTable => first | k_is | rfl)
    (case a_e_NoTable => first | k_is | rfl)
    (case l_e_NoTable => first | k_is | rfl)
    (case c_e_NoTable => first | k_is | rfl)
    (case k_e_NoTable => first | k_is | rfl)
    (case tI_NoTable => first | k_is | rfl)
    (case ntab => exact fun q ⟨r, m⟩ => nomatch m)
