import PyProof.Rows.All
import Wide.All
import OpenK.AllK
import Wide.FinOn
import HandS.ForMost
import HandS.Exc
import HandS.ExcOwn
import HandS.TryOnly
import HandS.WordsExc
import HandS.Walk
import HandS.IsInst
import KE.GoesNew
import KE.GoesEnum
import KE.GoesMore
import HandS.TupAny
import HandS.Conv
import HandS.TupMul
import HandS.Zip
import PyProof.EnumMake
import PyProof.Draws
import HandS.Flow
import HandS.Small
import HandS.Style
import HandS.ExcIs
import KE.DataAny
import HandS.More
import HandS.Deep
import HandS.Dict
import KE.SortData
import KE.KDictSum
import KE.KDictCopyH
import HandS.SetFor
import HandS.Strs
import HandS.Star
import HandS.Sort
import PyProof.Rows.Walk
import PySem.Challenge.RW_anydlooks_k03_spaces_and_their_bases
section
set_option Elab.async false
set_option linter.all false
set_option maxRecDepth 100000
namespace PD
open PySem PySem.Spec PyProof.Rows L2

/-- what a dict of one's own holds: keys that are ints or texts; keys that are tuples of such -/
inductive DiO where
  | k (kvs : List (Key × PyData))
  | t (kvs : List (List Key × PyData))
inductive Cell where
  | un
  | fz (d : PyData)
  | ow (b : Bool) (ds : List PyData)
  | od (o : DiO)
/-- a cell with an object of its own -/
def Cell.Own : Cell → Prop
  | .ow _ _ => True
  | .od _ => True
  | _ => False
abbrev Sg := List Cell
inductive Ans (α : Type) where
  | ok (a : α)
  | ex (c : Str) (fs : List (Str × PyData))
abbrev M (α : Type) := Sg → Option (Ans α × Sg)
abbrev Am := Nat → Option Addr
/-- what a frame never touches (ph), and what its caller lent it (ba, by slot) -/
structure Fx where
  ph : Addr → Prop
  ba : Am
def Hid (ph : Fx) (am : Am) (b : Addr) : Prop := ph.ph b ∨ ∃ i, am i = some b
open Classical in
noncomputable def hid (ph : Fx) (am : Am) (H : Hp) : Hp := fun b => if Hid ph am b then none else H b
variable {K : PySem.W.Frag} {ph : Fx} {am am' am'' : Am} {H H' H'' H1 H2 : Hp} {a b p : Addr} {o : HO}

theorem hid_some : hid ph am H b = some o ↔ ¬ Hid ph am b ∧ H b = some o := by
  unfold hid
  by_cases h : Hid ph am b
  · simp [h]
  · simp [h]
theorem hid_sub : Same (hid ph am H) H := fun _ _ h => (hid_some.mp h).2
theorem hid_same (s : Same H H') : Same (hid ph am H) (hid ph am H') := fun b o h =>
  let ⟨h1, h2⟩ := hid_some.mp h
  hid_some.mpr ⟨h1, s b o h2⟩

mutual
/-- a value as data -/
inductive Dq (K : PySem.W.Frag) (H : Hp) : V → PyData → Prop
  | non : Dq K H .non .none
  | bl (b : Bool) : Dq K H (.bl b) (.bool b)
  | int (i : Int) : Dq K H (.int i) (.int i)
  | str (x : Str) : Dq K H (.str x) (.str x)
  | lst {a : Addr} {xs : List V} {ds : List PyData} : SqL K H a xs → DqAll K H xs ds → Dq K H (.ref a) (.list ds)
  | tup {a : Addr} {xs : List V} {ds : List PyData} : H a = some (.tup xs) → DqAll K H xs ds → Dq K H (.ref a) (.tuple ds)
inductive DqAll (K : PySem.W.Frag) (H : Hp) : List V → List PyData → Prop
  | nil : DqAll K H [] []
  | cons {v : V} {vs : List V} {d : PyData} {ds : List PyData} : Dq K H v d → DqAll K H vs ds → DqAll K H (v :: vs) (d :: ds)
end
theorem rd_mono (s : Same H H') {u : HO} (q : Rd H a u) : Rd H' a u := by
  rcases q with q | ⟨o, q⟩
  · exact .inl (s _ _ q)
  · exact .inr ⟨o, s _ _ q⟩
mutual
theorem Dq.dp : ∀ {v : V} {d : PyData}, Dq K H v d → L2.Dp K H v d
  | _, _, .non => .non
  | _, _, .bl b => .bl b
  | _, _, .int i => .int i
  | _, _, .str x => .str x
  | _, _, .lst q h => .lst q h.dp
  | _, _, .tup q h => .tup (.inl (.inl q)) h.dp
theorem DqAll.dp : ∀ {vs : List V} {ds : List PyData}, DqAll K H vs ds → L2.DpAll K H vs ds
  | _, _, .nil => .nil
  | _, _, .cons h t => .cons h.dp t.dp
end
mutual
theorem dp_mono (s : Same H H') : ∀ {v : V} {d : PyData}, Dq K H v d → Dq K H' v d
  | _, _, .non => .non
  | _, _, .bl b => .bl b
  | _, _, .int i => .int i
  | _, _, .str x => .str x
  | _, _, .lst q h => .lst (s.seq q) (dps_mono s h)
  | _, _, .tup q h => .tup (s _ _ q) (dps_mono s h)
theorem dps_mono (s : Same H H') : ∀ {vs : List V} {ds : List PyData}, DqAll K H vs ds → DqAll K H' vs ds
  | _, _, .nil => .nil
  | _, _, .cons h t => .cons (dp_mono s h) (dps_mono s t)
end
theorem seqT_mono (s : Same H H') {xs : List V} (q : SqT K H a xs) : SqT K H' a xs := by
  rcases q with (q | ⟨o, q⟩) | q
  · exact .inl (.inl (s _ _ q))
  · exact .inl (.inr ⟨o, s _ _ q⟩)
  · exact .inr q
theorem same_new (h : H p = none) : Same H (upd H p o) := fun b x e => by
  rw [upd_ne (ne_of_none e h)]
  exact e

/-- DqAll as lists -/
theorem DqAll.length : ∀ {vs : List V} {ds : List PyData}, DqAll K H vs ds → vs.length = ds.length
  | _, _, .nil => rfl
  | _, _, .cons _ t => by simp [DqAll.length t]
theorem DqAll.get : ∀ {vs : List V} {ds : List PyData} {i : Nat} {d : PyData}, DqAll K H vs ds → ds[i]? = some d → ∃ v, vs[i]? = some v ∧ Dq K H v d
  | _, _, _, _, .nil, e => by simp at e
  | _, _, 0, _, .cons h _, e => by simp at e; subst e; exact ⟨_, rfl, h⟩
  | _, _, i + 1, _, .cons _ t, e => by
    obtain ⟨v, e1, e2⟩ := DqAll.get (i := i) t (by simpa using e)
    exact ⟨v, by simpa using e1, e2⟩
theorem DqAll.append : ∀ {vs ws : List V} {ds es : List PyData}, DqAll K H vs ds → DqAll K H ws es → DqAll K H (vs ++ ws) (ds ++ es)
  | _, _, _, _, .nil, s => s
  | _, _, _, _, .cons h t, s => .cons h (DqAll.append t s)
theorem DqAll.take : ∀ {vs : List V} {ds : List PyData} (n : Nat), DqAll K H vs ds → DqAll K H (vs.take n) (ds.take n)
  | _, _, 0, _ => by simpa using .nil
  | _, _, _ + 1, .nil => .nil
  | _, _, n + 1, .cons h t => by simpa using DqAll.cons h (DqAll.take n t)
theorem DqAll.drop : ∀ {vs : List V} {ds : List PyData} (n : Nat), DqAll K H vs ds → DqAll K H (vs.drop n) (ds.drop n)
  | _, _, 0, h => by simpa using h
  | _, _, _ + 1, .nil => .nil
  | _, _, n + 1, .cons _ t => by simpa using DqAll.drop n t
theorem DqAll.set {v : V} {d : PyData} (h : Dq K H v d) : ∀ {vs : List V} {ds : List PyData} (n : Nat), DqAll K H vs ds → DqAll K H (vs.set n v) (ds.set n d)
  | _, _, _, .nil => .nil
  | _, _, 0, .cons _ t => .cons h t
  | _, _, n + 1, .cons q t => .cons q (DqAll.set h n t)
theorem DqAll.rev : ∀ {vs : List V} {ds : List PyData}, DqAll K H vs ds → DqAll K H vs.reverse ds.reverse
  | _, _, .nil => .nil
  | _, _, .cons h t => by simpa using DqAll.append (DqAll.rev t) (.cons h .nil)
theorem DqAll.rep {v : V} {d : PyData} (h : Dq K H v d) : ∀ n, DqAll K H (List.replicate n v) (List.replicate n d)
  | 0 => .nil
  | n + 1 => .cons h (DqAll.rep h n)

/-- a dict's heap object holds so much -/
def DOR (K : PySem.W.Frag) (H : Hp) : HO → DiO → Prop
  | .dK vs, .k kvs => vs.map (·.1) = kvs.map (·.1) ∧ DqAll K H (vs.map (·.2)) (kvs.map (·.2))
  | .dT vs, .t kvs => vs.map (·.1) = kvs.map (·.1) ∧ DqAll K H (vs.map (·.2)) (kvs.map (·.2))
  | _, _ => False
theorem dor_mono (s : Same H H') : ∀ {u : HO} {o : DiO}, DOR K H u o → DOR K H' u o := by
  intro u o h
  cases u <;> cases o <;> first | exact h.elim | exact ⟨h.1, dps_mono s h.2⟩
structure Step (am : Am) (H : Hp) (am' : Am) (H' : Hp) : Prop where
  keep : ∀ b o, H b = some o → (∀ i, am i ≠ some b) → H' b = some o
  new : ∀ i a, am' i = some a → (∃ j, am j = some a) ∨ H a = none
  there : ∀ b o, H b = some o → ∃ o', H' b = some o'
theorem Step.refl : Step am H am H := ⟨fun _ _ h _ => h, fun i a h => .inl ⟨i, h⟩, fun _ o h => ⟨o, h⟩⟩
theorem Step.of (s : Same H H') : Step am H am H' := ⟨fun b o h _ => s b o h, fun i a h => .inl ⟨i, h⟩, fun b o h => ⟨o, s b o h⟩⟩
theorem Step.trans (x : Step am H am' H') (y : Step am' H' am'' H'') : Step am H am'' H'' where
  keep := fun b o h n => y.keep b o (x.keep b o h n) fun i e => by
    rcases x.new i b e with ⟨j, q⟩ | q
    · exact n j q
    · rw [q] at h; cases h
  new := fun i a h => by
    rcases y.new i a h with ⟨j, q⟩ | q
    · exact x.new j a q
    · cases e : H a with
      | none => exact .inr rfl
      | some o =>
        obtain ⟨o', e'⟩ := x.there a o e
        rw [q] at e'; cases e'
  there := fun b o h => let ⟨o', h'⟩ := x.there b o h; y.there b o' h'
theorem Step.hid (x : Step am H am' H') : Same (hid ph am H) (PD.hid ph am' H') := fun b o h => by
  obtain ⟨h1, h2⟩ := hid_some.mp h
  refine hid_some.mpr ⟨fun q => ?_, x.keep b o h2 fun i e => h1 (.inr ⟨i, e⟩)⟩
  rcases q with q | ⟨i, q⟩
  · exact h1 (.inl q)
  · rcases x.new i b q with ⟨j, e⟩ | e
    · exact h1 (.inr ⟨j, e⟩)
    · rw [e] at h2; cases h2

/-- no tuple -/
def mu (o : HO) : Prop := ∀ xs, o ≠ .tup xs
theorem mu_lst {xs : List V} : mu (.lst xs) := fun _ z => by cases z
theorem mu_dor {u : HO} {o : DiO} (h : DOR K H u o) : mu u := fun xs z => by
  subst z
  cases o <;> exact h.elim
structure SR (K : PySem.W.Frag) (ph : Fx) (am : Am) (σ : L2.St) (H : Hp) (δ : Sg) : Prop where
  len : σ.length = δ.length
  fz : ∀ (i : Nat) (d : PyData), δ[i]? = some (Cell.fz d) → ∃ v, σ[i]? = some (some v) ∧ Dq K (hid ph am H) v d
  ow : ∀ (i : Nat) (b : Bool) (ds : List PyData), δ[i]? = some (Cell.ow b ds) → ∃ a vs, am i = some a ∧ σ[i]? = some (some (.ref a)) ∧ H a = some (.lst vs) ∧ DqAll K (hid ph am H) vs ds ∧ vs.length ≤ sizeLine ∧ (b = false → ph.ba i = none)
  amf : ∀ (i : Nat) (a : Addr), am i = some a → ¬ ph.ph a ∧ ∃ c, δ[i]? = some c ∧ c.Own
  inj : ∀ (i j : Nat) (a : Addr), am i = some a → am j = some a → i = j
  phs : ∀ b, ph.ph b → ∃ o, H b = some o ∧ mu o
  bas : ∀ (i : Nat) (a : Addr), ph.ba i = some a → am i = some a
  od : ∀ (i : Nat) (o : DiO), δ[i]? = some (Cell.od o) → ∃ a u, am i = some a ∧ σ[i]? = some (some (.ref a)) ∧ H a = some u ∧ DOR K (hid ph am H) u o ∧ ph.ba i = none
variable {σ : L2.St} {δ δ' δ'' : Sg}
theorem SR.hiddenM (s : SR K ph am σ H δ) (h : Hid ph am b) : ∃ o, H b = some o ∧ mu o := by
  rcases h with h | ⟨i, h⟩
  · exact s.phs b h
  · obtain ⟨_, c, e, co⟩ := s.amf i b h
    cases c with
    | un => exact co.elim
    | fz d => exact co.elim
    | ow bb ds =>
      obtain ⟨a, vs, e1, _, e2, _⟩ := s.ow i bb ds e
      rw [h] at e1; cases e1
      exact ⟨_, e2, mu_lst⟩
    | od o =>
      obtain ⟨a, u, e1, _, e2, e3, _⟩ := s.od i o e
      rw [h] at e1; cases e1
      exact ⟨_, e2, mu_dor e3⟩
theorem SR.hidden (s : SR K ph am σ H δ) (h : Hid ph am b) : ∃ o, H b = some o := let ⟨o, e, _⟩ := s.hiddenM h; ⟨o, e⟩
/-- a tuple is never hidden -/
theorem SR.tup_seen (s : SR K ph am σ H δ) {xs : List V} (h : H b = some (.tup xs)) : hid ph am H b = some (.tup xs) :=
  hid_some.mpr ⟨fun z => by
    obtain ⟨o, e, m⟩ := s.hiddenM z
    rw [h] at e
    cases e
    exact m _ rfl, h⟩
theorem SR.same (s : SR K ph am σ H δ) (q : Same H H') : SR K ph am σ H' δ where
  len := s.len
  fz := fun i d e => let ⟨v, e1, e2⟩ := s.fz i d e; ⟨v, e1, dp_mono (hid_same q) e2⟩
  ow := fun i b ds e => let ⟨a, vs, e1, e2, e3, e4, e5⟩ := s.ow i b ds e; ⟨a, vs, e1, e2, q _ _ e3, dps_mono (hid_same q) e4, e5⟩
  amf := s.amf
  inj := s.inj
  phs := fun b h => let ⟨o, e, m⟩ := s.phs b h; ⟨o, q b o e, m⟩
  bas := s.bas
  od := fun i o e => let ⟨a, u, e1, e2, e3, e4, e5⟩ := s.od i o e; ⟨a, u, e1, e2, q _ _ e3, dor_mono (hid_same q) e4, e5⟩
theorem SR.new (s : SR K ph am σ H δ) (h : H p = none) : ¬ Hid ph am p := fun q => by
  obtain ⟨o, e⟩ := s.hidden q
  rw [h] at e; cases e

/-- what is wanted of an exception: W; c's class by its name -/
def XPm (K : PySem.W.Frag) (mg : Str → Option Value) (W : WX) (ph : Fx) (am : Am) (σ : L2.St) (H : Hp) (δ' : Sg) (c : Str) (fs : List (Str × PyData)) : Prop :=
  ∀ C dx am' H', mg c = some (.ref C) → Step am H am' H' → SR K ph am' σ H' δ' →
    ((fs = [] ∧ dx = none) ∨ ∃ a vs, dx = some a ∧ fs ≠ [] ∧ H' a = some (.xd vs) ∧ vs.map (·.1) = fs.map (·.1) ∧ DqAll K (hid ph am' H') (vs.map (·.2)) (fs.map (·.2))) → W (.ref C) dx σ H'
abbrev XP (X : Cx) (W : WX) (ph : Fx) (am : Am) (σ : L2.St) (H : Hp) (δ' : Sg) (c : Str) (fs : List (Str × PyData)) : Prop := XPm X.K X.mg W ph am σ H δ' c fs
abbrev E00 : WX := fun _ _ _ _ => False
/-- .. of a statement: wherever it raises -/
def XPS (X : Cx) (W : WX) (ph : Fx) (am : Am) (H : Hp) (δ' : Sg) (c : Str) (fs : List (Str × PyData)) : Prop :=
  ∀ C dx am' σ' H', X.mg c = some (.ref C) → Step am H am' H' → SR X.K ph am' σ' H' δ' →
    ((fs = [] ∧ dx = none) ∨ ∃ a vs, dx = some a ∧ fs ≠ [] ∧ H' a = some (.xd vs) ∧ vs.map (·.1) = fs.map (·.1) ∧ DqAll X.K (hid ph am' H') (vs.map (·.2)) (fs.map (·.2))) → W (.ref C) dx σ' H'
/-- .. of a def: what a caller wants -/
def XPd (K : PySem.W.Frag) (mg : Str → Option Value) (E : XK) (ph : Fx) (am : Am) (H : Hp) (c : Str) (fs : List (Str × PyData)) : Prop :=
  ∀ C dx am' H', mg c = some (.ref C) → Step am H am' H' →
    ((fs = [] ∧ dx = none) ∨ ∃ a vs, dx = some a ∧ fs ≠ [] ∧ H' a = some (.xd vs) ∧ vs.map (·.1) = fs.map (·.1) ∧ DqAll K (hid ph am' H') (vs.map (·.2)) (fs.map (·.2))) → E (.ref C) dx H'

def ReadE (X : Cx) (W : WX) (t : TE) (f : M PyData) : Prop := ∀ (ph : Fx) (am : Am) (σ : L2.St) (H : Hp) (δ : Sg) (Q : VK) (ans : Ans PyData) (δ' : Sg), SR X.K ph am σ H δ → f δ = some (ans, δ') →
    (∀ d, ans = .ok d → ∀ am' v H', Step am H am' H' → SR X.K ph am' σ H' δ' → Dq X.K (hid ph am' H') v d → Q v H') →
    (∀ c fs, ans = .ex c fs → XP X W ph am σ H δ' c fs) → t σ H Q
def ReadF (X : Cx) (W : WX) (t : TE) (f : M (List PyData)) : Prop := ∀ (ph : Fx) (am : Am) (σ : L2.St) (H : Hp) (δ : Sg) (Q : VK) (ans : Ans (List PyData)) (δ' : Sg), SR X.K ph am σ H δ → f δ = some (ans, δ') →
    (∀ ds, ans = .ok ds → ∀ am' p vs H', H p = none → H' p = none → Step am H am' H' → SR X.K ph am' σ H' δ' → DqAll X.K (hid ph am' H') vs ds → vs.length ≤ sizeLine → Q (.ref p) (upd H' p (.lst vs))) →
    (∀ c fs, ans = .ex c fs → XP X W ph am σ H δ' c fs) → t σ H Q
def ReadA (X : Cx) (W : WX) (t : TA) (f : M (List PyData)) : Prop := ∀ (ph : Fx) (am : Am) (σ : L2.St) (H : Hp) (δ : Sg) (Q : List V → Hp → Prop) (ans : Ans (List PyData)) (δ' : Sg), SR X.K ph am σ H δ → f δ = some (ans, δ') →
    (∀ ds, ans = .ok ds → ∀ am' vs H', Step am H am' H' → SR X.K ph am' σ H' δ' → DqAll X.K (hid ph am' H') vs ds → Q vs H') →
    (∀ c fs, ans = .ex c fs → XP X W ph am σ H δ' c fs) → t σ H Q
def ReadT (X : Cx) (W : WX) (t : TT) (f : M Bool) : Prop := ∀ (ph : Fx) (am : Am) (σ : L2.St) (H : Hp) (δ : Sg) (Q : Bool → Hp → Prop) (ans : Ans Bool) (δ' : Sg), SR X.K ph am σ H δ → f δ = some (ans, δ') →
    (∀ b, ans = .ok b → ∀ am' H', Step am H am' H' → SR X.K ph am' σ H' δ' → Q b H') →
    (∀ c fs, ans = .ex c fs → XP X W ph am σ H δ' c fs) → t σ H Q
structure DE (X : Cx) (W : WX) (e : Expr) (f : M PyData) : Prop where
  ex : ∃ t, PE X e t ∧ ReadE X W t f
/-- a new list -/
structure DF (X : Cx) (W : WX) (e : Expr) (f : M (List PyData)) : Prop where
  ex : ∃ t, PE X e t ∧ ReadF X W t f
/-- arguments -/
structure DA (X : Cx) (W : WX) (es : List Expr) (f : M (List PyData)) : Prop where
  ex : ∃ t, PA X es t ∧ ReadA X W t f
/-- tests -/
structure DT (X : Cx) (W : WX) (e : Expr) (f : M Bool) : Prop where
  ex : ∃ t, PT X e t ∧ ReadT X W t f
structure DW (X : Cx) (W : WX) (e : Expr) (f : M Bool) : Prop where
  ex : ∃ t, PW X e t ∧ ReadT X W t f

/-! ### the monad -/
@[reducible] def ret {α : Type} (a : α) : M α := fun δ => some (.ok a, δ)
def bnd {α β : Type} (f : M α) (g : α → M β) : M β := fun δ => match f δ with
  | some (.ok a, δ') => g a δ'
  | some (.ex c fs, δ') => some (.ex c fs, δ')
  | none => none
def lif {α : Type} (o : Option α) : M α := fun δ => match o with
  | some a => some (.ok a, δ)
  | none => none
theorem bnd_some {α β : Type} {f : M α} {g : α → M β} {ans : Ans β} (h : bnd f g δ = some (ans, δ')) :
    (∃ a δ1, f δ = some (.ok a, δ1) ∧ g a δ1 = some (ans, δ')) ∨ ∃ c fs, f δ = some (.ex c fs, δ') ∧ ans = .ex c fs := by
  unfold bnd at h
  split at h
  · rename_i a δ1 e
    exact .inl ⟨a, δ1, e, h⟩
  · rename_i c fs δ1 e
    cases h
    exact .inr ⟨c, fs, e, rfl⟩
  · cases h
theorem lif_some {α : Type} {o : Option α} {ans : Ans α} (h : lif o δ = some (ans, δ')) : ∃ a, o = some a ∧ ans = .ok a ∧ δ' = δ := by
  unfold lif at h
  split at h
  · cases h; exact ⟨_, rfl, rfl, rfl⟩
  · cases h
theorem XPm.step {mg : Str → Option Value} {W : WX} {c : Str} {fs : List (Str × PyData)} (s : Step am H am' H') (h : XPm K mg W ph am σ H δ' c fs) : XPm K mg W ph am' σ H' δ' c fs :=
  fun C dx am2 H2 e k r q => h C dx am2 H2 e (s.trans k) r q
theorem XPS.step {X : Cx} {W : WX} {c : Str} {fs : List (Str × PyData)} (s : Step am H am' H') (h : XPS X W ph am H δ' c fs) : XPS X W ph am' H' δ' c fs :=
  fun C dx am2 σ2 H2 e k r q => h C dx am2 σ2 H2 e (s.trans k) r q
theorem XPS.at {X : Cx} {W : WX} {c : Str} {fs : List (Str × PyData)} (h : XPS X W ph am H δ' c fs) : XP X W ph am σ H δ' c fs :=
  fun C dx am2 H2 e k r q => h C dx am2 σ H2 e k r q
theorem XPd.step {mg : Str → Option Value} {E : XK} {c : Str} {fs : List (Str × PyData)} (s : Step am H am' H') (h : XPd K mg E ph am H c fs) : XPd K mg E ph am' H' c fs :=
  fun C dx am2 H2 e k q => h C dx am2 H2 e (s.trans k) q
end PD
end

section
set_option Elab.async false
set_option linter.all false
set_option maxRecDepth 100000
set_option maxHeartbeats 1000000
namespace PD
open PySem PySem.Spec PyProof.Rows L2
variable {X : Cx} {W : WX} {pos : Pos} {e e1 e2 : Expr} {es : List Expr} {f g : M PyData} {fs : M (List PyData)}

/-! ### constants and names -/
theorem de_ret {t : TE} {d : PyData} {v : V} (h : PE X e t) (ht : t = tC v) (hv : ∀ H, Dq X.K H v d) : DE X W e (ret d) :=
  ⟨⟨t, h, fun ph am σ H δ Q ans δ' s q k _ => by
    cases q
    subst ht
    exact k _ rfl am v H Step.refl s (hv _)⟩⟩
theorem de_int {i : Int} {j} : DE X W (.Constant (.int i) j pos) (ret (.int i)) := de_ret pe_int rfl fun _ => .int i
theorem de_bl {b : Bool} {j} : DE X W (.Constant (.bool b) j pos) (ret (.bool b)) := de_ret pe_bl rfl fun _ => .bl b
theorem de_non {j} : DE X W (.Constant .none j pos) (ret .none) := de_ret pe_non rfl fun _ => .non
theorem de_str {x : Str} {j} : DE X W (.Constant (.str x) j pos) (ret (.str x)) := de_ret pe_str rfl fun _ => .str x

/-- a list of one's own is read as a value: from here on it is frozen -/
def xVar (i : Nat) : M PyData := fun δ => match δ[i]? with
  | some (.fz d) => some (.ok d, δ)
  | some (.ow false ds) => some (.ok (.list ds), δ.set i (.fz (.list ds)))
  | _ => none
def amDrop (am : Am) (i : Nat) : Am := fun j => if j = i then none else am j
theorem amDrop_some {am : Am} {i j : Nat} {a : Addr} : amDrop am i j = some a ↔ j ≠ i ∧ am j = some a := by
  unfold amDrop
  by_cases h : j = i <;> simp [h]
theorem step_drop {am : Am} {H : Hp} {i : Nat} : Step am H (amDrop am i) H :=
  ⟨fun _ _ h _ => h, fun j a h => .inl ⟨j, (amDrop_some.mp h).2⟩, fun _ o h => ⟨o, h⟩⟩
variable {K : PySem.W.Frag} {ph : Fx} {am am' : Am} {H H' : Hp} {σ : L2.St} {δ δ' : Sg}
/-- freezing -/
theorem SR.freeze (s : SR K ph am σ H δ) {i : Nat} {ds : List PyData} (e : δ[i]? = some (.ow false ds)) :
    ∃ a vs, am i = some a ∧ σ[i]? = some (some (.ref a)) ∧ H a = some (.lst vs) ∧ SR K ph (amDrop am i) σ H (δ.set i (.fz (.list ds))) ∧ Dq K (hid ph (amDrop am i) H) (.ref a) (.list ds) := by
  obtain ⟨a, vs, e1, e2, e3, e4, e6, e5⟩ := s.ow i false ds e
  have st : Step am H (amDrop am i) H := step_drop
  have hi : i < δ.length := (List.getElem?_eq_some_iff.mp e).1
  have na : ¬ Hid ph (amDrop am i) a := by
    rintro (q | ⟨j, q⟩)
    · exact (s.amf i a e1).1 q
    · obtain ⟨n, q⟩ := amDrop_some.mp q
      exact n (s.inj j i a q e1)
  have dp : Dq K (hid ph (amDrop am i) H) (.ref a) (.list ds) := .lst (.inl (.inl (hid_some.mpr ⟨na, e3⟩))) (dps_mono st.hid e4)
  refine ⟨a, vs, e1, e2, e3, ⟨by rw [s.len, List.length_set], fun j d q => ?_, fun j b' ds' q => ?_, fun j a' q => ?_, fun j k a' q1 q2 => ?_, s.phs, fun j a' q => ?_, fun j o q => ?_⟩, dp⟩
  · by_cases hj : j = i
    · subst hj
      rw [List.getElem?_set_self hi] at q
      cases q
      exact ⟨_, e2, dp⟩
    · rw [List.getElem?_set_ne (Ne.symm hj)] at q
      obtain ⟨v, h1, h2⟩ := s.fz j d q
      exact ⟨v, h1, dp_mono st.hid h2⟩
  · by_cases hj : j = i
    · subst hj
      rw [List.getElem?_set_self hi] at q
      cases q
    · rw [List.getElem?_set_ne (Ne.symm hj)] at q
      obtain ⟨a2, vs2, h1, h2, h3, h4, h6, h5⟩ := s.ow j b' ds' q
      exact ⟨a2, vs2, amDrop_some.mpr ⟨hj, h1⟩, h2, h3, dps_mono st.hid h4, h6, h5⟩
  · obtain ⟨n, q⟩ := amDrop_some.mp q
    obtain ⟨h1, c, h2, h3⟩ := s.amf j a' q
    exact ⟨h1, c, by rw [List.getElem?_set_ne (Ne.symm n)]; exact h2, h3⟩
  · exact s.inj j k a' (amDrop_some.mp q1).2 (amDrop_some.mp q2).2
  · refine amDrop_some.mpr ⟨fun z => ?_, s.bas j a' q⟩
    subst z
    rw [e5 rfl] at q
    cases q
  · by_cases hj : j = i
    · subst hj
      rw [List.getElem?_set_self hi] at q
      cases q
    · rw [List.getElem?_set_ne (Ne.symm hj)] at q
      obtain ⟨a2, u, h1, h2, h3, h4, h5⟩ := s.od j o q
      exact ⟨a2, u, amDrop_some.mpr ⟨hj, h1⟩, h2, h3, dor_mono st.hid h4, h5⟩
theorem de_var (i : Nat) {x : Str} (hN : X.N[i]? = some x := by rfl) (hv : Vis X.env.scope x := by first | exact Or.inl rfl | exact Or.inr (Or.inl rfl) | exact Or.inr (Or.inr rfl)) (hd : (x == ("__debug__" : Str)) = false := by decide)
    (hcd : (x == ("__classdict__" : Str)) = false := by decide) : DE X W (.Name x pos) (xVar i) :=
  ⟨⟨tVar i, pe_var hN hv hd hcd, fun ph am σ H δ Q ans δ' s q k _ => by
    unfold xVar at q
    split at q
    · rename_i d e
      cases q
      obtain ⟨v, h1, h2⟩ := s.fz i d e
      exact ⟨v, h1, k _ rfl am v H Step.refl s h2⟩
    · rename_i ds e
      cases q
      obtain ⟨a, vs, h1, h2, h3, h4, h5⟩ := s.freeze e
      exact ⟨.ref a, h2, k _ rfl _ _ H step_drop h4 h5⟩
    · cases q⟩⟩

/-! ### operators -/
def OpD (X : Cx) (r : R2) (F : PyData → PyData → Option PyData) : Prop :=
  ∀ (ph : Fx) (am : Am) (H : Hp) (x y : V) (d e c : PyData) (Q : VK), (∀ b, Hid ph am b → ∃ o, H b = some o) → Dq X.K (hid ph am H) x d → Dq X.K (hid ph am H) y e → F d e = some c →
    (∀ v H', Same H H' → Dq X.K (hid ph am H') v c → Q v H') → r x y H Q
def UnD (X : Cx) (r : V → Hp → VK → Prop) (F : PyData → Option PyData) : Prop :=
  ∀ (ph : Fx) (am : Am) (H : Hp) (x : V) (d c : PyData) (Q : VK), (∀ b, Hid ph am b → ∃ o, H b = some o) → Dq X.K (hid ph am H) x d → F d = some c →
    (∀ v H', Same H H' → Dq X.K (hid ph am H') v c → Q v H') → r x H Q
def CallD (X : Cx) (r : List V → Hp → VK → Prop) (F : List PyData → Option PyData) : Prop :=
  ∀ (ph : Fx) (am : Am) (H : Hp) (xs : List V) (ds : List PyData) (c : PyData) (Q : VK), (∀ b, Hid ph am b → ∃ o, H b = some o) → DqAll X.K (hid ph am H) xs ds → F ds = some c →
    (∀ v H', Same H H' → Dq X.K (hid ph am H') v c → Q v H') → r xs H Q
/-- .. giving a new list -/
def CallF (X : Cx) (r : List V → Hp → VK → Prop) (F : List PyData → Option (List PyData)) : Prop :=
  ∀ (ph : Fx) (am : Am) (H : Hp) (xs : List V) (ds cs : List PyData) (Q : VK), (∀ b, Hid ph am b → ∃ o, H b = some o) → DqAll X.K (hid ph am H) xs ds → F ds = some cs →
    (∀ p vs, H p = none → DqAll X.K (hid ph am H) vs cs → vs.length ≤ sizeLine → Q (.ref p) (upd H p (.lst vs))) → r xs H Q
def OpF (X : Cx) (r : R2) (F : PyData → PyData → Option (List PyData)) : Prop :=
  ∀ (ph : Fx) (am : Am) (H : Hp) (x y : V) (d e : PyData) (cs : List PyData) (Q : VK), (∀ b, Hid ph am b → ∃ o, H b = some o) → Dq X.K (hid ph am H) x d → Dq X.K (hid ph am H) y e → F d e = some cs →
    (∀ p vs, H p = none → DqAll X.K (hid ph am H) vs cs → vs.length ≤ sizeLine → Q (.ref p) (upd H p (.lst vs))) → r x y H Q

def xBin (F : PyData → PyData → Option PyData) (f g : M PyData) : M PyData := bnd f fun a => bnd g fun b => lif (F a b)
def xUn (F : PyData → Option PyData) (f : M PyData) : M PyData := bnd f fun a => lif (F a)
theorem bin_read {ta tb : TE} {r : R2} {F : PyData → PyData → Option PyData} (hr : OpD X r F) (qa : ReadE X W ta f) (qb : ReadE X W tb g) : ReadE X W (tOp r ta tb) (xBin F f g) := by
  intro ph am σ H δ Q ans δ' s q k kx
  rcases bnd_some q with ⟨a, δ1, e1, q1⟩ | ⟨c, fs, e1, q1⟩
  · refine qa ph am σ H δ _ _ _ s e1 (fun d ed am1 x H1 st1 s1 d1 => ?_) (fun c fs z => by cases z)
    cases ed
    rcases bnd_some q1 with ⟨b, δ2, e2, q2⟩ | ⟨c, fs, e2, q2⟩
    · refine qb ph am1 σ H1 δ1 _ _ _ s1 e2 (fun d ed am2 y H2 st2 s2 d2 => ?_) (fun c fs z => by cases z)
      cases ed
      obtain ⟨z, e3, rfl, rfl⟩ := lif_some q2
      refine hr ph am2 H2 x y a b z _ (fun b h => s2.hidden h) (dp_mono st2.hid d1) d2 e3 fun v H3 sm dv => ?_
      exact k _ rfl am2 v H3 ((st1.trans st2).trans (Step.of sm)) (s2.same sm) dv
    · subst q2
      refine qb ph am1 σ H1 δ1 _ _ _ s1 e2 (fun d ed => by cases ed) (fun c' fs' z => ?_)
      cases z
      exact (kx _ _ rfl).step st1
  · subst q1
    refine qa ph am σ H δ _ _ _ s e1 (fun d ed => by cases ed) (fun c' fs' z => ?_)
    cases z
    exact kx _ _ rfl
theorem bin_core {r : R2} {F : PyData → PyData → Option PyData} (hr : OpD X r F) (ha : DE X W e1 f) (hb : DE X W e2 g) (rule : ∀ ta tb, PE X e1 ta → PE X e2 tb → PE X e (tOp r ta tb)) : DE X W e (xBin F f g) := by
  obtain ⟨ta, pa, qa⟩ := ha.ex
  obtain ⟨tb, pb, qb⟩ := hb.ex
  exact ⟨⟨_, rule ta tb pa pb, bin_read hr qa qb⟩⟩
theorem de_bin {op : Operator} {r : R2} {F : PyData → PyData → Option PyData} (hr : OpD X r F) (ho : OpR X (binaryOp op) r) (ha : DE X W e1 f) (hb : DE X W e2 g) : DE X W (.BinOp e1 op e2 pos) (xBin F f g) :=
  bin_core hr ha hb fun _ _ pa pb => pe_op ho pa pb
theorem de_cmp {op : CmpOp} {r : R2} {F : PyData → PyData → Option PyData} (hr : OpD X r F) (ho : OpR X (compareOp op) r) (hm : behindInMarks op e2 = false) (ha : DE X W e1 f) (hb : DE X W e2 g) : DE X W (.Compare e1 [op] [e2] pos) (xBin F f g) :=
  bin_core hr ha hb fun _ _ pa pb => pe_cmpR ho pa pb hm
theorem de_un {op : UnaryOp} {r : V → Hp → VK → Prop} {F : PyData → Option PyData} (hr : UnD X r F) (ho : UnR X (unaryOp op) r) (ha : DE X W e1 f) : DE X W (.UnaryOp op e1 pos) (xUn F f) := by
  obtain ⟨ta, pa, qa⟩ := ha.ex
  refine ⟨⟨_, pe_un ho pa, fun ph am σ H δ Q ans δ' s q k kx => ?_⟩⟩
  rcases bnd_some q with ⟨a, δ1, e1, q1⟩ | ⟨c, fs, e1, q1⟩
  · refine qa ph am σ H δ _ _ _ s e1 (fun d ed am1 x H1 st1 s1 d1 => ?_) (fun c fs z => by cases z)
    cases ed
    obtain ⟨z, e3, rfl, rfl⟩ := lif_some q1
    exact hr ph am1 H1 x a z _ (fun b h => s1.hidden h) d1 e3 fun v H3 sm dv => k _ rfl am1 v H3 (st1.trans (Step.of sm)) (s1.same sm) dv
  · subst q1
    exact qa ph am σ H δ _ _ _ s e1 (fun d ed => by cases ed) (fun c' fs' z => by cases z; exact kx _ _ rfl)
/-- a new list as a value -/
theorem de_df {fs : M (List PyData)} (h : DF X W e fs) : DE X W e (bnd fs fun ds => ret (.list ds)) := by
  obtain ⟨t, p, q⟩ := h.ex
  refine ⟨⟨t, p, fun ph am σ H δ Q ans δ' s e k kx => ?_⟩⟩
  rcases bnd_some e with ⟨ds, δ1, e1, q1⟩ | ⟨c, fs, e1, q1⟩
  · cases q1
    refine q ph am σ H δ _ _ _ s e1 (fun d ed am1 p vs H1 n0 n1 st s1 dv hz => ?_) (fun c fs z => by cases z)
    cases ed
    have sm : Same H1 (upd H1 p (.lst vs)) := same_new n1
    refine k _ rfl am1 _ _ (st.trans (Step.of sm)) (s1.same sm) (.lst (.inl (.inl (hid_some.mpr ⟨s1.new n1, upd_same⟩))) (dps_mono (hid_same sm) dv))
  · subst q1
    exact q ph am σ H δ _ _ _ s e1 (fun d ed => by cases ed) (fun c' fs' z => by cases z; exact kx _ _ rfl)
/-! ### arguments and displays -/
theorem da_nil : DA X W [] (ret []) := ⟨⟨tNil, pa_nil, fun ph am σ H δ Q ans δ' s q k _ => by cases q; exact k _ rfl am [] H Step.refl s .nil⟩⟩
theorem da_cons (h : DE X W e f) (t : DA X W es fs) (hs : starEach (e :: es) X.env = (false, eval e X.env) :: starEach es X.env := by rfl) : DA X W (e :: es) (bnd f fun d => bnd fs fun ds => ret (d :: ds)) := by
  obtain ⟨ta, pa, qa⟩ := h.ex
  obtain ⟨tb, pb, qb⟩ := t.ex
  refine ⟨⟨_, pa_cons pa pb hs, fun ph am σ H δ Q ans δ' s q k kx => ?_⟩⟩
  rcases bnd_some q with ⟨a, δ1, e1, q1⟩ | ⟨c, fs, e1, q1⟩
  · refine qa ph am σ H δ _ _ _ s e1 (fun d ed am1 x H1 st1 s1 d1 => ?_) (fun c fs z => by cases z)
    cases ed
    rcases bnd_some q1 with ⟨b, δ2, e2, q2⟩ | ⟨c, fs, e2, q2⟩
    · cases q2
      refine qb ph am1 σ H1 δ1 _ _ _ s1 e2 (fun d ed am2 y H2 st2 s2 d2 => ?_) (fun c fs z => by cases z)
      cases ed
      exact k _ rfl am2 _ H2 (st1.trans st2) s2 (.cons (dp_mono st2.hid d1) d2)
    · subst q2
      exact qb ph am1 σ H1 δ1 _ _ _ s1 e2 (fun d ed => by cases ed) (fun c' fs' z => by cases z; exact (kx _ _ rfl).step st1)
  · subst q1
    exact qa ph am σ H δ _ _ _ s e1 (fun d ed => by cases ed) (fun c' fs' z => by cases z; exact kx _ _ rfl)
def xTup (fs : M (List PyData)) : M PyData := bnd fs fun ds => lif (if ds.length ≤ sizeLine then some (.tuple ds) else none)
def xLst (fs : M (List PyData)) : M (List PyData) := bnd fs fun ds => lif (if ds.length ≤ sizeLine then some ds else none)
theorem if_some {c : Prop} [Decidable c] {α : Type} {a b : α} (h : (if c then some a else none) = some b) : c ∧ a = b := by
  split at h
  · cases h; exact ⟨by assumption, rfl⟩
  · cases h
theorem de_tup {x1} (h : DA X W es fs) : DE X W (.Tuple es x1 pos) (xTup fs) := by
  obtain ⟨ta, pa, qa⟩ := h.ex
  refine ⟨⟨_, pe_tup pa, fun ph am σ H δ Q ans δ' s q k kx => ?_⟩⟩
  rcases bnd_some q with ⟨a, δ1, e1, q1⟩ | ⟨c, fs, e1, q1⟩
  · refine qa ph am σ H δ _ _ _ s e1 (fun d ed am1 x H1 st1 s1 d1 => ?_) (fun c fs z => by cases z)
    cases ed
    obtain ⟨z, e3, rfl, rfl⟩ := lif_some q1
    obtain ⟨hz, rfl⟩ := if_some e3
    refine ⟨by rw [DqAll.length d1]; exact hz, fun p np => ?_⟩
    have sm : Same H1 (upd H1 p (.tup x)) := same_new np
    exact k _ rfl am1 _ _ (st1.trans (Step.of sm)) (s1.same sm) (.tup (hid_some.mpr ⟨s1.new np, upd_same⟩) (dps_mono (hid_same sm) d1))
  · subst q1
    exact qa ph am σ H δ _ _ _ s e1 (fun d ed => by cases ed) (fun c' fs' z => by cases z; exact kx _ _ rfl)
/-- nothing that is new was there -/
theorem Step.none (st : Step am H am' H') {p : Addr} (h : H' p = .none) : H p = .none := by
  cases e : H p with
  | none => rfl
  | some o =>
    obtain ⟨o', e'⟩ := st.there p o e
    rw [h] at e'; cases e'
theorem df_lst (h : DA X W es fs) : DF X W (.List es pos) (xLst fs) := by
  obtain ⟨ta, pa, qa⟩ := h.ex
  refine ⟨⟨_, pe_lst pa, fun ph am σ H δ Q ans δ' s q k kx => ?_⟩⟩
  rcases bnd_some q with ⟨a, δ1, e1, q1⟩ | ⟨c, fs, e1, q1⟩
  · refine qa ph am σ H δ _ _ _ s e1 (fun d ed am1 x H1 st1 s1 d1 => ?_) (fun c fs z => by cases z)
    cases ed
    obtain ⟨z, e3, rfl, rfl⟩ := lif_some q1
    obtain ⟨hz, rfl⟩ := if_some e3
    exact ⟨by rw [DqAll.length d1]; exact hz, fun p np => k _ rfl am1 p x H1 (st1.none np) np st1 s1 d1 (by rw [DqAll.length d1]; exact hz)⟩
  · subst q1
    exact qa ph am σ H δ _ _ _ s e1 (fun d ed => by cases ed) (fun c' fs' z => by cases z; exact kx _ _ rfl)
/-! ### built-ins called by name -/
def xCall (F : List PyData → Option PyData) (fs : M (List PyData)) : M PyData := bnd fs fun ds => lif (F ds)
def xCallF (F : List PyData → Option (List PyData)) (fs : M (List PyData)) : M (List PyData) := bnd fs fun ds => lif (F ds)
theorem call_core {r : List V → Hp → VK → Prop} {F : List PyData → Option PyData} (hr : CallD X r F) (h : DA X W es fs) (rule : ∀ t, PA X es t → PE X e (tCB r t)) : DE X W e (xCall F fs) := by
  obtain ⟨ta, pa, qa⟩ := h.ex
  refine ⟨⟨_, rule _ pa, fun ph am σ H δ Q ans δ' s q k kx => ?_⟩⟩
  rcases bnd_some q with ⟨a, δ1, e1, q1⟩ | ⟨c, fs, e1, q1⟩
  · refine qa ph am σ H δ _ _ _ s e1 (fun d ed am1 x H1 st1 s1 d1 => ?_) (fun c fs z => by cases z)
    cases ed
    obtain ⟨z, e3, rfl, rfl⟩ := lif_some q1
    exact hr ph am1 H1 x a z _ (fun b h => s1.hidden h) d1 e3 fun v H3 sm dv => k _ rfl am1 v H3 (st1.trans (Step.of sm)) (s1.same sm) dv
  · subst q1
    exact qa ph am σ H δ _ _ _ s e1 (fun d ed => by cases ed) (fun c' fs' z => by cases z; exact kx _ _ rfl)
theorem callF_core {r : List V → Hp → VK → Prop} {F : List PyData → Option (List PyData)} (hr : CallF X r F) (h : DA X W es fs) (rule : ∀ t, PA X es t → PE X e (tCB r t)) : DF X W e (xCallF F fs) := by
  obtain ⟨ta, pa, qa⟩ := h.ex
  refine ⟨⟨_, rule _ pa, fun ph am σ H δ Q ans δ' s q k kx => ?_⟩⟩
  rcases bnd_some q with ⟨a, δ1, e1, q1⟩ | ⟨c, fs, e1, q1⟩
  · refine qa ph am σ H δ _ _ _ s e1 (fun d ed am1 x H1 st1 s1 d1 => ?_) (fun c fs z => by cases z)
    cases ed
    obtain ⟨z, e3, rfl, rfl⟩ := lif_some q1
    exact hr ph am1 H1 x a z _ (fun b h => s1.hidden h) d1 e3 fun p vs np dv hz => k _ rfl am1 p vs H1 (st1.none np) np st1 s1 dv hz
  · subst q1
    exact qa ph am σ H δ _ _ _ s e1 (fun d ed => by cases ed) (fun c' fs' z => by cases z; exact kx _ _ rfl)
def xBinF (F : PyData → PyData → Option (List PyData)) (f g : M PyData) : M (List PyData) := bnd f fun a => bnd g fun b => lif (F a b)
theorem binF_core {r : R2} {F : PyData → PyData → Option (List PyData)} (hr : OpF X r F) (ha : DE X W e1 f) (hb : DE X W e2 g) (rule : ∀ ta tb, PE X e1 ta → PE X e2 tb → PE X e (tOp r ta tb)) : DF X W e (xBinF F f g) := by
  obtain ⟨ta, pa, qa⟩ := ha.ex
  obtain ⟨tb, pb, qb⟩ := hb.ex
  refine ⟨⟨_, rule ta tb pa pb, fun ph am σ H δ Q ans δ' s q k kx => ?_⟩⟩
  rcases bnd_some q with ⟨a, δ1, e1, q1⟩ | ⟨c, fs, e1, q1⟩
  · refine qa ph am σ H δ _ _ _ s e1 (fun d ed am1 x H1 st1 s1 d1 => ?_) (fun c fs z => by cases z)
    cases ed
    rcases bnd_some q1 with ⟨b, δ2, e2, q2⟩ | ⟨c, fs, e2, q2⟩
    · refine qb ph am1 σ H1 δ1 _ _ _ s1 e2 (fun d ed am2 y H2 st2 s2 d2 => ?_) (fun c fs z => by cases z)
      cases ed
      obtain ⟨z, e3, rfl, rfl⟩ := lif_some q2
      exact hr ph am2 H2 x y a b z _ (fun b h => s2.hidden h) (dp_mono st2.hid d1) d2 e3 fun p vs np dv hz => k _ rfl am2 p vs H2 ((st1.trans st2).none np) np (st1.trans st2) s2 dv hz
    · subst q2
      exact qb ph am1 σ H1 δ1 _ _ _ s1 e2 (fun d ed => by cases ed) (fun c' fs' z => by cases z; exact (kx _ _ rfl).step st1)
  · subst q1
    exact qa ph am σ H δ _ _ _ s e1 (fun d ed => by cases ed) (fun c' fs' z => by cases z; exact kx _ _ rfl)
end PD
end

section
set_option Elab.async false
set_option linter.all false
set_option maxRecDepth 100000
set_option maxHeartbeats 4000000
namespace PD
open PySem PySem.Spec PyProof.Rows L2
theorem tuple_mulS (l : Addr) (items : Array Value) (n : Nat) (sl : Array (Option Value)) (dd : Option Addr) (x : Int) (u : Tok) (c0 : (decide (x < -(2 ^ 63)) || decide (x ≥ 2 ^ 63)) = false) (c1 : (items.isEmpty || x == 1) = true) :
    Meets (Builtin.«tuple.__mul__» ⟨[.ref l, .int x u], []⟩) (fun _ R s => s.heap.get? l = some { cls := .type "tuple", dict := dd, data := .seq items n, slots := sl } ∧
      R (.ok (.ret (Value.ref l))) s) :=
  .of_wp fun prog w A R s h => by
    obtain ⟨hp, g, d, tk, os⟩ := s
    obtain ⟨hl, h⟩ := h
    have f1 := AutoSeq1.idx_int
    wp_walk using wpAny_loadPart' hl
    repeat (first
      | (refine wpAny_ite_false (decide_eq_false (by rw [c0]; exact Bool.false_ne_true)) ?_; wp_walk using wpAny_loadPart' hl)
      | (refine wpAny_ite_true (decide_eq_true (by rw [c1])) ?_; wp_walk using wpAny_loadPart' hl))
    exact ⟨_, rfl, h⟩
theorem tuple_mul0 (l : Addr) (items : Array Value) (n : Nat) (sl : Array (Option Value)) (dd : Option Addr) (x : Int) (u : Tok) (c0 : (decide (x < -(2 ^ 63)) || decide (x ≥ 2 ^ 63)) = false) (c1 : (items.isEmpty || x == 1) = false) (c2 : (decide (x ≤ 0) || items.isEmpty) = true) :
    Meets (Builtin.«tuple.__mul__» ⟨[.ref l, .int x u], []⟩) (fun _ R s => s.heap.get? l = some { cls := .type "tuple", dict := dd, data := .seq items n, slots := sl } ∧
      R (.ok (.ret (Value.ref s.heap.objs.size))) { s with heap := s.heap.push { cls := Value.type "tuple", data := Data.seq #[] }, toks := s.toks }) :=
  .of_wp fun prog w A R s h => by
    obtain ⟨hp, g, d, tk, os⟩ := s
    obtain ⟨hl, h⟩ := h
    have f1 := AutoSeq1.idx_int
    wp_walk using wpAny_loadPart' hl
    repeat (first
      | (refine wpAny_ite_false (decide_eq_false (by rw [c0]; exact Bool.false_ne_true)) ?_; wp_walk using wpAny_loadPart' hl)
      | (refine wpAny_ite_false (decide_eq_false (by rw [c1]; exact Bool.false_ne_true)) ?_; wp_walk using wpAny_loadPart' hl)
      | (refine wpAny_ite_true (decide_eq_true (by rw [c2])) ?_; wp_walk using wpAny_loadPart' hl))
    exact ⟨_, rfl, h⟩

variable {X : Cx}
def rRepA (K : PySem.W.Frag) : R2 := fun x y H Q => ∃ l k xs, x = .ref l ∧ y = .int k ∧ SqT K H l xs ∧ -(2 ^ 63) ≤ k ∧ k ≤ 1000 ∧ xs.length ≤ 1000 ∧
  ((xs = [] ∨ k = 1) → Q (.ref l) H) ∧ (xs ≠ [] → k ≠ 1 → ∀ p, H p = none → Q (.ref p) (upd H p (.tup (List.replicate k.toNat xs).flatten)))
theorem op_repA : OpR X (binaryOp .Mult) (rRepA X.K) := by
  intro pins s σ H x y v u Q I rx ry h
  obtain ⟨l, k, xs, rfl, rfl, hT, h0, h1, hz, q1, q2⟩ := h
  by_cases big : xs ≠ [] ∧ 2 ≤ k
  · exact op_repT pins s σ H _ _ v u Q I rx ry ⟨l, k, xs, rfl, rfl, hT, big.1, big.2, h1, hz, q2 big.1 (by omega)⟩
  cases rx
  obtain ⟨t, rfl⟩ := ry
  obtain ⟨its, r, ⟨⟨cls, dd, data, sl⟩, ho, hc, n, hd⟩, hs⟩ := I.tuple hT
  simp only at hc hd
  subst hc hd
  have hle : its.length = xs.length := r.length.symm
  have c0 : (decide (k < -(2 ^ 63)) || decide (k ≥ 2 ^ 63)) = false := by
    rw [decide_eq_false (by omega), decide_eq_false (by omega)] <;> rfl
  by_cases c1 : (its.toArray.isEmpty || k == 1) = true
  · have hx : xs = [] ∨ k = 1 := by
      simp only [Bool.or_eq_true, beq_iff_eq] at c1
      rcases c1 with c | c
      · left
        have : its = [] := by simpa using c
        rw [this] at hle
        exact List.eq_nil_of_length_eq_zero hle.symm
      · exact .inr c
    refine wpAny_binaryOp_repeat_ref (T := "tuple") (U := "int") (by decide) ⟨_, ho, rfl⟩ (fun s' => typeIs_int s' k t) noFill_tuple_mul F.fills_int_mul F.slot_int_rmul repeat_tuple F.slot_int_index.lookup
      (call_meets F.slot_int_rmul (typeIs_int s k t) F.entry_int_rmul (F.args_int_rmul_2 _ _) (int_rmul_tuple k t l its.toArray n dd sl)
        ⟨ho, rfl, ⟨_, ho, rfl⟩, call_meets F.slot_tuple_mul ⟨_, ho, rfl⟩ F.entry_tuple_mul (F.args_tuple_mul_2 _ _) (tuple_mulS l its.toArray n sl dd k t c0 c1) ⟨ho, ?_⟩⟩)
    exact ⟨.ref l, H, I, rfl, q1 hx⟩
  · have c1' : (its.toArray.isEmpty || k == 1) = false := by simpa using c1
    have hx : xs ≠ [] := fun e => by
      rw [e] at hle
      have : its = [] := List.eq_nil_of_length_eq_zero hle
      rw [this] at c1'
      simp at c1'
    have hk : k ≠ 1 := fun e => by
      rw [e] at c1'
      simp at c1'
    have hk0 : k ≤ 0 := by
      have : ¬ 2 ≤ k := fun z => big ⟨hx, z⟩
      omega
    have c2 : (decide (k ≤ 0) || its.toArray.isEmpty) = true := by
      rw [decide_eq_true hk0, Bool.true_or]
    refine wpAny_binaryOp_repeat_ref (T := "tuple") (U := "int") (by decide) ⟨_, ho, rfl⟩ (fun s' => typeIs_int s' k t) noFill_tuple_mul F.fills_int_mul F.slot_int_rmul repeat_tuple F.slot_int_index.lookup
      (call_meets F.slot_int_rmul (typeIs_int s k t) F.entry_int_rmul (F.args_int_rmul_2 _ _) (int_rmul_tuple k t l its.toArray n dd sl)
        ⟨ho, rfl, ⟨_, ho, rfl⟩, call_meets F.slot_tuple_mul ⟨_, ho, rfl⟩ F.entry_tuple_mul (F.args_tuple_mul_2 _ _) (tuple_mul0 l its.toArray n sl dd k t c0 c1' c2) ⟨ho, ?_⟩⟩)
    have e0 : (List.replicate k.toNat xs).flatten = [] := by
      rw [show k.toNat = 0 by omega]
      rfl
    refine ⟨.ref s.heap.objs.size, upd H s.heap.objs.size (.tup (List.replicate k.toNat xs).flatten), ?_, rfl, q2 hx hk _ (I.hok.fresh (Nat.le_refl _))⟩
    rw [e0]
    exact I.laid (t' := s.toks) (o := .tup []) (fun b ob q => Heap.get?_push_of_some _ q) (Nat.le_refl _) ⟨Nat.zero_le _, [], .nil, IsTup.new _ _⟩
/-! ### list + list, list * int, of any list that may be read -/
def rCatL (K : PySem.W.Frag) : R2 := fun x y H Q => ∃ l b xs zs, x = .ref l ∧ y = .ref b ∧ SqL K H l xs ∧ SqL K H b zs ∧ xs.length + zs.length ≤ sizeLine ∧ ∀ p, H p = none → Q (.ref p) (upd H p (.lst (xs ++ zs)))
theorem op_catL : OpR X (binaryOp .Add) (rCatL X.K) := by
  intro pins s σ H x y v u Q I rx ry h
  obtain ⟨l, b, xs, zs, rfl, rfl, hH, hB, hz, q⟩ := h
  cases rx
  cases ry
  obtain ⟨its, r, p1, _⟩ := I.list hH
  obtain ⟨its2, r2, p2, _⟩ := I.list hB
  have hl := r.length
  have hl2 := r2.length
  obtain ⟨⟨cls, dd, data, sl⟩, ho, hc, n, hd⟩ := p1.isList
  obtain ⟨⟨cls2, dd2, data2, sl2⟩, ho2, hc2, n2, hd2⟩ := p2.isList
  simp only at hc hd hc2 hd2
  subst hc hd hc2 hd2
  have e : its.toArray ++ its2.toArray = (its ++ its2).toArray := by simp
  refine concat_meets ⟨_, ho, rfl⟩ ⟨_, ho2, rfl⟩ noFill_list_add seq_list_add PySem.F.slot_list_add PySem.F.entry_list_add (PySem.F.args_list_add_2 _ _) (list_addW l b its.toArray its2.toArray n n2 dd dd2 sl sl2 (by rw [List.size_toArray, List.size_toArray]; omega)) ⟨ho, ho2, ?_⟩
  rw [e]
  exact ⟨.ref _, _, I.lnew (t' := s.toks) (r.append r2) (by rw [List.length_append]; omega), rfl, q _ I.fresh⟩
end PD
end

section
set_option Elab.async false
set_option linter.all false
set_option maxRecDepth 100000
set_option maxHeartbeats 2000000
namespace PD
open PySem PySem.Spec PyProof.Rows L2
/-! ### lists and tuples, in any mix, under zip and enumerate -/
def SqK (k : Bool) (K : PySem.W.Frag) (H : Hp) (a : Addr) (xs : List V) : Prop := if k = true then SqL K H a xs else SqT K H a xs
def IsK (k : Bool) (h : Heap) (a : Addr) (its : Array Value) : Prop := if k = true then h.IsList a its else h.IsTuple a its
def ItK (k : Bool) (h : Heap) (it a : Addr) (i : Nat) : Prop := if k = true then h.IsListIter it a i else h.IsTupleIter it a i
def obK (k : Bool) (a : Addr) : Obj := if k = true then { cls := .type "list_iterator", data := .fields #[.ref a, .int 0 0] } else { cls := .type "tuple_iterator", data := .fields #[.ref a, .int 0 0] }
theorem seq_of {X : Cx} {pins : List (Addr × Obj)} {σ : L2.St} {H : Hp} {s : Shared} {a : Addr} {xs : List V} {k : Bool} (I : Inv X pins σ H s) (q : SqK k X.K H a xs) : ∃ its : List Value, Vals xs its ∧ IsK k s.heap a its.toArray ∧ xs.length ≤ sizeLine := by
  cases k with
  | true =>
    obtain ⟨its, r, p, z⟩ := I.list (show SqL _ _ _ _ from q)
    exact ⟨its, r, p.isList, z⟩
  | false =>
    obtain ⟨its, r, p, z⟩ := I.tuple (show SqT _ _ _ _ from q)
    exact ⟨its, r, p, z⟩
theorem seq_inj {X : Cx} {pins : List (Addr × Obj)} {σ : L2.St} {H : Hp} {s : Shared} {a : Addr} {xs ys : List V} {k : Bool} (I : Inv X pins σ H s) (q : SqK k X.K H a xs) (q' : SqK k X.K H a ys) : xs = ys := by
  cases k with
  | true => exact I.list_inj q q'
  | false => exact I.tuple_inj q q'
theorem begins_k (k : Bool) (a : Addr) (items : Array Value) : Begins (.ref a) (obK k a) fun h => IsK k h a items := by
  cases k with
  | true => exact begins_list a items
  | false => exact begins_tuple a items
theorem draws_k {prog : Program} {w : World} {A : Around} (k : Bool) (hh : A.handled = none) (it a : Addr) (hne : a ≠ it) (items : Array Value) :
    Draws prog w A it [it, a] items.size (fun i v => items[i]? = some v) (fun i h => ItK k h it a i ∧ IsK k h a items) := by
  cases k with
  | true => exact Draws.list hh it a hne items
  | false => exact Draws.tuple hh it a hne items
theorem itK_at {k : Bool} {h h' : Heap} {it a : Addr} {i : Nat} (x : ItK k h it a i) (e : ∀ o, h.get? it = some o → h'.get? it = some o) : ItK k h' it a i := by
  cases k with
  | true => exact Heap.IsListIter.at (show h.IsListIter it a i from x) e
  | false => exact Heap.IsTupleIter.at (show h.IsTupleIter it a i from x) e
theorem itK_ob {k : Bool} {h : Heap} {it a : Addr} {i : Nat} (x : ItK k h it a i) : ∃ o, h.get? it = some o ∧ ∀ v, o.data ≠ .cell v := by
  cases k with
  | true =>
    obtain ⟨o, e, _, d⟩ := (show h.IsListIter it a i from x)
    exact ⟨o, e, fun v q => by rw [d] at q; cases q⟩
  | false =>
    obtain ⟨o, e, _, d⟩ := (show h.IsTupleIter it a i from x)
    exact ⟨o, e, fun v q => by rw [d] at q; cases q⟩
theorem itK_new {k : Bool} {h : Heap} {it a : Addr} (x : h.get? it = some (obK k a)) : ItK k h it a 0 := by
  cases k with
  | true => exact ⟨_, x, rfl, rfl⟩
  | false => exact ⟨_, x, rfl, rfl⟩
def ItzK (k1 k2 : Bool) (K : PySem.W.Frag) (a b : Addr) : It :=
  ⟨fun i H => ∃ (xs ys : List V) (x y : V), SqK k1 K H a xs ∧ SqK k2 K H b ys ∧ xs[i]? = some x ∧ ys[i]? = some y,
    fun i H v H' => ∃ T x y, v = .ref T ∧ H T = none ∧ H' = upd H T (.tup [x, y]) ∧ (∀ xs, SqK k1 K H a xs → xs[i]? = some x) ∧ ∀ ys, SqK k2 K H b ys → ys[i]? = some y,
    fun i H => ∃ xs ys : List V, SqK k1 K H a xs ∧ SqK k2 K H b ys ∧ i = min xs.length ys.length⟩
theorem turn_zipK {P : Program} {w : World} {K : PySem.W.Frag} {elts : List Expr} {kk : Nat} {tpos : Pos} {k1 k2 : Bool} {a b z TI TO i1 i2 : Addr} (D : ZipSep2 z TI TO i1 i2 [i1, a] [i2, b]) (ha : a ≠ i1) (hb : b ≠ i2) :
    Turn P w K (.Tuple elts kk tpos) (ItzK k1 k2 K a b) [z, TI, TO, i1, i2] z (fun i h => IsZip h z TI TO .none ∧ IsPair h TI (.ref i1) (.ref i2) ∧ (∃ x y, IsPair h TO x y) ∧ ItK k1 h i1 a i ∧ ItK k2 h i2 b i) where
  mem := by simp
  obj := fun i h st c hc => by
    obtain ⟨hz, hTI, ⟨x, y, hTO⟩, h1, h2⟩ := st
    have e' : c = z ∨ c = TI ∨ c = TO ∨ c = i1 ∨ c = i2 := by simpa using hc
    rcases e' with q | q | q | q | q
    · rw [q]; exact ⟨_, hz, fun v q => nomatch q⟩
    · rw [q]; exact ⟨_, hTI, fun v q => nomatch q⟩
    · rw [q]; exact ⟨_, hTO, fun v q => nomatch q⟩
    · rw [q]; exact itK_ob h1
    · rw [q]; exact itK_ob h2
  keep := fun i h h' st k => by
    obtain ⟨hz, hTI, ⟨x, y, hTO⟩, h1, h2⟩ := st
    exact ⟨k z (by simp) _ hz, k TI (by simp) _ hTI, ⟨x, y, k TO (by simp) _ hTO⟩, itK_at h1 fun o q => k i1 (by simp) o q, itK_at h2 fun o q => k i2 (by simp) o q⟩
  item := by
    intro X hP hw hK hc i pins s σ H E I hf st hg
    subst hP hw hK
    obtain ⟨hz, hTI, ⟨x0, y0, hTO⟩, h1, h2⟩ := st
    obtain ⟨xs, ys, x, y, hqx, hqy, hx, hy⟩ := hg
    obtain ⟨its, rv, p, _⟩ := seq_of I hqx
    obtain ⟨its2, rv2, p2, _⟩ := seq_of I hqy
    obtain ⟨u, hu, ru⟩ := rv.get hx
    obtain ⟨u2, hu2, ru2⟩ := rv2.get hy
    have hzl : z < s.heap.objs.size := Heap.lt_size hz
    have D1 := draws_k (prog := X.prog) (w := X.w) (A := X.A.in1) k1 (I.ok.hd hc) i1 a ha its.toArray
    have D2 := draws_k (prog := X.prog) (w := X.w) (A := X.A.in1) k2 (I.ok.hd hc) i2 b hb its2.toArray
    have l1 : i < its.toArray.size := by rw [List.size_toArray]; exact (List.getElem?_eq_some_iff.mp hu).1
    have l2 : i < its2.toArray.size := by rw [List.size_toArray]; exact (List.getElem?_eq_some_iff.mp hu2).1
    refine wpAny_pyNext_zipD2_item D D1 D2 hz hTI hTO ⟨h1, p⟩ ⟨h2, p2⟩ l1 l2 fun x1 x2 h' tk g1 g2 z' TO' s1' s2' hT hsz hk => ?_
    have e1 : x1 = u := by
      have : its.toArray[i]? = some u := by simpa using hu
      rw [this] at g1
      exact (Option.some.inj g1).symm
    have e2 : x2 = u2 := by
      have : its2.toArray[i]? = some u2 := by simpa using hu2
      rw [this] at g2
      exact (Option.some.inj g2).symm
    subst e1 e2
    refine ⟨_, rfl, wpAny_letOwnedTupleGo_zip (s := { s with heap := h', toks := tk }) z' fun h'' z'' sb => ?_⟩
    have hT2 : h''.get? s.heap.objs.size = some { cls := .type "tuple", data := .seq #[x1, x2] } := (sb.2 _ (Nat.ne_of_gt hzl)).trans hT
    have new : ObjOk X.prog X.w (upd H s.heap.objs.size (.tup [x, y])) h'' s.heap.objs.size (.tup [x, y]) :=
      ⟨by show 2 ≤ sizeLine; decide, [x1, x2], .cons ru (.cons ru2 .nil), ⟨_, hT2, rfl, _, rfl⟩⟩
    have I1 : Inv X pins σ (upd H s.heap.objs.size (.tup [x, y])) { s with heap := h'', toks := tk } :=
      I.turnedNew (t' := tk) (ch := [z, TI, TO, i1, i2]) (fun c o hb q => (sb.2 c (fun q' => hb (by simp [q']))).trans (hk c o (fun q' => hb (by simp [q'])) (fun q' => hb (by simp [q'])) (fun q' => hb (by simp [q'])) (fun q' => hb (by simp [q'])) q)) hf (Nat.le_refl _) new
    refine ⟨.ref s.heap.objs.size, _, I1, rfl, ⟨_, x, y, rfl, I.hok.fresh (Nat.le_refl _), rfl, fun l hl => by rw [seq_inj I hl hqx]; exact hx, fun l hl => by rw [seq_inj I hl hqy]; exact hy⟩, ⟨z'', ?_, ⟨x1, x2, ?_⟩, ?_, ?_⟩, fun c hcm => ?_⟩
    · exact (sb.2 _ D.TIz).trans (hk _ _ D.TIz D.TITO D.TIi1 D.TIi2 hTI)
    · exact (sb.2 _ D.TOz).trans TO'
    · exact itK_at s1'.1 fun o q => (sb.2 _ (fun e => D.zi1 e.symm)).trans q
    · exact itK_at s2'.1 fun o q => (sb.2 _ (fun e => D.zi2 e.symm)).trans q
    · have hlt : c < s.heap.objs.size := by
        have e' : c = z ∨ c = TI ∨ c = TO ∨ c = i1 ∨ c = i2 := by simpa using hcm
        rcases e' with q | q | q | q | q
        · rw [q]; exact hzl
        · rw [q]; exact Heap.lt_size hTI
        · rw [q]; exact Heap.lt_size hTO
        · rw [q]; obtain ⟨_, e1, _⟩ := itK_ob h1; exact Heap.lt_size e1
        · rw [q]; obtain ⟨_, e2, _⟩ := itK_ob h2; exact Heap.lt_size e2
      rw [upd_ne (Nat.ne_of_lt hlt)]
      exact (hf c hcm).1
  done := by
    intro X hP hw hK hc i pins s σ H E I hf st hg
    subst hP hw hK
    obtain ⟨hz, hTI, ⟨x0, y0, hTO⟩, h1, h2⟩ := st
    obtain ⟨xs, ys, hqx, hqy, hend⟩ := hg
    obtain ⟨its, rv, p, _⟩ := seq_of I hqx
    obtain ⟨its2, rv2, p2, _⟩ := seq_of I hqy
    have l1 := rv.length
    have l2 := rv2.length
    have D1 := draws_k (prog := X.prog) (w := X.w) (A := X.A.in1) k1 (I.ok.hd hc) i1 a ha its.toArray
    have D2 := draws_k (prog := X.prog) (w := X.w) (A := X.A.in1) k2 (I.ok.hd hc) i2 b hb its2.toArray
    exact wpAny_pyNext_zipD2_end D D1 D2 hz hTI hTO ⟨h1, p⟩ ⟨h2, p2⟩ (by rw [List.size_toArray]; omega) (by rw [List.size_toArray]; omega) (by rw [List.size_toArray, List.size_toArray]; omega) fun h' tk hk => ⟨rfl, I.turnedL (t' := tk) (ch := [z, TI, TO, i1, i2]) (fun c o hb q =>
      hk c o (fun q' => hb (by simp [q'])) (fun q' => hb (by simp [q'])) (fun q' => hb (by simp [q'])) (fun q' => hb (by simp [q'])) q) hf⟩
  self := fun A i s Q E st h => wpAny_pyIter_zip st.1 h
def iZipK (K : PySem.W.Frag) (ta : TA) : TI := fun σ H R => ta σ H fun vs H1 => ∃ k1 k2 a b xs ys, vs = [.ref a, .ref b] ∧ SqK k1 K H1 a xs ∧ SqK k2 K H1 b ys ∧ R (ItzK k1 k2 K a b) H1
theorem isK_lt {k : Bool} {h : Heap} {a : Addr} {its : Array Value} (x : IsK k h a its) : a < h.objs.size := by
  cases k with
  | true => obtain ⟨o, e, _⟩ := (show h.IsList a its from x); exact Heap.lt_size e
  | false => obtain ⟨o, e, _⟩ := (show h.IsTuple a its from x); exact Heap.lt_size e
theorem pi_zipK {X : Cx} {e e2 : Expr} {ta : TA} {p pos tpos : Pos} {elts : List Expr} {kk : Nat} (hg : Gl X "zip") (hm : X.mg "zip" = none) (ha : PA X [e, e2] ta)
    (hs : starEach [e, e2] X.env = (false, eval e X.env) :: starEach [e2] X.env) (hpl : (backTo pos (starEach [e2] X.env)).any (·.1) = false) :
    PI X (.Tuple elts kk tpos) (.Call (.Name "zip" p) [e, e2] [] pos) (iZipK X.K ta) := by
  refine ⟨fun pins s σ H R I h => ?_⟩
  refine Call_ (ld_blt I hg hm PyProof.Rows.boot_zip (PyProof.Rows.callWith_type1 (thn (ha.run pos pins s σ H _ I h) fun us s1 ⟨vs, H1, I1, r1, q1⟩ => ?_) hs hpl))
  obtain ⟨k1, k2, a, b, xs, ys, ex, hqx, hqy, q⟩ := q1
  subst ex
  cases r1 with
  | cons r rr =>
    cases rr with
    | cons r' rr =>
      cases rr
      cases r
      cases r'
      obtain ⟨its, rv, p1, _⟩ := seq_of I1 hqx
      obtain ⟨its2, rv2, p2, _⟩ := seq_of I1 hqy
      have la : a < s1.heap.objs.size := isK_lt p1
      have lb : b < s1.heap.objs.size := isK_lt p2
      refine zip_begins2 (begins_k k1 a its.toArray) (begins_k k2 b its2.toArray) p1 p2 fun h' hz hTI hTO h1 h2 hsz hk => wpAny_pyIter_zip hz ?_
      have I2 : Inv X pins σ H1 { s1 with heap := h' } := I1.kept (t' := s1.toks) hk
      have sep : ZipSep2 (s1.heap.objs.size + 4) (s1.heap.objs.size + 2) (s1.heap.objs.size + 3) s1.heap.objs.size (s1.heap.objs.size + 1) (s1.heap.objs.size :: [a]) ((s1.heap.objs.size + 1) :: [b]) :=
        zip_sep2 (fun c hc => by rw [List.mem_singleton.mp hc]; exact la) (fun c hc => by rw [List.mem_singleton.mp hc]; exact lb)
      refine ⟨s1.heap.objs.size + 4, [s1.heap.objs.size + 4, s1.heap.objs.size + 2, s1.heap.objs.size + 3, s1.heap.objs.size, s1.heap.objs.size + 1], _, _, H1, rfl, I2, turn_zipK sep (Nat.ne_of_lt la) (Nat.ne_of_lt (Nat.lt_succ_of_lt lb)), ⟨hz, hTI, ⟨_, _, hTO⟩, itK_new h1, itK_new h2⟩, fun c hcm => ?_, q⟩
      have e' : c = s1.heap.objs.size + 4 ∨ c = s1.heap.objs.size + 2 ∨ c = s1.heap.objs.size + 3 ∨ c = s1.heap.objs.size ∨ c = s1.heap.objs.size + 1 := by simpa using hcm
      have hle : s1.heap.objs.size ≤ c := by
        rcases e' with z | z | z | z | z
        · rw [z]; exact Nat.le_add_right _ _
        · rw [z]; exact Nat.le_add_right _ _
        · rw [z]; exact Nat.le_add_right _ _
        · rw [z]; exact Nat.le_refl _
        · rw [z]; exact Nat.le_add_right _ _
      exact I1.fpOk hle (I1.hok.fresh hle)
theorem walk_zipK {K : PySem.W.Frag} {k1 k2 : Bool} {a b : Addr} {xs ys : List V} {n : Nat} (hn : n = min xs.length ys.length) : Walk (ItzK k1 k2 K a b) n (fun H => SqK k1 K H a xs ∧ SqK k2 K H b ys) (YPair (fun i => xs[i]?) (fun i => ys[i]?)) := by
  subst hn
  refine ⟨fun i _ hi q => ?_, fun _ q => ⟨xs, ys, q.1, q.2, rfl⟩, fun i H v H' _ q y => ?_⟩
  · have h1 : i < xs.length := by omega
    have h2 : i < ys.length := by omega
    exact ⟨xs, ys, xs[i], ys[i], q.1, q.2, by simp [h1], by simp [h2]⟩
  · obtain ⟨T, x, z, h1, h2, h3, h4, h5⟩ := y
    exact ⟨T, x, z, h1, h2, h3, h4 xs q.1, h5 ys q.2⟩
/-! enumerate -/
theorem meets_enumerate_newB0 {v : Value} {o : Obj} {H : Heap → Prop} (B : Begins v o H) :
    Meets (Builtin.«enumerate.__new__» ⟨[.type "enumerate", v], []⟩) (fun _ R s => H s.heap ∧
      R (.ok (.ret (.ref (s.heap.push o).objs.size))) { s with heap := (s.heap.push o).push { cls := .type "enumerate", data := .fields #[.none, .bool false, .ref s.heap.objs.size, rawInt 0, .none, .none] } }) :=
  .of_wp fun prog w A R s h => by
    obtain ⟨hp, g, d, tk, os⟩ := s; obtain ⟨h1, h⟩ := h
    have hsub := sub_enumerate
    have q1 : ∀ {A' : Around} {E : Value → Shared → Prop} {Q : Value → Shared → Prop}, Q (.ref hp.objs.size) ⟨hp.push o, g, d, tk, os⟩ → wpAny (model prog w) A' (pyIter v) Q E ⟨hp, g, d, tk, os⟩ :=
      fun q => B.iter prog w _ _ ⟨hp, g, d, tk, os⟩ _ h1 q
    wp_walk using q1
    refine wpAny_stack_any fun st => wpAny_pure ?_
    split
    · rename_i c _ _ _ _ _
      cases (c == Value.type "enumerate")
      · wp_walk using q1
        exact ⟨_, rfl, h⟩
      · wp_walk using q1
        exact ⟨_, rfl, h⟩
    · wp_walk using q1
      exact ⟨_, rfl, h⟩
theorem enum_begins0 {prog : Program} {w : World} {A : Around} {E : Value → Shared → Prop} {s : Shared} {v : Value} {o : Obj} {H : Heap → Prop} {Q : Value → Shared → Prop} (B : Begins v o H) (h1 : H s.heap)
    (h : ∀ h', IsEnum h' (s.heap.objs.size + 1) s.heap.objs.size 0 .none → h'.get? s.heap.objs.size = some o → h'.objs.size = s.heap.objs.size + 2 →
      (∀ b o, s.heap.get? b = some o → h'.get? b = some o) → Q (.ref (s.heap.objs.size + 1)) { s with heap := h' }) :
    wpAny (model prog w) A (call (.type "enumerate") [v]) Q E s := by
  refine callType_new F.called_enumerate (by decide) (F.typeCall_enumerate_1 _) (F.newCall_enumerate_1 _) (fun obj => F.args_object_init_2 obj _) F.entry_enumerate_new
    (meets_enumerate_newB0 B) ⟨h1, ?_⟩
  have hz : (s.heap.push o).objs.size = s.heap.objs.size + 1 := Heap.size_push ..
  show _ ∧ _
  rw [hz]
  have he : IsEnum ((s.heap.push o).push { cls := .type "enumerate", data := .fields #[.none, .bool false, .ref s.heap.objs.size, rawInt 0, .none, .none] }) (s.heap.objs.size + 1) s.heap.objs.size 0 .none := by
    have := Heap.get?_push_size (s.heap.push o) (o := { cls := .type "enumerate", data := .fields #[.none, .bool false, .ref s.heap.objs.size, rawInt 0, .none, .none] }) rfl
    rw [hz] at this; exact this
  refine ⟨⟨_, he, rfl⟩, h _ he (Heap.get?_push_of_some _ (Heap.get?_push_size _ B.free)) (by rw [Heap.size_push, hz]) fun b o x => Heap.get?_push_of_some _ (Heap.get?_push_of_some _ x)⟩
def IteK (k : Bool) (K : PySem.W.Frag) (a : Addr) : It :=
  ⟨fun i H => ∃ (xs : List V) (x : V), SqK k K H a xs ∧ xs[i]? = some x, fun i H v H' => ∃ T x, v = .ref T ∧ H T = none ∧ H' = upd H T (.tup [.int (i : Nat), x]) ∧ ∀ xs, SqK k K H a xs → xs[i]? = some x, fun i H => ∃ xs : List V, SqK k K H a xs ∧ xs.length = i⟩
theorem turn_enumK {P : Program} {w : World} {K : PySem.W.Frag} {elts : List Expr} {kk : Nat} {tpos : Pos} {k : Bool} {a e it : Addr} (hne : e ≠ it) (hea : e ≠ a) (hai : a ≠ it) :
    Turn P w K (.Tuple elts kk tpos) (IteK k K a) [e, it] e (fun i h => (∃ old, IsEnum h e it ((i : Nat) : Int) old) ∧ ItK k h it a i) where
  mem := by simp
  obj := fun i h st b hb => by
    obtain ⟨⟨old, he⟩, h1⟩ := st
    have e' : b = e ∨ b = it := by simpa using hb
    rcases e' with z | z
    · rw [z]; exact ⟨_, he, fun v q => nomatch q⟩
    · rw [z]; exact itK_ob h1
  keep := fun i h h' st k => let ⟨⟨old, he⟩, hi⟩ := st; ⟨⟨old, k e (by simp) _ he⟩, itK_at hi fun o q => k it (by simp) o q⟩
  item := by
    intro X hP hw hK hc i pins s σ H E I hf st hg
    subst hP hw hK
    obtain ⟨⟨old, he⟩, hit⟩ := st
    obtain ⟨xs, x, hq, hx⟩ := hg
    obtain ⟨its, rv, p, hz⟩ := seq_of I hq
    obtain ⟨u, hu, ru⟩ := rv.get hx
    have hel : e < s.heap.objs.size := Heap.lt_size he
    have hil : it < s.heap.objs.size := by obtain ⟨_, q, _⟩ := itK_ob hit; exact Heap.lt_size q
    have D1 := draws_k (prog := X.prog) (w := X.w) (A := X.A.in1) k (I.ok.hd hc) it a hai its.toArray
    have l1 : i < its.toArray.size := by rw [List.size_toArray]; exact (List.getElem?_eq_some_iff.mp hu).1
    refine wpAny_pyNext_enum_itemD D1 he ⟨hit, p⟩ l1 hne (by simp [hne, hea]) fun x1 h' tk g1 ho st' hT hsz hk => ?_
    have e1 : x1 = u := by
      have : its.toArray[i]? = some u := by simpa using hu
      rw [this] at g1
      exact (Option.some.inj g1).symm
    subst e1
    refine ⟨_, rfl, wpAny_letOwnedTupleGo_enum (s := { s with heap := h', toks := tk + 1 }) ho fun h'' he' sb => ?_⟩
    have hT2 : h''.get? s.heap.objs.size = some { cls := .type "tuple", data := .seq #[.int i tk, x1] } := (sb.2 _ (Nat.ne_of_gt hel)).trans hT
    have new : ObjOk X.prog X.w (upd H s.heap.objs.size (.tup [.int (i : Nat), x])) h'' s.heap.objs.size (.tup [.int (i : Nat), x]) :=
      ⟨by show 2 ≤ sizeLine; decide, [.int i tk, x1], .cons ⟨_, rfl⟩ (.cons ru .nil), ⟨_, hT2, rfl, _, rfl⟩⟩
    have I1 : Inv X pins σ (upd H s.heap.objs.size (.tup [.int (i : Nat), x])) { s with heap := h'', toks := tk + 1 } :=
      I.turnedNew (ch := [e, it]) (fun b ob hb q => (sb.2 b (fun z => hb (by simp [z]))).trans (hk b ob (fun z => hb (by simp [z])) (fun z => hb (by simp [z])) q)) hf (Nat.le_refl _) new
    refine ⟨.ref s.heap.objs.size, _, I1, rfl, ⟨_, x, rfl, I.hok.fresh (Nat.le_refl _), rfl, fun ys hy => by rw [seq_inj I hy hq]; exact hx⟩, ⟨⟨x1, ?_⟩, itK_at st'.1 fun o q => (sb.2 it (Ne.symm hne)).trans q⟩, fun b hb => ?_⟩
    · have e1 : ((i + 1 : Nat) : Int) = (i : Int) + 1 := by omega
      rw [e1]; exact he'
    · have hb' : b < s.heap.objs.size := by
        have e' : b = e ∨ b = it := by simpa using hb
        rcases e' with z | z
        · rw [z]; exact hel
        · rw [z]; exact hil
      rw [upd_ne (Nat.ne_of_lt hb')]
      exact (hf b hb).1
  done := by
    intro X hP hw hK hc i pins s σ H E I hf st hg
    subst hP hw hK
    obtain ⟨⟨old, he⟩, hit⟩ := st
    obtain ⟨xs, hq, hx⟩ := hg
    obtain ⟨its, rv, p, hz⟩ := seq_of I hq
    have hl := rv.length
    have D1 := draws_k (prog := X.prog) (w := X.w) (A := X.A.in1) k (I.ok.hd hc) it a hai its.toArray
    have W := WalksT.enumerateD D1 e hne (by simp [hne, hea]) (by simp)
    subst hx
    have hs : its.toArray.size = xs.length := by rw [List.size_toArray]; omega
    refine W.done s _ _ ⟨⟨old, by rw [hs]; exact he⟩, by rw [hs]; exact ⟨hit, p⟩⟩ fun h' tk hk => ?_
    exact ⟨rfl, I.turnedL (t' := tk) (ch := [e, it]) (fun c o hb q => hk c o hb q) hf⟩
  self := fun A i s Q E st h => wpAny_pyIter_enum st.1.choose_spec h
def iEnumK (K : PySem.W.Frag) (ta : TA) : TI := fun σ H R => ta σ H fun vs H1 => ∃ k a xs, vs = [.ref a] ∧ SqK k K H1 a xs ∧ R (IteK k K a) H1
theorem pi_enumK {X : Cx} {e : Expr} {ta : TA} {p pos tpos : Pos} {elts : List Expr} {kk : Nat} (hg : Gl X "enumerate") (hm : X.mg "enumerate" = none) (ha : PA X [e] ta) (hs : starEach [e] X.env = [(false, eval e X.env)]) :
    PI X (.Tuple elts kk tpos) (.Call (.Name "enumerate" p) [e] [] pos) (iEnumK X.K ta) := by
  refine ⟨fun pins s σ H R I h => ?_⟩
  refine Call_ (ld_blt I hg hm boot_enumerate (PyProof.Rows.callWith_type1 (thn (ha.run pos pins s σ H _ I h) fun us s1 ⟨vs, H1, I1, r1, q1⟩ => ?_) hs rfl))
  obtain ⟨k, a, xs, ex, hq, q⟩ := q1
  subst ex
  cases r1 with
  | cons r rr =>
    cases rr
    cases r
    obtain ⟨its, rv, p', hz⟩ := seq_of I1 hq
    have la : a < s1.heap.objs.size := isK_lt p'
    refine enum_begins0 (begins_k k a its.toArray) p' fun h' he hit hsz hk => wpAny_pyIter_enum he ?_
    have I2 : Inv X pins σ H1 { s1 with heap := h' } := I1.kept (t' := s1.toks) hk
    refine ⟨s1.heap.objs.size + 1, [s1.heap.objs.size + 1, s1.heap.objs.size], _, _, H1, rfl, I2, turn_enumK (a := a) (e := s1.heap.objs.size + 1) (it := s1.heap.objs.size) (Nat.succ_ne_self _) (Nat.ne_of_gt (Nat.lt_succ_of_lt la)) (Nat.ne_of_lt la), ⟨⟨.none, he⟩, itK_new hit⟩, fun b hb => ?_, q⟩
    have e' : b = s1.heap.objs.size + 1 ∨ b = s1.heap.objs.size := by simpa using hb
    have hle : s1.heap.objs.size ≤ b := by
      rcases e' with z | z
      · rw [z]; exact Nat.le_succ _
      · rw [z]; exact Nat.le_refl _
    exact I1.fpOk hle (I1.hok.fresh hle)
theorem walk_enumK {K : PySem.W.Frag} {k : Bool} {a : Addr} {xs : List V} : Walk (IteK k K a) xs.length (fun H => SqK k K H a xs) (YPair (fun i => some (.int (i : Nat))) (fun i => xs[i]?)) := by
  refine ⟨fun i _ hi q => ⟨xs, xs[i], q, by simp [hi]⟩, fun _ q => ⟨xs, q, rfl⟩, fun i H v H' _ q y => ?_⟩
  obtain ⟨T, x, h1, h2, h3, h4⟩ := y
  exact ⟨T, .int (i : Nat), x, h1, h2, h3, rfl, h4 xs q⟩
/-! a list or a tuple as it is -/
def iSeqK (K : PySem.W.Frag) (tl : TE) : TI := fun σ H R => tl σ H fun x H1 => ∃ a, x = .ref a ∧ ((∃ xs, SqL K H1 a xs) ∧ R (Itl K a) H1 ∨ (∃ xs, SqT K H1 a xs) ∧ R (Itt K a) H1)
theorem pi_seqK {X : Cx} {tg l : Expr} {tl : TE} (hl : PE X l tl) : PI X tg l (iSeqK X.K tl) := by
  refine ⟨fun pins s σ H R I h => ?_⟩
  refine thn (hl.run pins s σ H _ I h) fun u s1 ⟨x, H1, I1, r1, a, e, q⟩ => ?_
  subst e
  cases r1
  rcases q with ⟨⟨xs, hq⟩, q⟩ | ⟨⟨xs, hq⟩, q⟩
  · obtain ⟨its, rv, p', hz⟩ := I1.list hq
    refine wpAny_pyIter_list p'.isList (pi_one (tk := s1.toks) I1 _ (turn_list a _) ?_ q)
    exact ⟨_, Heap.get?_push_size _ rfl, rfl, rfl⟩
  · obtain ⟨its, rv, p', hz⟩ := I1.tuple hq
    refine wpAny_pyIter_tuple p' (pi_one (tk := s1.toks) I1 _ (turn_tuple a _) ?_ q)
    exact ⟨_, Heap.get?_push_size _ rfl, rfl, rfl⟩
end PD
end

section
set_option Elab.async false
set_option linter.all false
set_option maxRecDepth 100000
set_option maxHeartbeats 1000000
namespace PD
open PySem PySem.Spec PyProof.Rows L2
variable {X : Cx} {W : WX} {pos : Pos} {e e1 e2 : Expr} {es : List Expr} {f g : M PyData} {fs : M (List PyData)}
variable {K : PySem.W.Frag} {ph : Fx} {am am' : Am} {H H' : Hp} {σ : L2.St} {δ δ' : Sg} {p : Addr}

theorem seqT_hid {a : Addr} {xs : List V} (q : hid ph am H a = some (.tup xs)) : SqT K H a xs := .inl (.inl (hid_sub _ _ q))
theorem rd_hid {a : Addr} {xs : List V} (q : SqL K (hid ph am H) a xs) : SqL K H a xs := hid_sub.seq q
/-- a new object is not hidden -/
theorem new_hid {o : HO} (hn : ∀ b, Hid ph am b → ∃ o, H b = some o) (h : H p = none) : hid ph am (upd H p o) p = some o :=
  hid_some.mpr ⟨fun q => (by
    obtain ⟨o, e⟩ := hn p q
    rw [h] at e
    cases e), upd_same⟩
theorem new_tup {xs : List V} {ds : List PyData} (hn : ∀ b, Hid ph am b → ∃ o, H b = some o) (h : H p = none) (d : DqAll K (hid ph am H) xs ds) : Dq K (hid ph am (upd H p (.tup xs))) (.ref p) (.tuple ds) :=
  .tup (new_hid hn h) (dps_mono (hid_same (same_new h)) d)
theorem new_lst {xs : List V} {ds : List PyData} (hn : ∀ b, Hid ph am b → ∃ o, H b = some o) (h : H p = none) (d : DqAll K (hid ph am H) xs ds) : Dq K (hid ph am (upd H p (.lst xs))) (.ref p) (.list ds) :=
  .lst (.inl (.inl (new_hid hn h))) (dps_mono (hid_same (same_new h)) d)
theorem OpD.or {r r' : R2} {F G : PyData → PyData → Option PyData} (h : OpD X r F) (h' : OpD X r' G) : OpD X (fun x y H Q => r x y H Q ∨ r' x y H Q) (fun a b => match F a b with | some c => some c | none => G a b) := by
  intro ph am H x y d e c Q hn dx dy q k
  simp only at q
  cases hF : F d e with
  | some c' =>
    rw [hF] at q
    cases q
    exact .inl (h ph am H x y d e _ Q hn dx dy hF k)
  | none =>
    rw [hF] at q
    exact .inr (h' ph am H x y d e _ Q hn dx dy q k)

/-! ### ints -/
def intsD (F : Int → Int → Option PyData) : PyData → PyData → Option PyData
  | .int i, .int j => F i j
  | _, _ => none
theorem opd_rI0 {gv : Int → Int → V} {gd : Int → Int → PyData} (h : ∀ H i j, Dq X.K H (gv i j) (gd i j)) : OpD X (rI0 gv) (intsD fun i j => some (gd i j)) := by
  intro ph am H x y d e c Q hn dx dy q k
  cases dx with
  | int i =>
    cases dy with
    | int j =>
      cases q
      exact ⟨i, j, rfl, rfl, k _ H (Same.refl H) (h _ i j)⟩
    | _ => cases q
  | _ => cases q
theorem opd_rI {C : Int → Int → Prop} {Cb : Int → Int → Bool} {gv : Int → Int → V} {gd : Int → Int → PyData} (h : ∀ H i j, Dq X.K H (gv i j) (gd i j)) (hc : ∀ i j, Cb i j = true → C i j) : OpD X (rI C gv) (intsD fun i j => if Cb i j = true then some (gd i j) else none) := by
  intro ph am H x y d e c Q hn dx dy q k
  cases dx with
  | int i =>
    cases dy with
    | int j =>
      obtain ⟨h1, rfl⟩ := if_some q
      exact ⟨i, j, rfl, rfl, hc i j h1, k _ H (Same.refl H) (h _ i j)⟩
    | _ => cases q
  | _ => cases q
def small64 (i : Int) : Bool := decide (-(2 ^ 64) < i) && decide (i < 2 ^ 64)
def mulOk (i j : Int) : Bool := small64 i || small64 j
def subD : PyData → PyData → Option PyData := intsD fun i j => some (.int (i - j))
theorem opd_sub : OpD X (rI0 fun i j => .int (i - j)) subD := opd_rI0 fun _ i j => .int _
def mulI : PyData → PyData → Option PyData := intsD fun i j => if mulOk i j = true then some (.int (i * j)) else none
theorem opd_mulI : OpD X (rI CMul fun i j => .int (i * j)) mulI := opd_rI (fun _ i j => .int _) fun i j h => by
  unfold mulOk small64 at h
  simp only [Bool.or_eq_true, Bool.and_eq_true, decide_eq_true_eq] at h
  exact h
def divOk (j : Int) : Bool := decide (j ≠ 0) && decide (j.natAbs < 1073741824)
def fdivD : PyData → PyData → Option PyData := intsD fun i j => if divOk j = true then some (.int (i.fdiv j)) else none
theorem opd_fdiv : OpD X (rI CDivN fun i j => .int (i.fdiv j)) fdivD := opd_rI (Cb := fun _ j => divOk j) (fun _ i j => .int _) fun i j h => by
  unfold divOk at h
  simp only [Bool.and_eq_true, decide_eq_true_eq] at h
  exact h
def modD : PyData → PyData → Option PyData := intsD fun i j => if decide (j ≠ 0) = true then some (.int (i.fmod j)) else none
theorem opd_mod : OpD X (rI (fun _ j => j ≠ 0) fun i j => .int (i.fmod j)) modD := opd_rI (Cb := fun _ j => decide (j ≠ 0)) (fun _ i j => .int _) fun i j h => of_decide_eq_true h
def powOk (i j : Int) : Bool := decide (0 ≤ j) && decide (j ≤ 1000000) && decide (i.natAbs < 2 ^ 64)
def powD : PyData → PyData → Option PyData := intsD fun i j => if powOk i j = true then some (.int (i ^ j.toNat)) else none
theorem opd_pow : OpD X (rI CPow fun i j => .int (i ^ j.toNat)) powD := opd_rI (Cb := powOk) (fun _ i j => .int _) fun i j h => by
  unfold powOk at h
  simp only [Bool.and_eq_true, decide_eq_true_eq] at h
  exact ⟨h.1.1, h.1.2, h.2⟩
def addI : PyData → PyData → Option PyData := intsD fun i j => some (.int (i + j))
theorem opd_addI : OpD X (rI0 fun i j => .int (i + j)) addI := opd_rI0 fun _ i j => .int _
/-! ### tuples, lists -/
def catT : PyData → PyData → Option PyData
  | .tuple xs, .tuple ys => if xs.length + ys.length ≤ sizeLine then some (.tuple (xs ++ ys)) else none
  | _, _ => none
theorem opd_catT : OpD X (rCatA X.K) catT := by
  intro ph am H x y d e c Q hn dx dy q k
  cases dx with
  | tup h1 a1 =>
    cases dy with
    | tup h2 a2 =>
      rename_i a xs ds b ys es
      obtain ⟨hz, rfl⟩ := if_some q
      have l1 := a1.length
      have l2 := a2.length
      refine ⟨a, b, xs, ys, rfl, rfl, seqT_hid h1, seqT_hid h2, by omega, fun e => ?_, fun _ e => ?_, fun _ _ p np => ?_⟩
      · subst e
        cases a1
        exact k _ H (Same.refl H) (.tup h2 a2)
      · subst e
        cases a2
        rw [List.append_nil] at k
        exact k _ H (Same.refl H) (.tup h1 a1)
      · exact k _ _ (same_new np) (new_tup hn np (a1.append a2))
    | _ => cases q
  | _ => cases q
def catL : PyData → PyData → Option (List PyData)
  | .list xs, .list ys => if xs.length + ys.length ≤ sizeLine then some (xs ++ ys) else none
  | _, _ => none
theorem opf_catL : OpF X (rCatL X.K) catL := by
  intro ph am H x y d e c Q hn dx dy q k
  cases dx with
  | lst h1 a1 =>
    cases dy with
    | lst h2 a2 =>
      rename_i a xs ds b ys es
      obtain ⟨hz, rfl⟩ := if_some q
      have l1 := a1.length
      have l2 := a2.length
      exact ⟨a, b, xs, ys, rfl, rfl, rd_hid h1, rd_hid h2, by omega, fun p np => k p _ np (a1.append a2) (by rw [List.length_append]; omega)⟩
    | _ => cases q
  | _ => cases q
theorem OpF.d {r : R2} {F : PyData → PyData → Option (List PyData)} (h : OpF X r F) : OpD X r (fun a b => (F a b).map .list) := by
  intro ph am H x y d e c Q hn dx dy q k
  simp only at q
  cases hF : F d e with
  | none => rw [hF] at q; cases q
  | some cs =>
    rw [hF] at q
    cases q
    exact h ph am H x y d e cs Q hn dx dy hF fun p vs np dv hz => k _ _ (same_new np) (new_lst hn np dv)
def repT : PyData → PyData → Option PyData
  | .tuple xs, .int k => if -(2 ^ 63) ≤ k ∧ k ≤ 1000 ∧ xs.length ≤ 1000 then some (.tuple (List.replicate k.toNat xs).flatten) else none
  | _, _ => none
theorem DqAll.flat {vs : List V} {ds : List PyData} (h : DqAll K H vs ds) : ∀ n, DqAll K H (List.replicate n vs).flatten (List.replicate n ds).flatten
  | 0 => .nil
  | n + 1 => by
    rw [List.replicate_succ, List.replicate_succ, List.flatten_cons, List.flatten_cons]
    exact h.append (DqAll.flat h n)
theorem opd_repT : OpD X (rRepA X.K) repT := by
  intro ph am H x y d e c Q hn dx dy q k
  cases dx with
  | tup h1 a1 =>
    cases dy with
    | int n =>
      rename_i a xs ds
      obtain ⟨⟨z1, z2, z3⟩, rfl⟩ := if_some q
      have l1 := a1.length
      refine ⟨a, n, xs, rfl, rfl, seqT_hid h1, z1, z2, by omega, fun e => ?_, fun _ _ p np => ?_⟩
      · have e' : (List.replicate n.toNat ds).flatten = ds := by
          rcases e with e | e
          · subst e
            cases a1
            rw [List.flatten_replicate_nil]
          · subst e
            show (List.replicate 1 ds).flatten = ds
            simp
        rw [e'] at k
        exact k _ H (Same.refl H) (.tup h1 a1)
      · exact k _ _ (same_new np) (new_tup hn np (a1.flat _))
    | _ => cases q
  | _ => cases q
/-! ### the operators at any data -/
def addD : PyData → PyData → Option PyData := fun a b => match addI a b with | some c => some c | none => (fun a b => match catT a b with | some c => some c | none => (fun a b => (catL a b).map .list) a b) a b
theorem de_add (ha : DE X W e1 f) (hb : DE X W e2 g) : DE X W (.BinOp e1 .Add e2 pos) (xBin addD f g) :=
  de_bin (opd_addI.or (opd_catT.or opf_catL.d)) (op_add.or (op_catA.or op_catL)) ha hb
theorem df_cat (ha : DE X W e1 f) (hb : DE X W e2 g) : DF X W (.BinOp e1 .Add e2 pos) (xBinF catL f g) :=
  binF_core opf_catL ha hb fun _ _ pa pb => pe_op op_catL pa pb
theorem de_sub (ha : DE X W e1 f) (hb : DE X W e2 g) : DE X W (.BinOp e1 .Sub e2 pos) (xBin subD f g) := de_bin opd_sub op_sub ha hb
def mulD : PyData → PyData → Option PyData := fun a b => match mulI a b with | some c => some c | none => repT a b
theorem de_mul (ha : DE X W e1 f) (hb : DE X W e2 g) : DE X W (.BinOp e1 .Mult e2 pos) (xBin mulD f g) := de_bin (opd_mulI.or opd_repT) (op_mul.or op_repA) ha hb
theorem de_fdiv (ha : DE X W e1 f) (hb : DE X W e2 g) : DE X W (.BinOp e1 .FloorDiv e2 pos) (xBin fdivD f g) := de_bin opd_fdiv op_fdivN ha hb
theorem de_mod (ha : DE X W e1 f) (hb : DE X W e2 g) : DE X W (.BinOp e1 .Mod e2 pos) (xBin modD f g) := de_bin opd_mod op_modN ha hb
theorem de_pow (ha : DE X W e1 f) (hb : DE X W e2 g) : DE X W (.BinOp e1 .Pow e2 pos) (xBin powD f g) := de_bin opd_pow op_pow ha hb
/-! ### comparisons -/
def ltD : PyData → PyData → Option PyData := intsD fun i j => some (.bool (decide (i < j)))
def leD : PyData → PyData → Option PyData := intsD fun i j => some (.bool (decide (i ≤ j)))
def gtD : PyData → PyData → Option PyData := intsD fun i j => some (.bool (decide (j < i)))
def geD : PyData → PyData → Option PyData := intsD fun i j => some (.bool (decide (j ≤ i)))
theorem opd_lt : OpD X (rI0 fun i j => .bl (decide (i < j))) ltD := opd_rI0 fun _ i j => .bl _
theorem opd_le : OpD X (rI0 fun i j => .bl (decide (i ≤ j))) leD := opd_rI0 fun _ i j => .bl _
theorem opd_gt : OpD X (rI0 fun i j => .bl (decide (j < i))) gtD := opd_rI0 fun _ i j => .bl _
theorem opd_ge : OpD X (rI0 fun i j => .bl (decide (j ≤ i))) geD := opd_rI0 fun _ i j => .bl _
theorem de_lt (ha : DE X W e1 f) (hb : DE X W e2 g) : DE X W (.Compare e1 [.Lt] [e2] pos) (xBin ltD f g) := de_cmp opd_lt op_lt (nomark _) ha hb
theorem de_le (ha : DE X W e1 f) (hb : DE X W e2 g) : DE X W (.Compare e1 [.LtE] [e2] pos) (xBin leD f g) := de_cmp opd_le op_le (nomark _) ha hb
theorem de_gt (ha : DE X W e1 f) (hb : DE X W e2 g) : DE X W (.Compare e1 [.Gt] [e2] pos) (xBin gtD f g) := de_cmp opd_gt op_gt (nomark _) ha hb
theorem de_ge (ha : DE X W e1 f) (hb : DE X W e2 g) : DE X W (.Compare e1 [.GtE] [e2] pos) (xBin geD f g) := de_cmp opd_ge op_ge (nomark _) ha hb
def eqD (a b : PyData) : Option PyData := if SeqAt.shaped a = true ∧ SeqAt.shaped b = true then some (.bool (PyData.eqv a b)) else none
def neD (a b : PyData) : Option PyData := if SeqAt.shaped a = true ∧ SeqAt.shaped b = true then some (.bool (!PyData.eqv a b)) else none
theorem opd_eq : OpD X (rEqD X.K) eqD := by
  intro ph am H x y d e c Q hn dx dy q k
  obtain ⟨⟨h1, h2⟩, rfl⟩ := if_some q
  exact ⟨d, e, (dp_mono hid_sub dx).dp, (dp_mono hid_sub dy).dp, h1, h2, k _ H (Same.refl H) (.bl _)⟩
theorem opd_ne : OpD X (rNeD X.K) neD := by
  intro ph am H x y d e c Q hn dx dy q k
  obtain ⟨⟨h1, h2⟩, rfl⟩ := if_some q
  exact ⟨d, e, (dp_mono hid_sub dx).dp, (dp_mono hid_sub dy).dp, h1, h2, k _ H (Same.refl H) (.bl _)⟩
theorem de_eq (hu : X.A.units + 64 < cLine) (ha : DE X W e1 f) (hb : DE X W e2 g) : DE X W (.Compare e1 [.Eq] [e2] pos) (xBin eqD f g) := de_cmp opd_eq (op_eqD hu) (nomark _) ha hb
theorem de_ne (hu : X.A.units + 64 < cLine) (ha : DE X W e1 f) (hb : DE X W e2 g) : DE X W (.Compare e1 [.NotEq] [e2] pos) (xBin neD f g) := de_cmp opd_ne (op_neD hu) (nomark _) ha hb
def isNone : PyData → Bool
  | .none => true
  | _ => false
def isD (a b : PyData) : Option PyData := if isNone b = true then some (.bool (isNone a)) else none
def isnotD (a b : PyData) : Option PyData := if isNone b = true then some (.bool (!isNone a)) else none
theorem dq_none {v : V} {d : PyData} (h : Dq K H v d) : isNone d = decide (v = .non) := by cases h <;> rfl
theorem opd_is : OpD X (fun x y H Q => y = .non ∧ Q (.bl (decide (x = .non))) H) isD := by
  intro ph am H x y d e c Q hn dx dy q k
  obtain ⟨h1, rfl⟩ := if_some q
  refine ⟨?_, ?_⟩
  · rw [dq_none dy] at h1
    exact of_decide_eq_true h1
  · rw [dq_none dx] at k
    exact k _ H (Same.refl H) (.bl _)
theorem opd_isnot : OpD X (fun x y H Q => y = .non ∧ Q (.bl (!decide (x = .non))) H) isnotD := by
  intro ph am H x y d e c Q hn dx dy q k
  obtain ⟨h1, rfl⟩ := if_some q
  refine ⟨?_, ?_⟩
  · rw [dq_none dy] at h1
    exact of_decide_eq_true h1
  · rw [dq_none dx] at k
    exact k _ H (Same.refl H) (.bl _)
theorem de_is (ha : DE X W e1 f) (hb : DE X W e2 g) : DE X W (.Compare e1 [.Is] [e2] pos) (xBin isD f g) := de_cmp opd_is op_isN (nomark _) ha hb
theorem de_isnot (ha : DE X W e1 f) (hb : DE X W e2 g) : DE X W (.Compare e1 [.IsNot] [e2] pos) (xBin isnotD f g) := de_cmp opd_isnot op_notN (nomark _) ha hb
/-! ### signs -/
def negD : PyData → Option PyData
  | .int i => some (.int (-i))
  | _ => none
theorem und_neg : UnD X (rU fun i => .int (-i)) negD := by
  intro ph am H x d c Q hn dx q k
  cases dx with
  | int i =>
    cases q
    exact ⟨i, rfl, k _ H (Same.refl H) (.int _)⟩
  | _ => cases q
theorem de_neg (ha : DE X W e1 f) : DE X W (.UnaryOp .USub e1 pos) (xUn negD f) := de_un und_neg un_neg ha
/-! ### subscripts -/
def ixD : PyData → PyData → Option PyData
  | .list xs, .int i => atI xs i
  | .tuple xs, .int i => atI xs i
  | _, _ => none
theorem atI_get {vs : List V} {ds : List PyData} {i : Int} {d : PyData} (h : DqAll K H vs ds) (e : atI ds i = some d) : ∃ v, atI vs i = some v ∧ Dq K H v d := by
  unfold atI at e ⊢
  rw [h.length]
  cases hj : ixN ds.length i with
  | none => rw [hj] at e; cases e
  | some j =>
    rw [hj] at e
    exact h.get e
theorem de_ix (hs : PlainIx e2) (ha : DE X W e1 f) (hb : DE X W e2 g) : DE X W (.Subscript e1 e2 pos) (xBin ixD f g) :=
  bin_core (r := rIx X.K) (fun ph am H x y d e c Q hn dx dy q k => by
    cases dx with
    | lst h1 a1 =>
      cases dy with
      | int i =>
        obtain ⟨v, q1, q2⟩ := atI_get a1 q
        exact .inl ⟨_, _, i, v, rfl, rfl, rd_hid h1, q1, k _ H (Same.refl H) q2⟩
      | _ => cases q
    | tup h1 a1 =>
      cases dy with
      | int i =>
        obtain ⟨v, q1, q2⟩ := atI_get a1 q
        exact .inr (.inl ⟨_, _, i, v, rfl, rfl, seqT_hid h1, q1, k _ H (Same.refl H) q2⟩)
      | _ => cases q
    | _ => cases q) ha hb fun _ _ pa pb => pe_ix ix_seq pa pb hs
/-! ### calls -/
variable {t : TA} {p1 : Pos}
def lenD : List PyData → Option PyData
  | [.list xs] => some (.int xs.length)
  | [.tuple xs] => some (.int xs.length)
  | _ => none
theorem calld_len : CallD X (fun xs H Q => ∃ p ys, xs = [.ref p] ∧ (SqL X.K H p ys ∨ SqT X.K H p ys) ∧ Q (.int ys.length) H) lenD := by
  intro ph am H xs ds c Q hn dx q k
  cases dx with
  | nil => cases q
  | cons h t =>
    cases t with
    | cons _ _ => cases h <;> cases q
    | nil =>
      cases h with
      | lst h1 a1 => cases q; exact ⟨_, _, rfl, .inl (rd_hid h1), k _ H (Same.refl H) (by rw [← a1.length]; exact .int _)⟩
      | tup h1 a1 => cases q; exact ⟨_, _, rfl, .inr (seqT_hid h1), k _ H (Same.refl H) (by rw [← a1.length]; exact .int _)⟩
      | _ => cases q
def intD : List PyData → Option PyData
  | [.int i] => some (.int i)
  | [.bool k] => some (.int (if k then 1 else 0))
  | _ => none
theorem calld_int : CallD X (fun xs H Q => (∃ i, xs = [.int i] ∧ Q (.int i) H) ∨ ∃ k, xs = [.bl k] ∧ Q (.int (if k then 1 else 0)) H) intD := by
  intro ph am H xs ds c Q hn dx q k
  cases dx with
  | nil => cases q
  | cons h t =>
    cases t with
    | cons _ _ => cases h <;> cases q
    | nil =>
      cases h with
      | int i => cases q; exact .inl ⟨i, rfl, k _ H (Same.refl H) (.int _)⟩
      | bl b => cases q; exact .inr ⟨b, rfl, k _ H (Same.refl H) (.int _)⟩
      | _ => cases q
def absD : List PyData → Option PyData
  | [.int i] => some (.int (if i < 0 then -i else i))
  | _ => none
theorem calld_abs : CallD X (fun xs H Q => ∃ i, xs = [.int i] ∧ Q (.int (if i < 0 then -i else i)) H) absD := by
  intro ph am H xs ds c Q hn dx q k
  cases dx with
  | nil => cases q
  | cons h t =>
    cases t with
    | cons _ _ => cases h <;> cases q
    | nil =>
      cases h with
      | int i => cases q; exact ⟨i, rfl, k _ H (Same.refl H) (.int _)⟩
      | _ => cases q

/-- a built-in called by its name -/
theorem de_callB {id : String} {x : Str} {r : List V → Hp → VK → Prop} {F : List PyData → Option PyData} (hr : CallD X r F) (hc : CallR X (.builtin id) r) (hm : X.mg x = none) (hv : bootBuiltins x = some (.builtin id)) (h : DA X W (e :: es) fs)
    (hg : Gl X x := by rfl) (hn : x ≠ "__name__" := by decide) (hdb : (x == ("__debug__" : Str)) = false := by decide)
    (he : starEach (e :: es) X.env = (false, eval e X.env) :: starEach es X.env := by rfl) (hpl : (backTo pos (starEach es X.env)).any (·.1) = false := by rfl) : DE X W (.Call (.Name x p1) (e :: es) [] pos) (xCall F fs) :=
  call_core hr h fun t pa => pe_callB hc hg hm hv pa hn hdb he hpl
theorem de_callTy {T : String} {x : Str} {r : List V → Hp → VK → Prop} {F : List PyData → Option PyData} (hr : CallD X r F) (hc : CallR X (.type T) r) (hm : X.mg x = none) (hv : bootBuiltins x = some (.type T)) (h : DA X W (e :: es) fs)
    (hg : Gl X x := by rfl) (hn : x ≠ "__name__" := by decide) (hdb : (x == ("__debug__" : Str)) = false := by decide)
    (he : starEach (e :: es) X.env = (false, eval e X.env) :: starEach es X.env := by rfl) (hpl : (backTo pos (starEach es X.env)).any (·.1) = false := by rfl) : DE X W (.Call (.Name x p1) (e :: es) [] pos) (xCall F fs) :=
  call_core hr h fun t pa => pe_callTy hc hg hm hv pa hn hdb he hpl
theorem df_callTy {T : String} {x : Str} {r : List V → Hp → VK → Prop} {F : List PyData → Option (List PyData)} (hr : CallF X r F) (hc : CallR X (.type T) r) (hm : X.mg x = none) (hv : bootBuiltins x = some (.type T)) (h : DA X W (e :: es) fs)
    (hg : Gl X x := by rfl) (hn : x ≠ "__name__" := by decide) (hdb : (x == ("__debug__" : Str)) = false := by decide)
    (he : starEach (e :: es) X.env = (false, eval e X.env) :: starEach es X.env := by rfl) (hpl : (backTo pos (starEach es X.env)).any (·.1) = false := by rfl) : DF X W (.Call (.Name x p1) (e :: es) [] pos) (xCallF F fs) :=
  callF_core hr h fun t pa => pe_callTy hc hg hm hv pa hn hdb he hpl
/-! all, any, sum, tuple, list -/
def bools? : List PyData → Option (List Bool)
  | [] => some []
  | .bool b :: r => (bools? r).map (b :: ·)
  | _ :: _ => none
def ints? : List PyData → Option (List Int)
  | [] => some []
  | .int i :: r => (ints? r).map (i :: ·)
  | _ :: _ => none
theorem bools_vs : ∀ {vs : List V} {ds : List PyData} {bs : List Bool}, DqAll K H vs ds → bools? ds = some bs → vs = bs.map V.bl
  | _, _, _, .nil, h => by cases h; rfl
  | _, d :: r, bs, .cons hd t, h => by
    cases hd with
    | bl b =>
      unfold bools? at h
      cases hr : bools? r with
      | none => rw [hr] at h; cases h
      | some bs' =>
        rw [hr] at h
        cases h
        rw [bools_vs t hr]
        rfl
    | _ => cases h
theorem ints_vs : ∀ {vs : List V} {ds : List PyData} {bs : List Int}, DqAll K H vs ds → ints? ds = some bs → vs = bs.map V.int
  | _, _, _, .nil, h => by cases h; rfl
  | _, d :: r, bs, .cons hd t, h => by
    cases hd with
    | int b =>
      unfold ints? at h
      cases hr : ints? r with
      | none => rw [hr] at h; cases h
      | some bs' =>
        rw [hr] at h
        cases h
        rw [ints_vs t hr]
        rfl
    | _ => cases h
def allD : List PyData → Option PyData
  | [.list xs] => (bools? xs).map fun bs => .bool (bs.all id)
  | _ => none
def anyD : List PyData → Option PyData
  | [.list xs] => (bools? xs).map fun bs => .bool (bs.any id)
  | _ => none
def sumD : List PyData → Option PyData
  | [.list xs] => (ints? xs).map fun bs => .int bs.sum
  | _ => none
theorem one_list {F : List PyData → Option PyData} {R : List PyData → PyData → Prop} {r : List V → Hp → VK → Prop} (hF : ∀ ds c, F ds = some c → ∃ xs, ds = [.list xs] ∧ R xs c)
    (hr : ∀ a vs xs c H (ph : Fx) (am : Am) (Q : VK), SqL X.K H a vs → DqAll X.K (hid ph am H) vs xs → R xs c → (∀ v, Dq X.K (hid ph am H) v c → Q v H) → r [.ref a] H Q) : CallD X r F := by
  intro ph am H xs ds c Q hn dx q k
  obtain ⟨ys, rfl, h⟩ := hF ds c q
  cases dx with
  | cons h1 t =>
    cases t
    cases h1 with
    | lst h1 a1 => exact hr _ _ ys c H ph am Q (rd_hid h1) a1 h fun v dv => k v H (Same.refl H) dv
theorem calld_all : CallD X (rAll X.K) allD := one_list (R := fun xs c => ∃ bs, bools? xs = some bs ∧ c = .bool (bs.all id)) (fun ds c h => by
    unfold allD at h
    split at h
    · rename_i xs
      cases hb : bools? xs with
      | none => rw [hb] at h; cases h
      | some bs => rw [hb] at h; cases h; exact ⟨xs, rfl, bs, hb, rfl⟩
    · cases h) fun a vs xs c H ph am Q h1 a1 ⟨bs, hb, e⟩ k => by
      subst e
      have := bools_vs a1 hb
      subst this
      exact ⟨a, bs, rfl, h1, k _ (.bl _)⟩
theorem calld_any : CallD X (rAny X.K) anyD := one_list (R := fun xs c => ∃ bs, bools? xs = some bs ∧ c = .bool (bs.any id)) (fun ds c h => by
    unfold anyD at h
    split at h
    · rename_i xs
      cases hb : bools? xs with
      | none => rw [hb] at h; cases h
      | some bs => rw [hb] at h; cases h; exact ⟨xs, rfl, bs, hb, rfl⟩
    · cases h) fun a vs xs c H ph am Q h1 a1 ⟨bs, hb, e⟩ k => by
      subst e
      have := bools_vs a1 hb
      subst this
      exact ⟨a, bs, rfl, h1, k _ (.bl _)⟩
theorem calld_sum : CallD X (rSum X.K) sumD := one_list (R := fun xs c => ∃ bs, ints? xs = some bs ∧ c = .int bs.sum) (fun ds c h => by
    unfold sumD at h
    split at h
    · rename_i xs
      cases hb : ints? xs with
      | none => rw [hb] at h; cases h
      | some bs => rw [hb] at h; cases h; exact ⟨xs, rfl, bs, hb, rfl⟩
    · cases h) fun a vs xs c H ph am Q h1 a1 ⟨bs, hb, e⟩ k => by
      subst e
      have := ints_vs a1 hb
      subst this
      exact ⟨a, bs, rfl, h1, k _ (.int _)⟩
def tupleD : List PyData → Option PyData
  | [.list xs] => some (.tuple xs)
  | [.tuple xs] => some (.tuple xs)
  | _ => none
theorem calld_tuple : CallD X (fun xs H Q => ∃ p ys, xs = [.ref p] ∧ ((SqL X.K H p ys ∧ ∀ l, H l = none → Q (.ref l) (upd H l (.tup ys))) ∨ (SqT X.K H p ys ∧ Q (.ref p) H))) tupleD := by
  intro ph am H xs ds c Q hn dx q k
  cases dx with
  | nil => cases q
  | cons h t =>
    cases t with
    | cons _ _ => cases h <;> cases q
    | nil =>
      cases h with
      | lst h1 a1 => cases q; exact ⟨_, _, rfl, .inl ⟨rd_hid h1, fun l nl => k _ _ (same_new nl) (new_tup hn nl a1)⟩⟩
      | tup h1 a1 => cases q; exact ⟨_, _, rfl, .inr ⟨seqT_hid h1, k _ H (Same.refl H) (.tup h1 a1)⟩⟩
      | _ => cases q
def listD : List PyData → Option (List PyData)
  | [.list xs] => if xs.length ≤ sizeLine then some xs else none
  | [.tuple xs] => if xs.length ≤ sizeLine then some xs else none
  | _ => none
theorem callf_list : CallF X (fun xs H Q => ∃ p ys, xs = [.ref p] ∧ (SqL X.K H p ys ∨ SqT X.K H p ys) ∧ ∀ l, H l = none → Q (.ref l) (upd H l (.lst ys))) listD := by
  intro ph am H xs ds c Q hn dx q k
  cases dx with
  | nil => cases q
  | cons h t =>
    cases t with
    | cons _ _ => cases h <;> cases q
    | nil =>
      cases h with
      | lst h1 a1 =>
        obtain ⟨hz, rfl⟩ := if_some q
        exact ⟨_, _, rfl, .inl (rd_hid h1), fun l nl => k _ _ nl a1 (by rw [a1.length]; exact hz)⟩
      | tup h1 a1 =>
        obtain ⟨hz, rfl⟩ := if_some q
        exact ⟨_, _, rfl, .inr (seqT_hid h1), fun l nl => k _ _ nl a1 (by rw [a1.length]; exact hz)⟩
      | _ => cases q
/-! isinstance -/
def tyOfD : PyData → String
  | .none => "NoneType"
  | .bool _ => "bool"
  | .int _ => "int"
  | .str _ => "str"
  | .list _ => "list"
  | .tuple _ => "tuple"
  | .dict _ => "dict"
theorem tyx_of {v : V} {d : PyData} (h : Dq X.K (hid ph am H) v d) : TyX X.K H v (.type (tyOfD d)) := by
  cases h with
  | non => exact .base .non
  | bl b => exact .base (.bl b)
  | int i => exact .base (.int i)
  | str x => exact .base (.str x)
  | lst h1 _ =>
    rcases rd_hid h1 with (q | ⟨o, q⟩) | ⟨o, its, n, q, c, _⟩
    · exact .base (.lst q)
    · exact .base (.frz q)
    · exact .kList q c
  | tup h1 _ =>
    rcases seqT_hid h1 with (q | ⟨o, q⟩) | ⟨o, its, n, q, c, _⟩
    · exact .base (.tup q)
    · exact .fTuple q
    · exact .kTuple q c
end PD
end

section
set_option Elab.async false
set_option linter.all false
set_option maxRecDepth 100000
set_option maxHeartbeats 1000000
namespace PD
open PySem PySem.Spec PyProof.Rows L2
variable {X : Cx} {W : WX} {pos : Pos} {e e1 e2 e3 : Expr} {es : List Expr} {f g h : M PyData} {fs : M (List PyData)} {fb gb : M Bool}
variable {K : PySem.W.Frag} {ph : Fx} {am am' : Am} {H H' : Hp} {σ : L2.St} {δ δ' : Sg} {p p1 p2 : Addr}

/-! ### isinstance -/
def isSub (s T : String) : Bool := s == T || (s == "bool" && T == "int")
theorem kit_tab : ∀ s ∈ ["NoneType", "bool", "int", "str", "list", "tuple", "dict"], ∀ T ∈ ["int", "bool", "str", "list", "tuple"], kitB s T = some (isSub s T) := by decide +kernel
theorem tyOf_mem (d : PyData) : tyOfD d ∈ ["NoneType", "bool", "int", "str", "list", "tuple", "dict"] := by cases d <;> simp [tyOfD]
def isiD (Ts : List String) (d : PyData) : Option PyData := some (.bool (Ts.any (isSub (tyOfD d))))
theorem kit_any {t : String} (ht : t ∈ ["NoneType", "bool", "int", "str", "list", "tuple", "dict"]) : ∀ {Ts : List String}, (∀ T ∈ Ts, T ∈ ["int", "bool", "str", "list", "tuple"]) → PySem.W.kitAny K (.type t) (Ts.map .type) = some (Ts.any (isSub t))
  | [], _ => rfl
  | T :: Ts, hT => by
    have h1 := kit_tab t ht T (hT T (by simp))
    refine kitAny_cons (b := isSub t T) (kit_ty h1) (fun e => ?_) (fun e => ?_)
    · rw [kit_any ht fun T h => hT T (by simp [h])]
      simp [e]
    · simp [e]
variable {pf pt pT : Pos}
theorem de_isi1 {T : Str} (Tn : String) (hT : Tn ∈ ["int", "bool", "str", "list", "tuple"]) (hm : X.mg "isinstance" = none) (hmT : X.mg T = none) (hv : bootBuiltins T = some (.type Tn)) (he : DE X W e f)
    (hg : Gl X "isinstance" := by rfl) (hgT : Gl X T := by rfl) (hn : T ≠ "__name__" := by decide) (hd : (T == ("__debug__" : Str)) = false := by decide)
    (hs1 : starEach [.Name T pT] X.env = (false, eval (.Name T pT) X.env) :: starEach [] X.env := by rfl)
    (hs : starEach [e, .Name T pT] X.env = (false, eval e X.env) :: starEach [.Name T pT] X.env := by rfl) (hpl : (backTo pos (starEach [.Name T pT] X.env)).any (·.1) = false := by rfl) :
    DE X W (.Call (.Name "isinstance" pf) [e, .Name T pT] [] pos) (xUn (isiD [Tn]) f) := by
  obtain ⟨ta, pa, qa⟩ := he.ex
  refine ⟨⟨_, pe_callB call_isi hg hm boot_isinstance (pa_cons pa (pa_cons (pe_bltn (v := .ty Tn) hgT hmT hv rfl hn hd) pa_nil hs1) hs) (by decide) (by decide) hs hpl, fun ph am σ H δ Q ans δ' s q k kx => ?_⟩⟩
  rcases bnd_some q with ⟨a, δ1, e1, q1⟩ | ⟨c, fs, e1, q1⟩
  · refine qa ph am σ H δ _ _ _ s e1 (fun d ed am1 x H1 st1 s1 d1 => ?_) (fun c fs z => by cases z)
    cases ed
    obtain ⟨z, e3, rfl, rfl⟩ := lif_some q1
    cases e3
    refine ⟨x, .ty Tn, .type (tyOfD a), .type Tn, isSub (tyOfD a) Tn, rfl, .ty Tn, tyx_of d1, kit_ty (kit_tab _ (tyOf_mem a) _ hT), k _ rfl am1 _ H1 st1 s1 ?_⟩
    have : [Tn].any (isSub (tyOfD a)) = isSub (tyOfD a) Tn := by simp
    rw [this]
    exact .bl _
  · subst q1
    exact qa ph am σ H δ _ _ _ s e1 (fun d ed => by cases ed) (fun c' fs' z => by cases z; exact kx _ _ rfl)
/-- isinstance(x, (S, T)) -/
theorem de_isi2 {S T : Str} {kk : Nat} {pS pT2 : Pos} (Sn Tn : String) (hS : Sn ∈ ["int", "bool", "str", "list", "tuple"]) (hT : Tn ∈ ["int", "bool", "str", "list", "tuple"]) (hm : X.mg "isinstance" = none) (hmS : X.mg S = none) (hvS : bootBuiltins S = some (.type Sn)) (hmT : X.mg T = none) (hv : bootBuiltins T = some (.type Tn)) (he : DE X W e f)
    (hg : Gl X "isinstance" := by rfl) (hgS : Gl X S := by rfl) (hnS : S ≠ "__name__" := by decide) (hdS : (S == ("__debug__" : Str)) = false := by decide) (hgT : Gl X T := by rfl) (hn : T ≠ "__name__" := by decide) (hd : (T == ("__debug__" : Str)) = false := by decide)
    (hs0 : starEach [.Name T pT] X.env = (false, eval (.Name T pT) X.env) :: starEach [] X.env := by rfl)
    (hs2 : starEach [.Name S pS, .Name T pT] X.env = (false, eval (.Name S pS) X.env) :: starEach [.Name T pT] X.env := by rfl)
    (hs1 : starEach [.Tuple [.Name S pS, .Name T pT] kk pT2] X.env = (false, eval (.Tuple [.Name S pS, .Name T pT] kk pT2) X.env) :: starEach [] X.env := by rfl)
    (hs : starEach [e, .Tuple [.Name S pS, .Name T pT] kk pT2] X.env = (false, eval e X.env) :: starEach [.Tuple [.Name S pS, .Name T pT] kk pT2] X.env := by rfl) (hpl : (backTo pos (starEach [.Tuple [.Name S pS, .Name T pT] kk pT2] X.env)).any (·.1) = false := by rfl) :
    DE X W (.Call (.Name "isinstance" pf) [e, .Tuple [.Name S pS, .Name T pT] kk pT2] [] pos) (xUn (isiD [Sn, Tn]) f) := by
  obtain ⟨ta, pa, qa⟩ := he.ex
  refine ⟨⟨_, pe_callB call_isiT hg hm boot_isinstance (pa_cons pa (pa_cons (pe_tup (pa_cons (pe_bltn (v := .ty Sn) hgS hmS hvS rfl hnS hdS) (pa_cons (pe_bltn (v := .ty Tn) hgT hmT hv rfl hn hd) pa_nil hs0) hs2)) pa_nil hs1) hs) (by decide) (by decide) hs hpl, fun ph am σ H δ Q ans δ' s q k kx => ?_⟩⟩
  rcases bnd_some q with ⟨a, δ1, e1, q1⟩ | ⟨c, fs, e1, q1⟩
  · refine qa ph am σ H δ _ _ _ s e1 (fun d ed am1 x H1 st1 s1 d1 => ?_) (fun c fs z => by cases z)
    cases ed
    obtain ⟨z, e3, rfl, rfl⟩ := lif_some q1
    cases e3
    refine ⟨by show 2 ≤ sizeLine; decide, fun p np => ?_⟩
    have sm : Same H1 (upd H1 p (.tup [.ty Sn, .ty Tn])) := same_new np
    refine ⟨x, p, [.ty Sn, .ty Tn], .type (tyOfD a), [.type Sn, .type Tn], [Sn, Tn].any (isSub (tyOfD a)), rfl, upd_same, .cons (.ty Sn) (.cons (.ty Tn) .nil), tyx_of (dp_mono (hid_same sm) d1), kit_any (K := X.K) (Ts := [Sn, Tn]) (tyOf_mem a) (fun T h => ?_), k _ rfl am1 _ _ (st1.trans (Step.of sm)) (s1.same sm) (.bl _)⟩
    simp only [List.mem_cons, List.not_mem_nil, or_false] at h
    rcases h with rfl | rfl
    · exact hS
    · exact hT
  · subst q1
    exact qa ph am σ H δ _ _ _ s e1 (fun d ed => by cases ed) (fun c' fs' z => by cases z; exact kx _ _ rfl)

/-! ### tests -/
def truthD : PyData → Option Bool
  | .none => some false
  | .bool b => some b
  | .int i => some (i != 0)
  | .str x => if x.length ≤ sizeLine then some ((x.length : Int) != 0) else none
  | .list xs => some (!xs.isEmpty)
  | .tuple xs => some (!xs.isEmpty)
  | _ => none
theorem tru_of {v : V} {d : PyData} {b : Bool} (h : Dq X.K (hid ph am H) v d) (e : truthD d = some b) : TruV X.K v H b := by
  cases h with
  | non => cases e; rfl
  | bl b => cases e; rfl
  | int i => cases e; rfl
  | str x => obtain ⟨h1, rfl⟩ := if_some e; exact ⟨h1, rfl⟩
  | lst h1 a1 =>
    cases e
    refine .inl ⟨_, rd_hid h1, ?_⟩
    cases a1 <;> rfl
  | tup h1 a1 =>
    cases e
    refine .inr (.inl ⟨_, seqT_hid h1, ?_⟩)
    cases a1 <;> rfl
def boolD : PyData → Option Bool
  | .bool b => some b
  | _ => none
def xTru (f : M PyData) : M Bool := bnd f fun d => lif (truthD d)
def xBool (f : M PyData) : M Bool := bnd f fun d => lif (boolD d)
theorem dt_tru (ha : DE X W e f) (he : ∀ whole, isTrue e X.env whole = (do let v ← whole; standAt e.pos; holding [v] (truthy v)) := by intro _; rfl) : DT X W e (xTru f) := by
  obtain ⟨ta, pa, qa⟩ := ha.ex
  refine ⟨⟨_, pt_truth pa he, fun ph am σ H δ Q ans δ' s q k kx => ?_⟩⟩
  rcases bnd_some q with ⟨a, δ1, e1, q1⟩ | ⟨c, fs, e1, q1⟩
  · refine qa ph am σ H δ _ _ _ s e1 (fun d ed am1 x H1 st1 s1 d1 => ?_) (fun c fs z => by cases z)
    cases ed
    obtain ⟨z, e3, rfl, rfl⟩ := lif_some q1
    exact ⟨z, tru_of d1 e3, k _ rfl am1 H1 st1 s1⟩
  · subst q1
    exact qa ph am σ H δ _ _ _ s e1 (fun d ed => by cases ed) (fun c' fs' z => by cases z; exact kx _ _ rfl)
theorem bool_read {t : TE} (qa : ReadE X W t f) : ReadT X W (tTest t) (xBool f) := by
  intro ph am σ H δ Q ans δ' s q k kx
  rcases bnd_some q with ⟨a, δ1, e1, q1⟩ | ⟨c, fs, e1, q1⟩
  · refine qa ph am σ H δ _ _ _ s e1 (fun d ed am1 x H1 st1 s1 d1 => ?_) (fun c fs z => by cases z)
    cases ed
    obtain ⟨z, e3, rfl, rfl⟩ := lif_some q1
    cases d1 with
    | bl b => cases e3; exact ⟨_, rfl, k _ rfl am1 H1 st1 s1⟩
    | _ => cases e3
  · subst q1
    exact qa ph am σ H δ _ _ _ s e1 (fun d ed => by cases ed) (fun c' fs' z => by cases z; exact kx _ _ rfl)
theorem dt_cmp {op : CmpOp} {r : R2} {F : PyData → PyData → Option PyData} (hr : OpD X r F) (ho : OpR X (compareOp op) r) (hm : behindInMarks op e2 = false) (ha : DE X W e1 f) (hb : DE X W e2 g) : DT X W (.Compare e1 [op] [e2] pos) (xBool (xBin F f g)) := by
  obtain ⟨ta, pa, qa⟩ := ha.ex
  obtain ⟨tb, pb, qb⟩ := hb.ex
  exact ⟨⟨_, pt_cmpR ho pa pb hm, bool_read (bin_read hr qa qb)⟩⟩
theorem dt_lt (ha : DE X W e1 f) (hb : DE X W e2 g) : DT X W (.Compare e1 [.Lt] [e2] pos) (xBool (xBin ltD f g)) := dt_cmp opd_lt op_lt (nomark _) ha hb
theorem dt_le (ha : DE X W e1 f) (hb : DE X W e2 g) : DT X W (.Compare e1 [.LtE] [e2] pos) (xBool (xBin leD f g)) := dt_cmp opd_le op_le (nomark _) ha hb
theorem dt_gt (ha : DE X W e1 f) (hb : DE X W e2 g) : DT X W (.Compare e1 [.Gt] [e2] pos) (xBool (xBin gtD f g)) := dt_cmp opd_gt op_gt (nomark _) ha hb
theorem dt_ge (ha : DE X W e1 f) (hb : DE X W e2 g) : DT X W (.Compare e1 [.GtE] [e2] pos) (xBool (xBin geD f g)) := dt_cmp opd_ge op_ge (nomark _) ha hb
theorem dt_eq (hu : X.A.units + 64 < cLine) (ha : DE X W e1 f) (hb : DE X W e2 g) : DT X W (.Compare e1 [.Eq] [e2] pos) (xBool (xBin eqD f g)) := dt_cmp opd_eq (op_eqD hu) (nomark _) ha hb
theorem dt_ne (hu : X.A.units + 64 < cLine) (ha : DE X W e1 f) (hb : DE X W e2 g) : DT X W (.Compare e1 [.NotEq] [e2] pos) (xBool (xBin neD f g)) := dt_cmp opd_ne (op_neD hu) (nomark _) ha hb
theorem dt_is (ha : DE X W e1 f) (hb : DE X W e2 g) : DT X W (.Compare e1 [.Is] [e2] pos) (xBool (xBin isD f g)) := dt_cmp opd_is op_isN (nomark _) ha hb
theorem dt_isnot (ha : DE X W e1 f) (hb : DE X W e2 g) : DT X W (.Compare e1 [.IsNot] [e2] pos) (xBool (xBin isnotD f g)) := dt_cmp opd_isnot op_notN (nomark _) ha hb
/-- a < b < c -/
def xChain (F G : PyData → PyData → Option PyData) (f g h : M PyData) : M PyData := bnd f fun a => bnd g fun b => bnd (lif (F a b)) fun z => match z with
  | .bool true => bnd h fun c => lif (G b c)
  | .bool false => ret (.bool false)
  | _ => lif none
theorem chain_read {ta tb tc : TE} {r r' : R2} {F G : PyData → PyData → Option PyData} (hr : OpD X r F) (hr' : OpD X r' G) (qa : ReadE X W ta f) (qb : ReadE X W tb g) (qc : ReadE X W tc h) : ReadE X W (tChain r r' ta tb tc) (xChain F G f g h) := by
  intro ph am σ H δ Q ans δ' s q k kx
  rcases bnd_some q with ⟨a, δ1, e1, q1⟩ | ⟨c, fs, e1, q1⟩
  · refine qa ph am σ H δ _ _ _ s e1 (fun d ed am1 x H1 st1 s1 d1 => ?_) (fun c fs z => by cases z)
    cases ed
    rcases bnd_some q1 with ⟨b, δ2, e2, q2⟩ | ⟨c, fs, e2, q2⟩
    · refine qb ph am1 σ H1 δ1 _ _ _ s1 e2 (fun d ed am2 y H2 st2 s2 d2 => ?_) (fun c fs z => by cases z)
      cases ed
      rcases bnd_some q2 with ⟨z, δ3, e3, q3⟩ | ⟨c, fs, e3, q3⟩
      · obtain ⟨z', e4, e5, e6⟩ := lif_some e3
        cases e5
        subst e6
        refine hr ph am2 H2 x y a b z _ (fun b h => s2.hidden h) (dp_mono st2.hid d1) d2 e4 fun v H3 sm dv => ?_
        have st3 := (st1.trans st2).trans (Step.of (am := am2) sm)
        have s3 := s2.same sm
        cases dv with
        | bl kb =>
          cases kb with
          | false =>
            cases q3
            exact ⟨false, rfl, iteF (k _ rfl am2 _ H3 st3 s3 (.bl false))⟩
          | true =>
            refine ⟨true, rfl, iteT ?_⟩
            simp only at q3
            rcases bnd_some q3 with ⟨c, δ4, e7, q4⟩ | ⟨c, fs, e7, q4⟩
            · refine qc ph am2 σ H3 _ _ _ _ s3 e7 (fun d ed am4 w H4 st4 s4 d4 => ?_) (fun c fs z => by cases z)
              cases ed
              obtain ⟨z2, e8, rfl, rfl⟩ := lif_some q4
              refine hr' ph am4 H4 y w b c z2 _ (fun b h => s4.hidden h) (dp_mono st4.hid (dp_mono (hid_same sm) d2)) d4 e8 fun v H5 sm5 dv5 => ?_
              exact k _ rfl am4 v H5 ((st3.trans st4).trans (Step.of sm5)) (s4.same sm5) dv5
            · subst q4
              exact qc ph am2 σ H3 _ _ _ _ s3 e7 (fun d ed => by cases ed) (fun c' fs' z => by cases z; exact (kx _ _ rfl).step st3)
        | _ => cases q3
      · obtain ⟨_, _, z, _⟩ := lif_some e3
        cases z
    · subst q2
      exact qb ph am1 σ H1 δ1 _ _ _ s1 e2 (fun d ed => by cases ed) (fun c' fs' z => by cases z; exact (kx _ _ rfl).step st1)
  · subst q1
    exact qa ph am σ H δ _ _ _ s e1 (fun d ed => by cases ed) (fun c' fs' z => by cases z; exact kx _ _ rfl)
theorem de_chain {op op' : CmpOp} {r r' : R2} {F G : PyData → PyData → Option PyData} (hr : OpD X r F) (hr' : OpD X r' G) (ho : OpR X (compareOp op) r) (ho' : OpR X (compareOp op') r') (ha : DE X W e1 f) (hb : DE X W e2 g) (hc : DE X W e3 h)
    (hm : lastMarks [op, op'] [e2, e3] = false := by with_unfolding_all rfl) : DE X W (.Compare e1 [op, op'] [e2, e3] pos) (xChain F G f g h) := by
  obtain ⟨ta, pa, qa⟩ := ha.ex
  obtain ⟨tb, pb, qb⟩ := hb.ex
  obtain ⟨tc, pc, qc⟩ := hc.ex
  exact ⟨⟨_, pe_chain ho ho' pa pb pc hm, chain_read hr hr' qa qb qc⟩⟩
theorem dt_chain {op op' : CmpOp} {r r' : R2} {F G : PyData → PyData → Option PyData} (hr : OpD X r F) (hr' : OpD X r' G) (ho : OpR X (compareOp op) r) (ho' : OpR X (compareOp op') r') (ha : DE X W e1 f) (hb : DE X W e2 g) (hc : DE X W e3 h)
    (hm : lastMarks [op, op'] [e2, e3] = false := by with_unfolding_all rfl) : DT X W (.Compare e1 [op, op'] [e2, e3] pos) (xBool (xChain F G f g h)) := by
  obtain ⟨ta, pa, qa⟩ := ha.ex
  obtain ⟨tb, pb, qb⟩ := hb.ex
  obtain ⟨tc, pc, qc⟩ := hc.ex
  exact ⟨⟨_, pt_chain ho ho' pa pb pc hm, bool_read (chain_read hr hr' qa qb qc)⟩⟩
/-! and, or, not as tests -/
def xAndT (fb gb : M Bool) : M Bool := bnd fb fun b => if b = true then gb else ret false
def xOrT (fb gb : M Bool) : M Bool := bnd fb fun b => if b = true then ret true else gb
def xNotT (fb : M Bool) : M Bool := bnd fb fun b => ret (!b)
theorem dw_and1 (ha : DT X W e1 fb) : DW X W (.BoolOp .And [e1] pos) fb := by
  obtain ⟨ta, pa, qa⟩ := ha.ex
  exact ⟨⟨_, pw_and1 pa, qa⟩⟩
theorem dw_or1 (ha : DT X W e1 fb) : DW X W (.BoolOp .Or [e1] pos) fb := by
  obtain ⟨ta, pa, qa⟩ := ha.ex
  exact ⟨⟨_, pw_or1 pa, qa⟩⟩
theorem dw_and (ha : DT X W e1 fb) (hb : DW X W (.BoolOp .And (e2 :: es) pos) gb) : DW X W (.BoolOp .And (e1 :: e2 :: es) pos) (xAndT fb gb) := by
  obtain ⟨ta, pa, qa⟩ := ha.ex
  obtain ⟨tb, pb, qb⟩ := hb.ex
  refine ⟨⟨_, pw_and pa pb, fun ph am σ H δ Q ans δ' s q k kx => ?_⟩⟩
  rcases bnd_some q with ⟨a, δ1, e1, q1⟩ | ⟨c, fs, e1, q1⟩
  · refine qa ph am σ H δ _ _ _ s e1 (fun d ed am1 H1 st1 s1 => ?_) (fun c fs z => by cases z)
    cases ed
    cases a with
    | true =>
      rw [if_pos rfl] at q1
      exact iteT (qb ph am1 σ H1 δ1 _ _ _ s1 q1 (fun d ed am2 H2 st2 s2 => k d ed am2 H2 (st1.trans st2) s2) fun c fs z => (kx c fs z).step st1)
    | false =>
      rw [if_neg Bool.false_ne_true] at q1
      cases q1
      exact iteF (k _ rfl am1 H1 st1 s1)
  · subst q1
    exact qa ph am σ H δ _ _ _ s e1 (fun d ed => by cases ed) (fun c' fs' z => by cases z; exact kx _ _ rfl)
theorem dw_or (ha : DT X W e1 fb) (hb : DW X W (.BoolOp .Or (e2 :: es) pos) gb) : DW X W (.BoolOp .Or (e1 :: e2 :: es) pos) (xOrT fb gb) := by
  obtain ⟨ta, pa, qa⟩ := ha.ex
  obtain ⟨tb, pb, qb⟩ := hb.ex
  refine ⟨⟨_, pw_or pa pb, fun ph am σ H δ Q ans δ' s q k kx => ?_⟩⟩
  rcases bnd_some q with ⟨a, δ1, e1, q1⟩ | ⟨c, fs, e1, q1⟩
  · refine qa ph am σ H δ _ _ _ s e1 (fun d ed am1 H1 st1 s1 => ?_) (fun c fs z => by cases z)
    cases ed
    cases a with
    | true =>
      rw [if_pos rfl] at q1
      cases q1
      exact iteT (k _ rfl am1 H1 st1 s1)
    | false =>
      rw [if_neg Bool.false_ne_true] at q1
      exact iteF (qb ph am1 σ H1 δ1 _ _ _ s1 q1 (fun d ed am2 H2 st2 s2 => k d ed am2 H2 (st1.trans st2) s2) fun c fs z => (kx c fs z).step st1)
  · subst q1
    exact qa ph am σ H δ _ _ _ s e1 (fun d ed => by cases ed) (fun c' fs' z => by cases z; exact kx _ _ rfl)
theorem dt_w (ha : DW X W e fb) : DT X W e fb := by
  obtain ⟨ta, pa, qa⟩ := ha.ex
  exact ⟨⟨_, pa.pt, qa⟩⟩
theorem dt_not (ha : DT X W e fb) : DT X W (.UnaryOp .Not e pos) (xNotT fb) := by
  obtain ⟨ta, pa, qa⟩ := ha.ex
  refine ⟨⟨_, pt_not pa, fun ph am σ H δ Q ans δ' s q k kx => ?_⟩⟩
  rcases bnd_some q with ⟨a, δ1, e1, q1⟩ | ⟨c, fs, e1, q1⟩
  · refine qa ph am σ H δ _ _ _ s e1 (fun d ed am1 H1 st1 s1 => ?_) (fun c fs z => by cases z)
    cases ed
    cases q1
    exact k _ rfl am1 H1 st1 s1
  · subst q1
    exact qa ph am σ H δ _ _ _ s e1 (fun d ed => by cases ed) (fun c' fs' z => by cases z; exact kx _ _ rfl)
/-! and, or, not as values: all but the last True or False -/
def xAnd (f g : M PyData) : M PyData := bnd f fun d => match d with
  | .bool true => g
  | .bool false => ret (.bool false)
  | _ => lif none
def xOr (f g : M PyData) : M PyData := bnd f fun d => match d with
  | .bool true => ret (.bool true)
  | .bool false => g
  | _ => lif none
def xNot (f : M PyData) : M PyData := bnd f fun d => match d with
  | .bool b => ret (.bool (!b))
  | _ => lif none
theorem de_one {op} (ha : DE X W e f) : DE X W (.BoolOp op [e] pos) f := by
  obtain ⟨ta, pa, qa⟩ := ha.ex
  exact ⟨⟨_, pe_one pa, qa⟩⟩
theorem lif_none {α : Type} {ans : Ans α} (h : lif (none : Option α) δ = some (ans, δ')) : False := by cases h
theorem de_and (ha : DE X W e1 f) (hb : DE X W (.BoolOp .And (e2 :: es) pos) g) : DE X W (.BoolOp .And (e1 :: e2 :: es) pos) (xAnd f g) := by
  obtain ⟨ta, pa, qa⟩ := ha.ex
  obtain ⟨tb, pb, qb⟩ := hb.ex
  refine ⟨⟨_, pe_and pa pb, fun ph am σ H δ Q ans δ' s q k kx => ?_⟩⟩
  rcases bnd_some q with ⟨a, δ1, e1, q1⟩ | ⟨c, fs, e1, q1⟩
  · refine qa ph am σ H δ _ _ _ s e1 (fun d ed am1 x H1 st1 s1 d1 => ?_) (fun c fs z => by cases z)
    cases ed
    cases d1 with
    | bl b =>
      cases b with
      | true => exact ⟨true, rfl, iteT (qb ph am1 σ H1 δ1 _ _ _ s1 q1 (fun d ed am2 v H2 st2 s2 d2 => k d ed am2 v H2 (st1.trans st2) s2 d2) fun c fs z => (kx c fs z).step st1)⟩
      | false =>
        cases q1
        exact ⟨false, rfl, iteF (k _ rfl am1 _ H1 st1 s1 (.bl false))⟩
    | _ => exact (lif_none q1).elim
  · subst q1
    exact qa ph am σ H δ _ _ _ s e1 (fun d ed => by cases ed) (fun c' fs' z => by cases z; exact kx _ _ rfl)
theorem de_or (ha : DE X W e1 f) (hb : DE X W (.BoolOp .Or (e2 :: es) pos) g) : DE X W (.BoolOp .Or (e1 :: e2 :: es) pos) (xOr f g) := by
  obtain ⟨ta, pa, qa⟩ := ha.ex
  obtain ⟨tb, pb, qb⟩ := hb.ex
  refine ⟨⟨_, pe_or pa pb, fun ph am σ H δ Q ans δ' s q k kx => ?_⟩⟩
  rcases bnd_some q with ⟨a, δ1, e1, q1⟩ | ⟨c, fs, e1, q1⟩
  · refine qa ph am σ H δ _ _ _ s e1 (fun d ed am1 x H1 st1 s1 d1 => ?_) (fun c fs z => by cases z)
    cases ed
    cases d1 with
    | bl b =>
      cases b with
      | false => exact ⟨false, rfl, iteF (qb ph am1 σ H1 δ1 _ _ _ s1 q1 (fun d ed am2 v H2 st2 s2 d2 => k d ed am2 v H2 (st1.trans st2) s2 d2) fun c fs z => (kx c fs z).step st1)⟩
      | true =>
        cases q1
        exact ⟨true, rfl, iteT (k _ rfl am1 _ H1 st1 s1 (.bl true))⟩
    | _ => exact (lif_none q1).elim
  · subst q1
    exact qa ph am σ H δ _ _ _ s e1 (fun d ed => by cases ed) (fun c' fs' z => by cases z; exact kx _ _ rfl)
theorem de_not (ha : DE X W e f) : DE X W (.UnaryOp .Not e pos) (xNot f) := by
  obtain ⟨ta, pa, qa⟩ := ha.ex
  refine ⟨⟨_, pe_not pa, fun ph am σ H δ Q ans δ' s q k kx => ?_⟩⟩
  rcases bnd_some q with ⟨a, δ1, e1, q1⟩ | ⟨c, fs, e1, q1⟩
  · refine qa ph am σ H δ _ _ _ s e1 (fun d ed am1 x H1 st1 s1 d1 => ?_) (fun c fs z => by cases z)
    cases ed
    cases d1 with
    | bl b => cases q1; exact ⟨b, rfl, k _ rfl am1 _ H1 st1 s1 (.bl _)⟩
    | _ => exact (lif_none q1).elim
  · subst q1
    exact qa ph am σ H δ _ _ _ s e1 (fun d ed => by cases ed) (fun c' fs' z => by cases z; exact kx _ _ rfl)
def xIf {α : Type} (fb : M Bool) (f g : M α) : M α := bnd fb fun b => if b = true then f else g
theorem de_if (hc : DT X W e3 fb) (ha : DE X W e1 f) (hb : DE X W e2 g) : DE X W (.IfExp e3 e1 e2 pos) (xIf fb f g) := by
  obtain ⟨tc, pc, qc⟩ := hc.ex
  obtain ⟨ta, pa, qa⟩ := ha.ex
  obtain ⟨tb, pb, qb⟩ := hb.ex
  refine ⟨⟨_, pe_ifExp pc pa pb, fun ph am σ H δ Q ans δ' s q k kx => ?_⟩⟩
  rcases bnd_some q with ⟨a, δ1, e1, q1⟩ | ⟨c, fs, e1, q1⟩
  · refine qc ph am σ H δ _ _ _ s e1 (fun d ed am1 H1 st1 s1 => ?_) (fun c fs z => by cases z)
    cases ed
    cases a with
    | true =>
      rw [if_pos rfl] at q1
      exact iteT (qa ph am1 σ H1 δ1 _ _ _ s1 q1 (fun d ed am2 v H2 st2 s2 d2 => k d ed am2 v H2 (st1.trans st2) s2 d2) fun c fs z => (kx c fs z).step st1)
    | false =>
      rw [if_neg Bool.false_ne_true] at q1
      exact iteF (qb ph am1 σ H1 δ1 _ _ _ s1 q1 (fun d ed am2 v H2 st2 s2 d2 => k d ed am2 v H2 (st1.trans st2) s2 d2) fun c fs z => (kx c fs z).step st1)
  · subst q1
    exact qc ph am σ H δ _ _ _ s e1 (fun d ed => by cases ed) (fun c' fs' z => by cases z; exact kx _ _ rfl)
end PD
end

section
set_option Elab.async false
set_option linter.all false
set_option maxRecDepth 100000
set_option maxHeartbeats 1000000
namespace PD
open PySem PySem.Spec PyProof.Rows L2
variable {X : Cx} {W : WX} {pos : Pos} {e e1 e2 e3 : Expr} {es : List Expr} {f g h : M PyData} {fs : M (List PyData)} {fb gb : M Bool}
variable {K : PySem.W.Frag} {ph : Fx} {am am' am1 : Am} {H H' H1 : Hp} {σ σ' : L2.St} {δ δ' δ1 : Sg} {a p p1 p2 : Addr} {v : V} {vs : List V} {d : PyData} {ds : List PyData} {i : Nat}

/-! ### slots -/
/-- a cell that may be stored anew -/
def Cell.free : Cell → Bool
  | .ow true _ => false
  | _ => true
theorem SR.nba (s : SR K ph am σ H δ) {c : Cell} (e : δ[i]? = some c) (hc : c.free = true) : ph.ba i = none := by
  cases hb : ph.ba i with
  | none => rfl
  | some a =>
    have h1 := s.bas i a hb
    obtain ⟨_, c', h2, co⟩ := s.amf i a h1
    rw [e] at h2
    cases h2
    cases c with
    | un => exact co.elim
    | fz d => exact co.elim
    | od o =>
      obtain ⟨_, _, _, _, _, _, h3⟩ := s.od i o e
      rw [h3] at hb
      cases hb
    | ow b ds =>
      cases b with
      | true => cases hc
      | false =>
        obtain ⟨_, _, _, _, _, _, _, h3⟩ := s.ow i false ds e
        rw [h3 rfl] at hb
        cases hb
theorem SR.put (s : SR K ph am σ H δ) {c : Cell} (e : δ[i]? = some c) (hc : c.free = true) (dv : Dq K (hid ph am H) v d) : SR K ph (amDrop am i) (σ.set i (some v)) H (δ.set i (.fz d)) := by
  have st : Step am H (amDrop am i) H := step_drop
  have hi : i < δ.length := (List.getElem?_eq_some_iff.mp e).1
  have hσ : i < σ.length := by rw [s.len]; exact hi
  refine ⟨by rw [List.length_set, List.length_set, s.len], fun j d' q => ?_, fun j b' ds' q => ?_, fun j a' q => ?_, fun j k a' q1 q2 => ?_, s.phs, fun j a' q => ?_, fun j o q => ?_⟩
  · by_cases hj : j = i
    · subst hj
      rw [List.getElem?_set_self hi] at q
      cases q
      exact ⟨v, List.getElem?_set_self hσ, dp_mono st.hid dv⟩
    · rw [List.getElem?_set_ne (Ne.symm hj)] at q
      obtain ⟨v', h1, h2⟩ := s.fz j d' q
      exact ⟨v', by rw [List.getElem?_set_ne (Ne.symm hj)]; exact h1, dp_mono st.hid h2⟩
  · by_cases hj : j = i
    · subst hj
      rw [List.getElem?_set_self hi] at q
      cases q
    · rw [List.getElem?_set_ne (Ne.symm hj)] at q
      obtain ⟨a2, vs2, h1, h2, h3, h4, h5, h6⟩ := s.ow j b' ds' q
      exact ⟨a2, vs2, amDrop_some.mpr ⟨hj, h1⟩, by rw [List.getElem?_set_ne (Ne.symm hj)]; exact h2, h3, dps_mono st.hid h4, h5, h6⟩
  · obtain ⟨n, q⟩ := amDrop_some.mp q
    obtain ⟨h1, c', h2, h3⟩ := s.amf j a' q
    exact ⟨h1, c', by rw [List.getElem?_set_ne (Ne.symm n)]; exact h2, h3⟩
  · exact s.inj j k a' (amDrop_some.mp q1).2 (amDrop_some.mp q2).2
  · refine amDrop_some.mpr ⟨fun z => ?_, s.bas j a' q⟩
    subst z
    rw [s.nba e hc] at q
    cases q
  · by_cases hj : j = i
    · subst hj
      rw [List.getElem?_set_self hi] at q
      cases q
    · rw [List.getElem?_set_ne (Ne.symm hj)] at q
      obtain ⟨a2, u, h1, h2, h3, h4, h5⟩ := s.od j o q
      exact ⟨a2, u, amDrop_some.mpr ⟨hj, h1⟩, by rw [List.getElem?_set_ne (Ne.symm hj)]; exact h2, h3, dor_mono st.hid h4, h5⟩
def amPut (am : Am) (i : Nat) (p : Addr) : Am := fun j => if j = i then some p else am j
theorem amPut_same : amPut am i p i = some p := by simp [amPut]
theorem amPut_ne {j : Nat} (h : j ≠ i) : amPut am i p j = am j := by simp [amPut, h]
theorem step_put (n : H p = none) : Step am H (amPut am i p) (upd H p (.lst vs)) :=
  ⟨fun b o h _ => same_new n b o h, fun j a h => by
    by_cases hj : j = i
    · subst hj
      rw [amPut_same] at h
      cases h
      exact .inr n
    · rw [amPut_ne hj] at h
      exact .inl ⟨j, h⟩, fun b o h => ⟨o, same_new n b o h⟩⟩
theorem SR.putOwn (s : SR K ph am σ H δ) {c : Cell} (e : δ[i]? = some c) (hc : c.free = true) (n : H p = none) (dv : DqAll K (hid ph am H) vs ds) (hz : vs.length ≤ sizeLine) :
    SR K ph (amPut am i p) (σ.set i (some (.ref p))) (upd H p (.lst vs)) (δ.set i (.ow false ds)) := by
  have st : Step am H (amPut am i p) (upd H p (.lst vs)) := step_put n
  have hi : i < δ.length := (List.getElem?_eq_some_iff.mp e).1
  have hσ : i < σ.length := by rw [s.len]; exact hi
  have np : ¬ Hid ph am p := s.new n
  refine ⟨by rw [List.length_set, List.length_set, s.len], fun j d' q => ?_, fun j b' ds' q => ?_, fun j a' q => ?_, fun j k a' q1 q2 => ?_, fun b hb => ?_, fun j a' q => ?_, fun j o q => ?_⟩
  · by_cases hj : j = i
    · subst hj
      rw [List.getElem?_set_self hi] at q
      cases q
    · rw [List.getElem?_set_ne (Ne.symm hj)] at q
      obtain ⟨v', h1, h2⟩ := s.fz j d' q
      exact ⟨v', by rw [List.getElem?_set_ne (Ne.symm hj)]; exact h1, dp_mono st.hid h2⟩
  · by_cases hj : j = i
    · subst hj
      rw [List.getElem?_set_self hi] at q
      cases q
      exact ⟨p, vs, amPut_same, List.getElem?_set_self hσ, upd_same, dps_mono st.hid dv, hz, fun _ => s.nba e hc⟩
    · rw [List.getElem?_set_ne (Ne.symm hj)] at q
      obtain ⟨a2, vs2, h1, h2, h3, h4, h5, h6⟩ := s.ow j b' ds' q
      exact ⟨a2, vs2, by rw [amPut_ne hj]; exact h1, by rw [List.getElem?_set_ne (Ne.symm hj)]; exact h2, same_new n _ _ h3, dps_mono st.hid h4, h5, h6⟩
  · by_cases hj : j = i
    · subst hj
      rw [amPut_same] at q
      cases q
      exact ⟨fun z => np (.inl z), _, List.getElem?_set_self hi, trivial⟩
    · rw [amPut_ne hj] at q
      obtain ⟨h1, c', h2, h3⟩ := s.amf j a' q
      exact ⟨h1, c', by rw [List.getElem?_set_ne (Ne.symm hj)]; exact h2, h3⟩
  · by_cases hj : j = i
    · by_cases hk : k = i
      · rw [hj, hk]
      · rw [hj, amPut_same] at q1
        cases q1
        rw [amPut_ne hk] at q2
        exact (np (.inr ⟨k, q2⟩)).elim
    · by_cases hk : k = i
      · rw [hk, amPut_same] at q2
        cases q2
        rw [amPut_ne hj] at q1
        exact (np (.inr ⟨j, q1⟩)).elim
      · rw [amPut_ne hj] at q1
        rw [amPut_ne hk] at q2
        exact s.inj j k a' q1 q2
  · obtain ⟨o, h1, m⟩ := s.phs b hb
    exact ⟨o, same_new n _ _ h1, m⟩
  · have hj : j ≠ i := fun z => by
      subst z
      rw [s.nba e hc] at q
      cases q
    rw [amPut_ne hj]
    exact s.bas j a' q
  · by_cases hj : j = i
    · subst hj
      rw [List.getElem?_set_self hi] at q
      cases q
    · rw [List.getElem?_set_ne (Ne.symm hj)] at q
      obtain ⟨a2, u, h1, h2, h3, h4, h5⟩ := s.od j o q
      exact ⟨a2, u, by rw [amPut_ne hj]; exact h1, by rw [List.getElem?_set_ne (Ne.symm hj)]; exact h2, same_new n _ _ h3, dor_mono st.hid h4, h5⟩
/-- a list of one's own is changed -/
theorem hid_own (h : am i = some a) {o : HO} : hid ph am (upd H a o) = hid ph am H := by
  funext b
  unfold hid
  by_cases hb : Hid ph am b
  · rw [if_pos hb, if_pos hb]
  · rw [if_neg hb, if_neg hb, upd_ne]
    intro z
    subst z
    exact hb (.inr ⟨i, h⟩)
theorem step_mut (h : am i = some a) {u : HO} (e : H a = some u) : Step am H am (upd H a (.lst vs)) :=
  ⟨fun b o q n => by rw [upd_ne (fun z => n i (by rw [z]; exact h))]; exact q, fun j b q => .inl ⟨j, q⟩, fun b o q => by
    by_cases z : b = a
    · subst z
      exact ⟨_, upd_same⟩
    · exact ⟨o, by rw [upd_ne z]; exact q⟩⟩
theorem SR.mut (s : SR K ph am σ H δ) {b : Bool} (e : δ[i]? = some (.ow b ds)) (h : am i = some a) {ds' : List PyData} {vs' : List V} (dv : DqAll K (hid ph am H) vs' ds') (hz : vs'.length ≤ sizeLine) :
    SR K ph am σ (upd H a (.lst vs')) (δ.set i (.ow b ds')) := by
  have hi : i < δ.length := (List.getElem?_eq_some_iff.mp e).1
  obtain ⟨a0, vs0, e1, e2, e3, e4, e5, e6⟩ := s.ow i b ds e
  rw [h] at e1
  cases e1
  have hh : ∀ o, hid ph am (upd H a o) = hid ph am H := fun o => hid_own h
  refine ⟨by rw [List.length_set, s.len], fun j d' q => ?_, fun j b' ds2 q => ?_, fun j a' q => ?_, s.inj, fun c hc => ?_, s.bas, fun j o q => ?_⟩
  · have hj : j ≠ i := fun z => by
      subst z
      rw [List.getElem?_set_self hi] at q
      cases q
    rw [List.getElem?_set_ne (Ne.symm hj)] at q
    rw [hh]
    exact s.fz j d' q
  · by_cases hj : j = i
    · subst hj
      rw [List.getElem?_set_self hi] at q
      cases q
      exact ⟨a, vs', h, e2, upd_same, by rw [hh]; exact dv, hz, e6⟩
    · rw [List.getElem?_set_ne (Ne.symm hj)] at q
      obtain ⟨a2, vs2, h1, h2, h3, h4, h5, h6⟩ := s.ow j b' ds2 q
      have na : a2 ≠ a := fun z => hj (s.inj j i a (by rw [← z]; exact h1) h)
      exact ⟨a2, vs2, h1, h2, by rw [upd_ne na]; exact h3, by rw [hh]; exact h4, h5, h6⟩
  · obtain ⟨h1, c2, h2, h3⟩ := s.amf j a' q
    by_cases hj : j = i
    · exact ⟨h1, .ow b ds', by rw [hj]; exact List.getElem?_set_self hi, trivial⟩
    · exact ⟨h1, c2, by rw [List.getElem?_set_ne (Ne.symm hj)]; exact h2, h3⟩
  · obtain ⟨o, h1, m⟩ := s.phs c hc
    have na : c ≠ a := fun z => (s.amf i a h).1 (by rw [← z]; exact hc)
    exact ⟨o, by rw [upd_ne na]; exact h1, m⟩
  · by_cases hj : j = i
    · subst hj
      rw [List.getElem?_set_self hi] at q
      cases q
    · rw [List.getElem?_set_ne (Ne.symm hj)] at q
      obtain ⟨a2, u, h1, h2, h3, h4, h5⟩ := s.od j o q
      have na : a2 ≠ a := fun z => hj (s.inj j i a (by rw [← z]; exact h1) h)
      exact ⟨a2, u, h1, h2, by rw [upd_ne na]; exact h3, by rw [hh]; exact h4, h5⟩

/-! ### canonical readings -/
theorem PE.weak {t t' : TE} (h : PE X e t) (w : ∀ σ H Q, t' σ H Q → t σ H Q) : PE X e t' := ⟨fun pins s σ H Q I q => h.run pins s σ H Q I (w σ H Q q)⟩
theorem PT.weak {t t' : TT} (h : PT X e t) (w : ∀ σ H Q, t' σ H Q → t σ H Q) : PT X e t' := ⟨fun pins s σ H Q I q => h.run pins s σ H Q I (w σ H Q q)⟩
def tOf (K : PySem.W.Frag) (mg : Str → Option Value) (W : WX) (f : M PyData) : TE := fun σ H Q => ∃ ph am δ ans δ', SR K ph am σ H δ ∧ f δ = some (ans, δ') ∧
  (∀ d, ans = .ok d → ∀ am' v H', Step am H am' H' → SR K ph am' σ H' δ' → Dq K (hid ph am' H') v d → Q v H') ∧ (∀ c fs, ans = .ex c fs → XPm K mg W ph am σ H δ' c fs)
def ttOf (K : PySem.W.Frag) (mg : Str → Option Value) (W : WX) (f : M Bool) : TT := fun σ H Q => ∃ ph am δ ans δ', SR K ph am σ H δ ∧ f δ = some (ans, δ') ∧
  (∀ b, ans = .ok b → ∀ am' H', Step am H am' H' → SR K ph am' σ H' δ' → Q b H') ∧ (∀ c fs, ans = .ex c fs → XPm K mg W ph am σ H δ' c fs)
theorem DE.can (d : DE X W e f) : PE X e (tOf X.K X.mg W f) := by
  obtain ⟨t, p, q⟩ := d.ex
  refine PE.weak p fun σ H Q ⟨ph, am, δ, ans, δ', s, e, k, kx⟩ => q ph am σ H δ Q ans δ' s e k kx
theorem DT.can (d : DT X W e fb) : PT X e (ttOf X.K X.mg W fb) := by
  obtain ⟨t, p, q⟩ := d.ex
  refine PT.weak p fun σ H Q ⟨ph, am, δ, ans, δ', s, e, k, kx⟩ => q ph am σ H δ Q ans δ' s e k kx

/-! ### targets -/
abbrev Tg := PyData → Sg → Option Sg
def ReadG (X : Cx) (t : TG) (s : Tg) : Prop := ∀ (ph : Fx) (am : Am) (σ : L2.St) (H : Hp) (δ δ' : Sg) (v : V) (d : PyData) (Q : L2.St → Hp → Prop), SR X.K ph am σ H δ → Dq X.K (hid ph am H) v d → s d δ = some δ' →
  (∀ am' σ', Step am H am' H → SR X.K ph am' σ' H δ' → Q σ' H) → t v σ H Q
structure DG (X : Cx) (tg : Expr) (s : Tg) : Prop where
  ex : ∃ t, PG X tg t ∧ ReadG X t s
def tgOf (K : PySem.W.Frag) (s : Tg) : TG := fun v σ H Q => ∃ ph am δ δ' d, SR K ph am σ H δ ∧ Dq K (hid ph am H) v d ∧ s d δ = some δ' ∧ (∀ am' σ', Step am H am' H → SR K ph am' σ' H δ' → Q σ' H)
theorem DG.can {tg : Expr} {s : Tg} (d : DG X tg s) : PG X tg (tgOf X.K s) := by
  obtain ⟨t, p, q⟩ := d.ex
  exact ⟨fun pins st σ H v u Q I r ⟨ph, am, δ, δ', dd, s1, s2, s3, k⟩ => p.run pins st σ H v u Q I r (q ph am σ H δ δ' v dd Q s1 s2 s3 k)⟩
def sName (i : Nat) : Tg := fun d δ => match δ[i]? with
  | some c => if c.free = true then some (δ.set i (.fz d)) else none
  | none => none
theorem sName_some {i : Nat} (h : sName i d δ = some δ') : ∃ c, δ[i]? = some c ∧ c.free = true ∧ δ' = δ.set i (.fz d) := by
  unfold sName at h
  split at h
  · rename_i c e
    obtain ⟨h1, rfl⟩ := if_some h
    exact ⟨c, e, h1, rfl⟩
  · cases h
theorem dg_name {i : Nat} {x : Str} (hN : X.N.Nodup) (hi : X.N[i]? = some x := by rfl) (hx : Loc X.env.scope x := by first | exact Or.inl rfl | exact Or.inr rfl) (hf : X.fn x = true ∨ X.env.scope.names.lookup x = some .local := by first | exact .inl rfl | exact .inr rfl) : DG X (.Name x pos) (sName i) :=
  ⟨⟨gName i, pg_name hN hi hx hf, fun ph am σ H δ δ' v d Q s dv q k => by
    obtain ⟨c, e1, e2, rfl⟩ := sName_some q
    exact k _ _ step_drop (s.put e1 e2 dv)⟩⟩
abbrev Tgs := List PyData → Sg → Option Sg
structure DGs (X : Cx) (ts : List Expr) (s : Tgs) : Prop where
  ex : ∃ t, PGs X ts t ∧ ∀ (ph : Fx) (am : Am) (σ : L2.St) (H : Hp) (δ δ' : Sg) (vs : List V) (ds : List PyData) (Q : L2.St → Hp → Prop), SR X.K ph am σ H δ → DqAll X.K (hid ph am H) vs ds → s ds δ = some δ' →
    (∀ am' σ', Step am H am' H → SR X.K ph am' σ' H δ' → Q σ' H) → t vs σ H Q
def sNil : Tgs := fun ds δ => match ds with
  | [] => some δ
  | _ :: _ => none
def sCons (s : Tg) (r : Tgs) : Tgs := fun ds δ => match ds with
  | [] => none
  | d :: ds => match s d δ with
    | some δ1 => r ds δ1
    | none => none
theorem dgs_nil : DGs X [] sNil := ⟨⟨gNil, pgs_nil, fun ph am σ H δ δ' vs ds Q s dv q k => by
  cases dv with
  | nil => cases q; exact ⟨rfl, k am σ Step.refl s⟩
  | cons _ _ => cases q⟩⟩
theorem dgs_cons {tg : Expr} {ts : List Expr} {s : Tg} {r : Tgs} (h : DG X tg s) (t : DGs X ts r) (hs : (assignEach (tg :: ts) X.env).map (·.2) = assign tg X.env :: (assignEach ts X.env).map (·.2) := by rfl) : DGs X (tg :: ts) (sCons s r) := by
  obtain ⟨t1, p1, q1⟩ := h.ex
  obtain ⟨t2, p2, q2⟩ := t.ex
  refine ⟨⟨_, pgs_cons p1 p2 hs, fun ph am σ H δ δ' vs ds Q s dv q k => ?_⟩⟩
  cases dv with
  | nil => cases q
  | cons dv dt =>
    rename_i v vs d ds
    unfold sCons at q
    simp only at q
    split at q
    · rename_i δ1 e1
      refine ⟨v, vs, rfl, q1 ph am σ H δ δ1 v d _ s dv e1 fun am1 σ1 st1 s1 => ?_⟩
      exact q2 ph am1 σ1 H δ1 δ' vs ds Q s1 (dps_mono st1.hid dt) q fun am2 σ2 st2 s2 => k am2 σ2 (st1.trans st2) s2
    · cases q
def sTup (n : Nat) (r : Tgs) : Tg := fun d δ => match d with
  | .tuple ds => if ds.length = n then r ds δ else none
  | _ => none
theorem dg_tup {ts : List Expr} {k n : Nat} {r : Tgs} (hc : X.calm = true) (t : DGs X ts r) (hn : (assignEach ts X.env).length = n := by rfl) (hst : (assignEach ts X.env).findIdx? (·.1) = none := by rfl) : DG X (.Tuple ts k pos) (sTup n r) := by
  obtain ⟨t2, p2, q2⟩ := t.ex
  refine ⟨⟨_, pg_tup hc p2 hn hst, fun ph am σ H δ δ' v d Q s dv q k => ?_⟩⟩
  cases dv with
  | tup h1 a1 =>
    unfold sTup at q
    simp only at q
    split at q
    · rename_i hl
      exact ⟨_, _, rfl, seqT_hid h1, by rw [a1.length]; exact hl, q2 ph am σ H δ δ' _ _ Q s a1 q k⟩
    · cases q
  | _ => cases q
end PD
end

section
set_option Elab.async false
set_option linter.all false
set_option maxRecDepth 100000
set_option maxHeartbeats 1000000
namespace PD
open PySem PySem.Spec PyProof.Rows L2
variable {X : Cx} {W : WX} {pos : Pos} {e e1 e2 e3 : Expr} {es : List Expr} {f g h : M PyData} {fs : M (List PyData)} {fb gb : M Bool}
variable {K : PySem.W.Frag} {ph : Fx} {am am' am1 : Am} {H H' H1 : Hp} {σ σ' : L2.St} {δ δ' δ1 : Sg} {a p p1 p2 : Addr} {v : V} {vs : List V} {d : PyData} {ds : List PyData} {i : Nat}

inductive Flo where
  | nx | bk | ct
  | rt (d : PyData)
  | rf (ds : List PyData)
abbrev MS := M Flo
/-- what is wanted at an end -/
def EndOk (K : PySem.W.Frag) (ph : Fx) (am : Am) (H : Hp) (δ' : Sg) (D : Ends) : Flo → Prop
  | .nx => ∀ am' σ' H', Step am H am' H' → SR K ph am' σ' H' δ' → D.nx σ' H'
  | .bk => ∀ am' σ' H', Step am H am' H' → SR K ph am' σ' H' δ' → D.bk σ' H'
  | .ct => ∀ am' σ' H', Step am H am' H' → SR K ph am' σ' H' δ' → D.ct σ' H'
  | .rt d => ∀ am' σ' v H', Step am H am' H' → SR K ph am' σ' H' δ' → Dq K (hid ph am' H') v d → D.rt v H'
  | .rf ds => ∀ am' σ' p vs H', H p = none → H' p = none → Step am H am' H' → SR K ph am' σ' H' δ' → DqAll K (hid ph am' H') vs ds → vs.length ≤ sizeLine → D.rt (.ref p) (upd H' p (.lst vs))
theorem EndOk.step {D : Ends} {fl : Flo} (st : Step am H am1 H1) (k : EndOk K ph am H δ' D fl) : EndOk K ph am1 H1 δ' D fl := by
  cases fl with
  | nx => exact fun am' σ' H' s1 s2 => k am' σ' H' (st.trans s1) s2
  | bk => exact fun am' σ' H' s1 s2 => k am' σ' H' (st.trans s1) s2
  | ct => exact fun am' σ' H' s1 s2 => k am' σ' H' (st.trans s1) s2
  | rt d => exact fun am' σ' v H' s1 s2 => k am' σ' v H' (st.trans s1) s2
  | rf ds => exact fun am' σ' p vs H' n1 n2 s1 s2 => k am' σ' p vs H' (st.none n1) n2 (st.trans s1) s2
def ReadS (X : Cx) (W : WX) (t : TS) (g : MS) : Prop := ∀ (ph : Fx) (am : Am) (σ : L2.St) (H : Hp) (δ : Sg) (D : Ends) (ans : Ans Flo) (δ' : Sg), SR X.K ph am σ H δ → g δ = some (ans, δ') →
  (∀ fl, ans = .ok fl → EndOk X.K ph am H δ' D fl) → (∀ c fs, ans = .ex c fs → XPS X W ph am H δ' c fs) → t D σ H
structure DS (X : Cx) (W : WX) (st : Stmt) (g : MS) : Prop where
  ex : ∃ t, PS X st t ∧ ReadS X W t g
structure DSs (X : Cx) (W : WX) (st : List Stmt) (g : MS) : Prop where
  ex : ∃ t, PSs X st t ∧ ReadS X W t g
variable {st : Stmt} {sts : List Stmt} {gs hs : MS}
def sSkip : MS := ret .nx
def sSeq (g h : MS) : MS := fun δ => match g δ with
  | some (.ok .nx, δ1) => h δ1
  | r => r
theorem sSeq_some {g h : MS} {ans : Ans Flo} (q : sSeq g h δ = some (ans, δ')) : (∃ δ1, g δ = some (.ok .nx, δ1) ∧ h δ1 = some (ans, δ')) ∨ (g δ = some (ans, δ') ∧ ans ≠ .ok .nx) := by
  unfold sSeq at q
  split at q
  · rename_i δ1 e
    exact .inl ⟨δ1, e, q⟩
  · rename_i hne
    refine .inr ⟨q, fun z => ?_⟩
    subst z
    exact hne δ' q
theorem dss_nil : DSs X W [] sSkip := ⟨⟨tNext, pss_nil, fun ph am σ H δ D ans δ' s q k _ => by cases q; exact k _ rfl am σ H Step.refl s⟩⟩
theorem dss_one (h1 : DS X W st gs) : DSs X W [st] gs := by
  obtain ⟨t, p, q⟩ := h1.ex
  exact ⟨⟨t, pss_one p, q⟩⟩
theorem seq_read {t u : TS} (q1 : ReadS X W t gs) (q2 : ReadS X W u hs) : ReadS X W (tSeq t u) (sSeq gs hs) := by
  intro ph am σ H δ D ans δ' s q k kx
  rcases sSeq_some q with ⟨δ1, e1, e2⟩ | ⟨e1, ne⟩
  · refine q1 ph am σ H δ _ _ _ s e1 (fun fl z => ?_) (fun c fs z => by cases z)
    cases z
    intro am1 σ1 H1 st1 s1
    exact q2 ph am1 σ1 H1 δ1 D ans δ' s1 e2 (fun fl z => (k fl z).step st1) fun c fs z => (kx c fs z).step st1
  · refine q1 ph am σ H δ _ _ _ s e1 (fun fl z => ?_) kx
    subst z
    cases fl with
    | nx => exact (ne rfl).elim
    | bk => exact k _ rfl
    | ct => exact k _ rfl
    | rt d => exact k _ rfl
    | rf ds => exact k _ rfl
theorem dss_cons (h1 : DS X W st gs) (h2 : DSs X W sts hs) : DSs X W (st :: sts) (sSeq gs hs) := by
  obtain ⟨t1, p1, q1⟩ := h1.ex
  obtain ⟨t2, p2, q2⟩ := h2.ex
  exact ⟨⟨_, pss_cons p1 p2, seq_read q1 q2⟩⟩
/-! ### returns, expressions -/
def sRet (f : M PyData) : MS := bnd f fun d => ret (.rt d)
theorem ds_ret (he : DE X W e f) : DS X W (.Return (some e) pos) (sRet f) := by
  obtain ⟨t, p, q⟩ := he.ex
  refine ⟨⟨_, ps_ret p, fun ph am σ H δ D ans δ' s z k kx => ?_⟩⟩
  rcases bnd_some z with ⟨d, δ1, e1, e2⟩ | ⟨c, fs, e1, e2⟩
  · cases e2
    exact q ph am σ H δ _ _ _ s e1 (fun d ed am1 v H1 st1 s1 d1 => by cases ed; exact k _ rfl am1 σ v H1 st1 s1 d1) (fun c fs z => by cases z)
  · subst e2
    exact q ph am σ H δ _ _ _ s e1 (fun d ed => by cases ed) (fun c' fs' z => by cases z; exact (kx _ _ rfl).at)
def sRetF (f : M (List PyData)) : MS := bnd f fun d => ret (.rf d)
theorem ds_retF (he : DF X W e fs) : DS X W (.Return (some e) pos) (sRetF fs) := by
  obtain ⟨t, p, q⟩ := he.ex
  refine ⟨⟨_, ps_ret p, fun ph am σ H δ D ans δ' s z k kx => ?_⟩⟩
  rcases bnd_some z with ⟨d, δ1, e1, e2⟩ | ⟨c, fs, e1, e2⟩
  · cases e2
    exact q ph am σ H δ _ _ _ s e1 (fun d ed am1 p vs H1 n0 n1 st1 s1 d1 hz => by cases ed; exact k _ rfl am1 σ p vs H1 n0 n1 st1 s1 d1 hz) (fun c fs z => by cases z)
  · subst e2
    exact q ph am σ H δ _ _ _ s e1 (fun d ed => by cases ed) (fun c' fs' z => by cases z; exact (kx _ _ rfl).at)
theorem ds_retN : DS X W (.Return none pos) (ret (.rt .none)) := ⟨⟨tRetN, ps_retN, fun ph am σ H δ D ans δ' s z k kx => by
  cases z
  exact k _ rfl am σ .non H Step.refl s .non⟩⟩
def sDrop (f : M PyData) : MS := bnd f fun _ => ret .nx
theorem ds_expr (he : DE X W e f) (hs : swapsWith e none pos.line X.env = pure false := by rfl) : DS X W (.Expr e pos) (sDrop f) := by
  obtain ⟨t, p, q⟩ := he.ex
  refine ⟨⟨_, ps_expr p hs, fun ph am σ H δ D ans δ' s z k kx => ?_⟩⟩
  rcases bnd_some z with ⟨d, δ1, e1, e2⟩ | ⟨c, fs, e1, e2⟩
  · cases e2
    exact q ph am σ H δ _ _ _ s e1 (fun d ed am1 v H1 st1 s1 d1 => by cases ed; exact k _ rfl am1 σ H1 st1 s1) (fun c fs z => by cases z)
  · subst e2
    exact q ph am σ H δ _ _ _ s e1 (fun d ed => by cases ed) (fun c' fs' z => by cases z; exact (kx _ _ rfl).at)
theorem ds_pass : DS X W (.Pass pos) sSkip := ⟨⟨tNext, ps_pass, fun ph am σ H δ D ans δ' s q k _ => by cases q; exact k _ rfl am σ H Step.refl s⟩⟩
theorem ds_break : DS X W (.Break pos) (ret .bk) := ⟨⟨tBreak, ps_break, fun ph am σ H δ D ans δ' s q k _ => by cases q; exact k _ rfl am σ H Step.refl s⟩⟩
theorem ds_continue : DS X W (.Continue pos) (ret .ct) := ⟨⟨tCont, ps_continue, fun ph am σ H δ D ans δ' s q k _ => by cases q; exact k _ rfl am σ H Step.refl s⟩⟩
def sIf (c : M Bool) (g h : MS) : MS := bnd c fun b => if b = true then g else h
theorem ds_if {a b : List Stmt} (hc : DT X W e fb) (ha : DSs X W a gs) (hb : DSs X W b hs) : DS X W (.If e a b pos) (sIf fb gs hs) := by
  obtain ⟨tc, pc, qc⟩ := hc.ex
  obtain ⟨ta, pa, qa⟩ := ha.ex
  obtain ⟨tb, pb, qb⟩ := hb.ex
  refine ⟨⟨_, ps_if pc pa pb, fun ph am σ H δ D ans δ' s q k kx => ?_⟩⟩
  rcases bnd_some q with ⟨x, δ1, e1, q1⟩ | ⟨c, fs, e1, q1⟩
  · refine qc ph am σ H δ _ _ _ s e1 (fun d ed am1 H1 st1 s1 => ?_) (fun c fs z => by cases z)
    cases ed
    cases x with
    | true =>
      rw [if_pos rfl] at q1
      exact iteT (qa ph am1 σ H1 δ1 D _ _ s1 q1 (fun fl z => (k fl z).step st1) fun c fs z => (kx c fs z).step st1)
    | false =>
      rw [if_neg Bool.false_ne_true] at q1
      exact iteF (qb ph am1 σ H1 δ1 D _ _ s1 q1 (fun fl z => (k fl z).step st1) fun c fs z => (kx c fs z).step st1)
  · subst q1
    exact qc ph am σ H δ _ _ _ s e1 (fun d ed => by cases ed) (fun c' fs' z => by cases z; exact (kx _ _ rfl).at)
/-! ### stores -/
def sAsg (f : M PyData) (s : Tg) : MS := bnd f fun d => fun δ => match s d δ with
  | some δ' => some (.ok .nx, δ')
  | none => none
theorem asg_read {t : TE} {u : TG} {s : Tg} (q1 : ReadE X W t f) (q2 : ReadG X u s) : ReadS X W (tAsg t u) (sAsg f s) := by
  intro ph am σ H δ D ans δ' sr z k kx
  rcases bnd_some z with ⟨d, δ1, e1, e2⟩ | ⟨c, fs, e1, e2⟩
  · refine q1 ph am σ H δ _ _ _ sr e1 (fun d ed am1 v H1 st1 s1 d1 => ?_) (fun c fs z => by cases z)
    cases ed
    split at e2
    · rename_i δ2 e3
      cases e2
      exact q2 ph am1 σ H1 δ1 _ v d _ s1 d1 e3 fun am2 σ2 st2 s2 => k _ rfl am2 σ2 H1 (st1.trans st2) s2
    · cases e2
  · subst e2
    exact q1 ph am σ H δ _ _ _ sr e1 (fun d ed => by cases ed) (fun c' fs' z => by cases z; exact (kx _ _ rfl).at)
theorem ds_asg {tg : Expr} {s : Tg} (he : DE X W e f) (hg : DG X tg s) (hs : swapsWithSole [tg] e pos.line X.env = pure false := by rfl) (hw : swappedStores [tg] e X.env = pure none := by rfl)
    (h1 : (assignEach [tg] X.env).map (·.2) = [assign tg X.env] := by rfl) : DS X W (.Assign [tg] e pos) (sAsg f s) := by
  obtain ⟨t, p, q⟩ := he.ex
  obtain ⟨u, pu, qu⟩ := hg.ex
  exact ⟨⟨_, ps_asg p pu hs hw h1, asg_read q qu⟩⟩
theorem ds_set {i : Nat} {x : Str} {pos' : Pos} (hN : X.N.Nodup) (he : DE X W e f) (hi : X.N[i]? = some x := by rfl) (hx : Loc X.env.scope x := by first | exact Or.inl rfl | exact Or.inr rfl) (hs : swapsWith e (some (.Name x pos')) pos.line X.env = pure false := by rfl)
    (hf : X.fn x = true ∨ X.env.scope.names.lookup x = some .local := by first | exact .inl rfl | exact .inr rfl) : DS X W (.Assign [.Name x pos'] e pos) (sAsg f (sName i)) := by
  obtain ⟨t, p, q⟩ := he.ex
  exact ⟨⟨_, ps_set hN hi hx p hs hf, asg_read q fun ph am σ H δ δ' v d Q s dv q k => by
    obtain ⟨c, e1, e2, rfl⟩ := sName_some q
    exact k _ _ step_drop (s.put e1 e2 dv)⟩⟩
/-- a new list that the name is to own -/
def sOwn (f : M (List PyData)) (i : Nat) : MS := bnd f fun ds => fun δ => match δ[i]? with
  | some c => if c.free = true then some (.ok .nx, δ.set i (.ow false ds)) else none
  | none => none
theorem own_read {t : TE} (q1 : ReadF X W t fs) : ReadS X W (tAsg t (gName i)) (sOwn fs i) := by
  intro ph am σ H δ D ans δ' sr z k kx
  rcases bnd_some z with ⟨ds, δ1, e1, e2⟩ | ⟨c, fs, e1, e2⟩
  · refine q1 ph am σ H δ _ _ _ sr e1 (fun d ed am1 p vs H1 n0 n1 st1 s1 d1 hz => ?_) (fun c fs z => by cases z)
    cases ed
    split at e2
    · rename_i c e3
      obtain ⟨h1, e4⟩ := if_some e2
      cases e4
      exact k _ rfl (amPut am1 i p) _ _ (st1.trans (step_put n1)) (s1.putOwn e3 h1 n1 d1 hz)
    · cases e2
  · subst e2
    exact q1 ph am σ H δ _ _ _ sr e1 (fun d ed => by cases ed) (fun c' fs' z => by cases z; exact (kx _ _ rfl).at)
theorem ds_own {i : Nat} {x : Str} {pos' : Pos} (hN : X.N.Nodup) (he : DF X W e fs) (hi : X.N[i]? = some x := by rfl) (hx : Loc X.env.scope x := by first | exact Or.inl rfl | exact Or.inr rfl) (hs : swapsWith e (some (.Name x pos')) pos.line X.env = pure false := by rfl)
    (hf : X.fn x = true ∨ X.env.scope.names.lookup x = some .local := by first | exact .inl rfl | exact .inr rfl) : DS X W (.Assign [.Name x pos'] e pos) (sOwn fs i) := by
  obtain ⟨t, p, q⟩ := he.ex
  exact ⟨⟨_, ps_set hN hi hx p hs hf, own_read q⟩⟩
/-- xs[k] = e, xs owned -/
def sSub (f : M PyData) (i : Nat) (g : M PyData) : MS := bnd f fun d => fun δ1 => match δ1[i]? with
  | some (.ow _ _) => (bnd g fun k => fun δ2 => match δ2[i]?, k with
    | some (.ow b ds), .int n => match ixN ds.length n with
      | some j => some (.ok .nx, δ2.set i (.ow b (ds.set j d)))
      | none => none
    | _, _ => none) δ1
  | _ => none
theorem ds_sub {i : Nat} {x : Str} {pn ps' : Pos} (he : DE X W e f) (hk : DE X W e2 g) (hN : X.N[i]? = some x := by rfl) (hv : Vis X.env.scope x := by first | exact Or.inl rfl | exact Or.inr (Or.inl rfl) | exact Or.inr (Or.inr rfl)) (hd : (x == ("__debug__" : Str)) = false := by decide) (hcd : (x == ("__classdict__" : Str)) = false := by decide)
    (ha : ∀ v, assign (.Subscript (.Name x pn) e2 ps') X.env v = (do
      let ov ← holding [v] (eval (.Name x pn) X.env)
      let iv ← holding [v, ov] (eval e2 X.env)
      standAt ps'
      holding [v, ov, iv] (setItem ov iv v)
      release [v, ov, iv] []) := by intro _; rfl)
    (hs : swapsWithSole [.Subscript (.Name x pn) e2 ps'] e pos.line X.env = pure false := by rfl) (hw : swappedStores [.Subscript (.Name x pn) e2 ps'] e X.env = pure none := by rfl)
    (h1 : (assignEach [.Subscript (.Name x pn) e2 ps'] X.env).map (·.2) = [assign (.Subscript (.Name x pn) e2 ps') X.env] := by rfl) : DS X W (.Assign [.Subscript (.Name x pn) e2 ps'] e pos) (sSub f i g) := by
  obtain ⟨t, p, q⟩ := he.ex
  obtain ⟨t2, p2, q2⟩ := hk.ex
  refine ⟨⟨_, ps_asg p (pg_sub (pe_var hN hv hd hcd) p2 set_list ha) hs hw h1, fun ph am σ H δ D ans δ' sr z k kx => ?_⟩⟩
  rcases bnd_some z with ⟨d, δ1, e1, e2⟩ | ⟨c, fs, e1, e2⟩
  · refine q ph am σ H δ _ _ _ sr e1 (fun d ed am1 v H1 st1 s1 d1 => ?_) (fun c fs z => by cases z)
    cases ed
    split at e2
    · rename_i b0 ds0 e3
      obtain ⟨a0, vs0, o1, o2, o3, o4, _, _⟩ := s1.ow i b0 ds0 e3
      refine ⟨.ref a0, o2, ?_⟩
      rcases bnd_some e2 with ⟨n, δ2, e4, e5⟩ | ⟨c, fs, e4, e5⟩
      · refine q2 ph am1 σ H1 δ1 _ _ _ s1 e4 (fun d ed am2 w H2 st2 s2 d2 => ?_) (fun c fs z => by cases z)
        cases ed
        split at e5
        · rename_i b ds k' e6
          cases d2 with
          | int n =>
            obtain ⟨a1, vs1, r1, r2, r3, r4, r5, r6⟩ := s2.ow i b ds e6
            rw [o2] at r2
            cases r2
            split at e5
            · rename_i j e7
              cases e5
              refine ⟨a0, vs1, _, j, rfl, rfl, r3, by rw [r4.length]; exact e7, ?_⟩
              exact k _ rfl am2 σ _ ((st1.trans st2).trans (step_mut r1 r3)) (s2.mut e6 r1 (r4.set (dp_mono st2.hid d1) j) (by rw [List.length_set]; exact r5))
            · cases e5
        · cases e5
      · subst e5
        exact q2 ph am1 σ H1 δ1 _ _ _ s1 e4 (fun d ed => by cases ed) (fun c' fs' z => by cases z; exact ((kx _ _ rfl).step st1).at)
    · cases e2
  · subst e2
    exact q ph am σ H δ _ _ _ sr e1 (fun d ed => by cases ed) (fun c' fs' z => by cases z; exact (kx _ _ rfl).at)
/-- xs.append(e), xs owned -/
def sApp (i : Nat) (f : M PyData) : MS := fun δ => match δ[i]? with
  | some (.ow _ _) => (bnd f fun d => fun δ1 => match δ1[i]? with
    | some (.ow b ds) => if ds.length < sizeLine then some (.ok .nx, δ1.set i (.ow b (ds ++ [d]))) else none
    | _ => none) δ
  | _ => none
theorem ds_app {i : Nat} {x : Str} {pn apos cpos : Pos} (he : DE X W e f) (hN : X.N[i]? = some x := by rfl) (hv : Vis X.env.scope x := by first | exact Or.inl rfl | exact Or.inr (Or.inl rfl) | exact Or.inr (Or.inr rfl)) (hd : (x == ("__debug__" : Str)) = false := by decide) (hcd : (x == ("__classdict__" : Str)) = false := by decide)
    (hs0 : starEach [e] X.env = (false, eval e X.env) :: starEach [] X.env := by rfl)
    (hbase : attributeBase (.Name x pn) "append" X.env (eval (.Name x pn) X.env) = eval (.Name x pn) X.env := by rfl)
    (hfew : ((backTo cpos (starEach [e] X.env)).all (fun x => !x.1) && (backToKw cpos (keywordEach [] X.env)).all (fun x => x.1.isSome)
      && decide (([e] : List Expr).length + ([] : List Keyword).length + (if ([] : List Keyword).isEmpty then 0 else 1) < 30)) = true := by rfl)
    (hline : (apos.endLine == cpos.line) = true := by rfl) (hplain : (backTo cpos (starEach [] X.env)).any (·.1) = false := by rfl)
    (hs : swapsWith (.Call (.Attribute (.Name x pn) "append" apos) [e] [] cpos) none pos.line X.env = pure false := by rfl) : DS X W (.Expr (.Call (.Attribute (.Name x pn) "append" apos) [e] [] cpos) pos) (sApp i f) := by
  obtain ⟨t, p, q⟩ := he.ex
  refine ⟨⟨_, ps_expr (pe_bm PySem.F.plainAttrs_list PySem.F.slot_list_append PySem.F.type_list_append mt_append (pe_var hN hv hd hcd) (pa_cons p pa_nil hs0) hbase hfew hline hs0 hplain) hs, fun ph am σ H δ D ans δ' sr z k kx => ?_⟩⟩
  unfold sApp at z
  split at z
  · rename_i b0 ds0 e3
    obtain ⟨a0, vs0, o1, o2, o3, o4, _, _⟩ := sr.ow i b0 ds0 e3
    refine ⟨.ref a0, o2, .inl ⟨rfl, _, .inl (.inl o3)⟩, ?_⟩
    rcases bnd_some z with ⟨d, δ2, e4, e5⟩ | ⟨c, fs, e4, e5⟩
    · refine q ph am σ H δ _ _ _ sr e4 (fun d ed am2 w H2 st2 s2 d2 => ?_) (fun c fs z => by cases z)
      cases ed
      split at e5
      · rename_i b ds e6
        obtain ⟨a1, vs1, r1, r2, r3, r4, r5, r6⟩ := s2.ow i b ds e6
        rw [o2] at r2
        cases r2
        obtain ⟨hz, e8⟩ := if_some e5
        cases e8
        refine ⟨a0, vs1, w, rfl, rfl, r3, by rw [r4.length]; exact hz, ?_⟩
        exact k _ rfl am2 σ _ (st2.trans (step_mut r1 r3)) (s2.mut e6 r1 (r4.append (.cons d2 .nil)) (by rw [List.length_append, r4.length]; exact hz))
      · cases e5
    · subst e5
      exact q ph am σ H δ _ _ _ sr e4 (fun d ed => by cases ed) (fun c' fs' z => by cases z; exact (kx _ _ rfl).at)
  · cases z
/-! ### reading what one owns, without freezing -/
def xIxO (i : Nat) (g : M PyData) : M PyData := fun δ => match δ[i]? with
  | some (.ow _ _) => (bnd g fun b => fun δ1 => match δ1[i]? with
    | some (.ow _ ds) => lif (ixD (.list ds) b) δ1
    | _ => none) δ
  | _ => none
theorem de_ixo {i : Nat} {x : Str} {pn : Pos} (hp : PlainIx e2) (hb : DE X W e2 g) (hN : X.N[i]? = some x := by rfl) (hv : Vis X.env.scope x := by first | exact Or.inl rfl | exact Or.inr (Or.inl rfl) | exact Or.inr (Or.inr rfl)) (hd : (x == ("__debug__" : Str)) = false := by decide) (hcd : (x == ("__classdict__" : Str)) = false := by decide) :
    DE X W (.Subscript (.Name x pn) e2 pos) (xIxO i g) := by
  obtain ⟨t, p, q⟩ := hb.ex
  refine ⟨⟨_, pe_ix ix_list (pe_var hN hv hd hcd) p hp, fun ph am σ H δ Q ans δ' sr z k kx => ?_⟩⟩
  unfold xIxO at z
  split at z
  · rename_i b0 ds0 e3
    obtain ⟨a0, vs0, o1, o2, o3, o4, _, _⟩ := sr.ow i b0 ds0 e3
    refine ⟨.ref a0, o2, ?_⟩
    rcases bnd_some z with ⟨d, δ2, e4, e5⟩ | ⟨c, fs, e4, e5⟩
    · refine q ph am σ H δ _ _ _ sr e4 (fun d ed am2 w H2 st2 s2 d2 => ?_) (fun c fs z => by cases z)
      cases ed
      split at e5
      · rename_i b ds e6
        obtain ⟨a1, vs1, r1, r2, r3, r4, r5, r6⟩ := s2.ow i b ds e6
        rw [o2] at r2
        cases r2
        obtain ⟨c, e7, rfl, rfl⟩ := lif_some e5
        cases d2 with
        | int n =>
          obtain ⟨v', h1, h2⟩ := atI_get r4 e7
          exact ⟨a0, vs1, n, v', rfl, rfl, .inl (.inl r3), h1, k _ rfl am2 v' H2 st2 s2 h2⟩
        | _ => cases e7
      · cases e5
    · subst e5
      exact q ph am σ H δ _ _ _ sr e4 (fun d ed => by cases ed) (fun c' fs' z => by cases z; exact kx _ _ rfl)
  · cases z
/-- len(xs) -/
def xLenO (i : Nat) : M PyData := fun δ => match δ[i]? with
  | some (.ow _ ds) => some (.ok (.int ds.length), δ)
  | _ => none
theorem de_leno {i : Nat} {x : Str} {pn pf : Pos} (hm : X.mg "len" = none) (hN : X.N[i]? = some x := by rfl) (hv : Vis X.env.scope x := by first | exact Or.inl rfl | exact Or.inr (Or.inl rfl) | exact Or.inr (Or.inr rfl)) (hd : (x == ("__debug__" : Str)) = false := by decide) (hcd : (x == ("__classdict__" : Str)) = false := by decide) (hg : Gl X "len" := by rfl)
    (he : starEach [.Name x pn] X.env = (false, eval (.Name x pn) X.env) :: starEach [] X.env := by rfl) (hpl : (backTo pos (starEach [] X.env)).any (·.1) = false := by rfl) : DE X W (.Call (.Name "len" pf) [.Name x pn] [] pos) (xLenO i) := by
  refine ⟨⟨_, pe_callB call_len_seq hg hm PySem.boot_len (pa_cons (pe_var hN hv hd hcd) pa_nil he) (by decide) (by decide) he hpl, fun ph am σ H δ Q ans δ' sr z k kx => ?_⟩⟩
  unfold xLenO at z
  split at z
  · rename_i b0 ds0 e3
    cases z
    obtain ⟨a0, vs0, o1, o2, o3, o4, _, _⟩ := sr.ow i b0 ds0 e3
    exact ⟨.ref a0, o2, a0, vs0, rfl, .inl (.inl (.inl o3)), k _ rfl am _ H Step.refl sr (by rw [o4.length]; exact .int _)⟩
  · cases z
/-- xs == e, xs != e: what comes is no part of xs -/
def xCmpO (F : PyData → PyData → Option PyData) (i : Nat) (g : M PyData) : M PyData := fun δ => match δ[i]? with
  | some (.ow _ _) => (bnd g fun b => fun δ1 => match δ1[i]? with
    | some (.ow _ ds) => match F (.list ds) b with
      | some (.bool c) => some (.ok (.bool c), δ1)
      | _ => none
    | _ => none) δ
  | _ => none
theorem cmpo_read {i : Nat} {t : TE} {r : R2} {F : PyData → PyData → Option PyData} (hr : OpD X r F) (q : ReadE X W t g) : ReadE X W (tOp r (tVar i) t) (xCmpO F i g) := by
  intro ph am σ H δ Q ans δ' sr z k kx
  unfold xCmpO at z
  split at z
  · rename_i b0 ds0 e3
    obtain ⟨a0, vs0, o1, o2, o3, o4, _, _⟩ := sr.ow i b0 ds0 e3
    refine ⟨.ref a0, o2, ?_⟩
    rcases bnd_some z with ⟨d, δ2, e4, e5⟩ | ⟨c, fs, e4, e5⟩
    · refine q ph am σ H δ _ _ _ sr e4 (fun d ed am2 w H2 st2 s2 d2 => ?_) (fun c fs z => by cases z)
      cases ed
      split at e5
      · rename_i b ds e6
        obtain ⟨a1, vs1, r1, r2, r3, r4, r5, r6⟩ := s2.ow i b ds e6
        rw [o2] at r2
        cases r2
        split at e5
        · rename_i c e7
          cases e5
          have st : Step am2 H2 (amDrop am2 i) H2 := step_drop
          have na : ¬ Hid ph (amDrop am2 i) a0 := by
            rintro (q | ⟨j, q⟩)
            · exact (s2.amf i a0 r1).1 q
            · obtain ⟨n, q⟩ := amDrop_some.mp q
              exact n (s2.inj j i a0 q r1)
          refine hr ph (amDrop am2 i) H2 _ w (.list ds) _ (.bool c) Q (fun b h => s2.hidden ?_) (.lst (.inl (.inl (hid_some.mpr ⟨na, r3⟩))) (dps_mono st.hid r4)) (dp_mono st.hid d2) e7 fun v H3 sm dv => ?_
          · rcases h with h | ⟨j, h⟩
            · exact .inl h
            · exact .inr ⟨j, (amDrop_some.mp h).2⟩
          · cases dv with
            | bl c => exact k _ rfl am2 _ H3 (st2.trans (Step.of sm)) (s2.same sm) (.bl c)
        · cases e5
      · cases e5
    · subst e5
      exact q ph am σ H δ _ _ _ sr e4 (fun d ed => by cases ed) (fun c' fs' z => by cases z; exact kx _ _ rfl)
  · cases z
theorem de_cmpo {i : Nat} {x : Str} {pn : Pos} {op : CmpOp} {r : R2} {F : PyData → PyData → Option PyData} (hr : OpD X r F) (ho : OpR X (compareOp op) r) (hm : behindInMarks op e2 = false) (hb : DE X W e2 g) (hN : X.N[i]? = some x := by rfl) (hv : Vis X.env.scope x := by first | exact Or.inl rfl | exact Or.inr (Or.inl rfl) | exact Or.inr (Or.inr rfl)) (hd : (x == ("__debug__" : Str)) = false := by decide) (hcd : (x == ("__classdict__" : Str)) = false := by decide) :
    DE X W (.Compare (.Name x pn) [op] [e2] pos) (xCmpO F i g) := by
  obtain ⟨t, p, q⟩ := hb.ex
  exact ⟨⟨_, pe_cmpR ho (pe_var hN hv hd hcd) p hm, cmpo_read hr q⟩⟩
theorem dt_cmpo {i : Nat} {x : Str} {pn : Pos} {op : CmpOp} {r : R2} {F : PyData → PyData → Option PyData} (hr : OpD X r F) (ho : OpR X (compareOp op) r) (hm : behindInMarks op e2 = false) (hb : DE X W e2 g) (hN : X.N[i]? = some x := by rfl) (hv : Vis X.env.scope x := by first | exact Or.inl rfl | exact Or.inr (Or.inl rfl) | exact Or.inr (Or.inr rfl)) (hd : (x == ("__debug__" : Str)) = false := by decide) (hcd : (x == ("__classdict__" : Str)) = false := by decide) :
    DT X W (.Compare (.Name x pn) [op] [e2] pos) (xBool (xCmpO F i g)) := by
  obtain ⟨t, p, q⟩ := hb.ex
  exact ⟨⟨_, pt_cmpR ho (pe_var hN hv hd hcd) p hm, bool_read (cmpo_read hr q)⟩⟩
end PD
end

section
set_option Elab.async false
set_option linter.all false
set_option maxRecDepth 100000
set_option maxHeartbeats 1000000
namespace PD
open PySem PySem.Spec PyProof.Rows L2
variable {X : Cx} {W : WX} {pos : Pos} {e e1 e2 e3 : Expr} {es : List Expr} {f g h : M PyData} {fs : M (List PyData)} {fb gb : M Bool}
variable {K : PySem.W.Frag} {ph : Fx} {am am' am1 : Am} {H H' H1 : Hp} {σ σ' : L2.St} {δ δ' δ1 : Sg} {a p p1 p2 : Addr} {v : V} {vs : List V} {d : PyData} {ds : List PyData} {i : Nat}

/-- what is walked gives ds, one after another, whatever the turns do -/
def WalkD (K : PySem.W.Frag) (ph : Fx) (am : Am) (H : Hp) (J : It) (ds : List PyData) : Prop :=
  ∃ (G : Hp → Prop) (Y : Nat → Hp → V → Hp → Prop), Walk J ds.length G Y ∧ (∀ (ph2 : Fx) am2 H2, (∀ b o, hid ph am H b = some o → hid ph2 am2 H2 b = some o) → G H2) ∧
    ∀ i x H2 H3 (ph2 : Fx) am2, i < ds.length → (∀ b o, hid ph am H b = some o → hid ph2 am2 H2 b = some o) → (∀ b, Hid ph2 am2 b → ∃ o, H2 b = some o) → Y i H2 x H3 →
      ∃ d, ds[i]? = some d ∧ Same H2 H3 ∧ Dq K (hid ph2 am2 H3) x d
def ReadI (X : Cx) (W : WX) (t : TI) (f : M (List PyData)) : Prop := ∀ (ph : Fx) (am : Am) (σ : L2.St) (H : Hp) (δ : Sg) (R : It → Hp → Prop) (ans : Ans (List PyData)) (δ' : Sg), SR X.K ph am σ H δ → f δ = some (ans, δ') →
  (∀ ds, ans = .ok ds → ∀ am' H' J, Step am H am' H' → SR X.K ph am' σ H' δ' → WalkD X.K ph am' H' J ds → R J H') → (∀ c fs, ans = .ex c fs → XP X W ph am σ H δ' c fs) → t σ H R
structure DI (X : Cx) (W : WX) (tg iter : Expr) (f : M (List PyData)) : Prop where
  ex : ∃ t, PI X tg iter t ∧ ReadI X W t f
/-! ### the walks -/
def seqD : PyData → Option (List PyData)
  | .list xs => some xs
  | .tuple xs => some xs
  | _ => none
theorem seq_rd {x : V} (h : Dq K (hid ph am H) x d) (e : seqD d = some ds) : ∃ k a xs, x = .ref a ∧ SqK k K (hid ph am H) a xs ∧ DqAll K (hid ph am H) xs ds := by
  cases h with
  | lst h1 a1 => cases e; exact ⟨true, _, _, rfl, h1, a1⟩
  | tup h1 a1 => cases e; exact ⟨false, _, _, rfl, .inl (.inl h1), a1⟩
  | _ => cases e
theorem sqK_mono {k : Bool} {xs : List V} (s : Same H H') (q : SqK k K H a xs) : SqK k K H' a xs := by
  cases k with
  | true => exact s.seq (show SqL K H a xs from q)
  | false => exact seqT_mono s (show SqT K H a xs from q)
theorem sqK_hid {k : Bool} {xs : List V} (q : SqK k K (hid ph am H) a xs) : SqK k K H a xs := sqK_mono hid_sub q
theorem at_dq {xs : List V} {x : V} (h : DqAll K H xs ds) (e : xs[i]? = some x) : ∃ d, ds[i]? = some d ∧ Dq K H x d := by
  have hi : i < ds.length := by rw [← h.length]; exact (List.getElem?_eq_some_iff.mp e).1
  obtain ⟨v, h1, h2⟩ := h.get (i := i) (List.getElem?_eq_getElem hi)
  rw [e] at h1
  cases h1
  exact ⟨_, List.getElem?_eq_getElem hi, h2⟩
theorem walkD_list {xs : List V} (q : SqL K (hid ph am H) a xs) (h : DqAll K (hid ph am H) xs ds) : WalkD K ph am H (Itl K a) ds := by
  refine ⟨_, _, by rw [← h.length]; exact walk_list (xs := xs), fun ph2 am2 H2 s => hid_sub.seq (Same.seq (H := hid ph am H) (H' := hid ph2 am2 H2) s q), fun i x H2 H3 ph2 am2 hi s hn y => ?_⟩
  obtain ⟨rfl, y⟩ := y
  obtain ⟨d, h1, h2⟩ := at_dq h y
  exact ⟨d, h1, Same.refl _, dp_mono s h2⟩
theorem walkD_tup {xs : List V} (q : SqT K (hid ph am H) a xs) (h : DqAll K (hid ph am H) xs ds) : WalkD K ph am H (Itt K a) ds := by
  refine ⟨_, _, by rw [← h.length]; exact walk_tup (xs := xs), fun ph2 am2 H2 s => seqT_mono hid_sub (seqT_mono (H := hid ph am H) (H' := hid ph2 am2 H2) s q), fun i x H2 H3 ph2 am2 hi s hn y => ?_⟩
  obtain ⟨rfl, y⟩ := y
  obtain ⟨d, h1, h2⟩ := at_dq h y
  exact ⟨d, h1, Same.refl _, dp_mono s h2⟩
def xSeq (f : M PyData) : M (List PyData) := bnd f fun d => lif (seqD d)
theorem di_seq {tg : Expr} (he : DE X W e f) : DI X W tg e (xSeq f) := by
  obtain ⟨t, p, q⟩ := he.ex
  refine ⟨⟨_, pi_seqK p, fun ph am σ H δ R ans δ' s z k kx => ?_⟩⟩
  rcases bnd_some z with ⟨d, δ1, e1, e2⟩ | ⟨c, fs, e1, e2⟩
  · refine q ph am σ H δ _ _ _ s e1 (fun d' ed am1 v H1 st1 s1 d1 => ?_) (fun c fs z => by cases z)
    cases ed
    obtain ⟨ds, e3, rfl, rfl⟩ := lif_some e2
    cases d1 with
    | lst h1 a1 =>
      cases e3
      exact ⟨_, rfl, .inl ⟨⟨_, rd_hid h1⟩, k _ rfl am1 H1 _ st1 s1 (walkD_list h1 a1)⟩⟩
    | tup h1 a1 =>
      cases e3
      exact ⟨_, rfl, .inr ⟨⟨_, seqT_hid h1⟩, k _ rfl am1 H1 _ st1 s1 (walkD_tup (.inl (.inl h1)) a1)⟩⟩
    | _ => cases e3
  · subst e2
    exact q ph am σ H δ _ _ _ s e1 (fun d ed => by cases ed) (fun c' fs' z => by cases z; exact kx _ _ rfl)
/-! range -/
def rangeL (lo : Int) (n : Nat) : List PyData := (List.range n).map fun i => .int (lo + (i : Nat))
theorem rangeL_length (lo : Int) (n : Nat) : (rangeL lo n).length = n := by simp [rangeL]
theorem walkD_range {lo : Int} {n : Nat} : WalkD K ph am H (Itr lo n) (rangeL lo n) := by
  refine ⟨_, _, by rw [rangeL_length]; exact walk_range, fun _ _ _ _ => trivial, fun i x H2 H3 ph2 am2 hi s hn y => ?_⟩
  obtain ⟨rfl, rfl⟩ := y
  rw [rangeL_length] at hi
  exact ⟨.int (lo + i), by simp [rangeL, hi], Same.refl _, .int _⟩
def fit62 (i : Int) : Bool := decide (-(2 ^ 62) ≤ i) && decide (i < 2 ^ 62)
def range1D : List PyData → Option (List PyData)
  | [.int j] => if fit62 j = true then some (rangeL 0 j.toNat) else none
  | _ => none
def range2D : List PyData → Option (List PyData)
  | [.int i, .int j] => if fit62 i = true ∧ fit62 j = true then some (rangeL i (j - i).toNat) else none
  | _ => none
def xCallF' (F : List PyData → Option (List PyData)) (fs : M (List PyData)) : M (List PyData) := bnd fs fun ds => lif (F ds)
variable {tg : Expr} {pf : Pos}
theorem di_range1 (hm : X.mg "range" = none) (h : DA X W [e] fs) (hg : Gl X "range" := by rfl) (hs : starEach [e] X.env = [(false, eval e X.env)] := by rfl) : DI X W tg (.Call (.Name "range" pf) [e] [] pos) (xCallF' range1D fs) := by
  obtain ⟨t, p, q⟩ := h.ex
  refine ⟨⟨_, pi_range1 hg hm p hs, fun ph am σ H δ R ans δ' s z k kx => ?_⟩⟩
  rcases bnd_some z with ⟨d, δ1, e1, e2⟩ | ⟨c, fs, e1, e2⟩
  · refine q ph am σ H δ _ _ _ s e1 (fun d' ed am1 v H1 st1 s1 d1 => ?_) (fun c fs z => by cases z)
    cases ed
    obtain ⟨ds, e3, rfl, rfl⟩ := lif_some e2
    cases d1 with
    | nil => cases e3
    | cons h1 t1 =>
      cases t1 with
      | cons _ _ => cases h1 <;> cases e3
      | nil =>
        cases h1 with
        | int j =>
          obtain ⟨h2, rfl⟩ := if_some e3
          unfold fit62 at h2
          simp only [Bool.and_eq_true, decide_eq_true_eq] at h2
          exact ⟨j, rfl, h2.1, h2.2, k _ rfl am1 H1 _ st1 s1 walkD_range⟩
        | _ => cases e3
  · subst e2
    exact q ph am σ H δ _ _ _ s e1 (fun d ed => by cases ed) (fun c' fs' z => by cases z; exact kx _ _ rfl)
theorem di_range2 (hm : X.mg "range" = none) (h : DA X W [e, e2] fs) (hg : Gl X "range" := by rfl) (hs : starEach [e, e2] X.env = [(false, eval e X.env), (false, eval e2 X.env)] := by rfl) (hs2 : starEach [e2] X.env = [(false, eval e2 X.env)] := by rfl) : DI X W tg (.Call (.Name "range" pf) [e, e2] [] pos) (xCallF' range2D fs) := by
  obtain ⟨t, p, q⟩ := h.ex
  refine ⟨⟨_, pi_range2 hg hm p hs hs2, fun ph am σ H δ R ans δ' s z k kx => ?_⟩⟩
  rcases bnd_some z with ⟨d, δ1, e1, e2⟩ | ⟨c, fs, e1, e2⟩
  · refine q ph am σ H δ _ _ _ s e1 (fun d' ed am1 v H1 st1 s1 d1 => ?_) (fun c fs z => by cases z)
    cases ed
    obtain ⟨ds, e3, rfl, rfl⟩ := lif_some e2
    cases d1 with
    | nil => cases e3
    | cons h1 t1 =>
      cases t1 with
      | nil => cases h1 <;> cases e3
      | cons h2 t2 =>
        cases t2 with
        | cons _ _ => cases h1 <;> cases h2 <;> cases e3
        | nil =>
          cases h1 with
          | int i =>
            cases h2 with
            | int j =>
              obtain ⟨h2, rfl⟩ := if_some e3
              unfold fit62 at h2
              simp only [Bool.and_eq_true, decide_eq_true_eq] at h2
              exact ⟨i, j, rfl, ⟨h2.1.1, h2.1.2, h2.2.1, h2.2.2⟩, k _ rfl am1 H1 _ st1 s1 walkD_range⟩
            | _ => cases e3
          | _ => cases e3
  · subst e2
    exact q ph am σ H δ _ _ _ s e1 (fun d ed => by cases ed) (fun c' fs' z => by cases z; exact kx _ _ rfl)
/-! zip, enumerate -/
def pairL : List PyData → List PyData → List PyData
  | x :: xs, y :: ys => .tuple [x, y] :: pairL xs ys
  | _, _ => []
theorem pairL_length : ∀ xs ys : List PyData, (pairL xs ys).length = min xs.length ys.length
  | [], ys => by simp [pairL]
  | x :: xs, [] => by simp [pairL]
  | x :: xs, y :: ys => by simp only [pairL, List.length_cons, pairL_length xs ys]; omega
theorem pairL_get : ∀ {xs ys : List PyData} {i : Nat} {x y : PyData}, xs[i]? = some x → ys[i]? = some y → (pairL xs ys)[i]? = some (.tuple [x, y])
  | [], _, _, _, _, h, _ => by simp at h
  | _ :: _, [], _, _, _, _, h => by simp at h
  | x :: xs, y :: ys, 0, _, _, h1, h2 => by simp at h1 h2; subst h1 h2; rfl
  | x :: xs, y :: ys, i + 1, _, _, h1, h2 => by
    simp at h1 h2
    simpa [pairL] using pairL_get h1 h2
def zipD : List PyData → Option (List PyData)
  | [a, b] => match seqD a, seqD b with
    | some xs, some ys => some (pairL xs ys)
    | _, _ => none
  | _ => none
theorem walkD_zip {k1 k2 : Bool} {b : Addr} {xs ys : List V} {es : List PyData} (q1 : SqK k1 K (hid ph am H) a xs) (q2 : SqK k2 K (hid ph am H) b ys) (h1 : DqAll K (hid ph am H) xs ds) (h2 : DqAll K (hid ph am H) ys es) : WalkD K ph am H (ItzK k1 k2 K a b) (pairL ds es) := by
  refine ⟨_, _, walk_zipK (xs := xs) (ys := ys) (by rw [pairL_length, h1.length, h2.length]), fun ph2 am2 H2 s => ⟨sqK_hid (sqK_mono s q1), sqK_hid (sqK_mono s q2)⟩, fun i x H2 H3 ph2 am2 hi s hn y => ?_⟩
  obtain ⟨T, x1, y1, rfl, nT, rfl, e1, e2⟩ := y
  obtain ⟨d1, f1, g1⟩ := at_dq h1 e1
  obtain ⟨d2, f2, g2⟩ := at_dq h2 e2
  exact ⟨_, pairL_get f1 f2, same_new nT, new_tup hn nT (.cons (dp_mono s g1) (.cons (dp_mono s g2) .nil))⟩
variable {tpos : Pos} {elts : List Expr} {kk : Nat}
theorem di_zip (hm : X.mg "zip" = none) (h : DA X W [e, e2] fs) (hg : Gl X "zip" := by rfl) (hs : starEach [e, e2] X.env = (false, eval e X.env) :: starEach [e2] X.env := by rfl) (hpl : (backTo pos (starEach [e2] X.env)).any (·.1) = false := by rfl) :
    DI X W (.Tuple elts kk tpos) (.Call (.Name "zip" pf) [e, e2] [] pos) (xCallF' zipD fs) := by
  obtain ⟨t, p, q⟩ := h.ex
  refine ⟨⟨_, pi_zipK hg hm p hs hpl, fun ph am σ H δ R ans δ' s z k kx => ?_⟩⟩
  rcases bnd_some z with ⟨d, δ1, e1, e2⟩ | ⟨c, fs, e1, e2⟩
  · refine q ph am σ H δ _ _ _ s e1 (fun d' ed am1 v H1 st1 s1 d1 => ?_) (fun c fs z => by cases z)
    cases ed
    obtain ⟨ds, e3, rfl, rfl⟩ := lif_some e2
    cases d1 with
    | nil => cases e3
    | cons h1 t1 =>
      cases t1 with
      | nil => cases e3
      | cons h2 t2 =>
        cases t2 with
        | cons _ _ => cases e3
        | nil =>
          unfold zipD at e3
          simp only at e3
          split at e3
          · rename_i xs ys r1 r2
            cases e3
            obtain ⟨k1, a, us, rfl, q1, z1⟩ := seq_rd h1 r1
            obtain ⟨k2, b, ws, rfl, q2, z2⟩ := seq_rd h2 r2
            exact ⟨k1, k2, a, b, us, ws, rfl, sqK_hid q1, sqK_hid q2, k _ rfl am1 H1 _ st1 s1 (walkD_zip q1 q2 z1 z2)⟩
          · cases e3
  · subst e2
    exact q ph am σ H δ _ _ _ s e1 (fun d ed => by cases ed) (fun c' fs' z => by cases z; exact kx _ _ rfl)
def enumL (ds : List PyData) : List PyData := ds.zipIdx.map fun p => .tuple [.int (p.2 : Nat), p.1]
def enumD : List PyData → Option (List PyData)
  | [a] => (seqD a).map enumL
  | _ => none
theorem walkD_enum {k : Bool} {xs : List V} (q1 : SqK k K (hid ph am H) a xs) (h1 : DqAll K (hid ph am H) xs ds) : WalkD K ph am H (IteK k K a) (enumL ds) := by
  refine ⟨_, _, by rw [show (enumL ds).length = xs.length by rw [h1.length]; simp [enumL]]; exact walk_enumK (xs := xs), fun ph2 am2 H2 s => sqK_hid (sqK_mono s q1), fun i x H2 H3 ph2 am2 hi s hn y => ?_⟩
  obtain ⟨T, x1, y1, rfl, nT, rfl, e1, e2⟩ := y
  cases e1
  obtain ⟨d2, f2, g2⟩ := at_dq h1 e2
  exact ⟨_, by simp [enumL, f2], same_new nT, new_tup hn nT (.cons (.int _) (.cons (dp_mono s g2) .nil))⟩
theorem di_enum (hm : X.mg "enumerate" = none) (h : DA X W [e] fs) (hg : Gl X "enumerate" := by rfl) (hs : starEach [e] X.env = [(false, eval e X.env)] := by rfl) :
    DI X W (.Tuple elts kk tpos) (.Call (.Name "enumerate" pf) [e] [] pos) (xCallF' enumD fs) := by
  obtain ⟨t, p, q⟩ := h.ex
  refine ⟨⟨_, pi_enumK hg hm p hs, fun ph am σ H δ R ans δ' s z k kx => ?_⟩⟩
  rcases bnd_some z with ⟨d, δ1, e1, e2⟩ | ⟨c, fs, e1, e2⟩
  · refine q ph am σ H δ _ _ _ s e1 (fun d' ed am1 v H1 st1 s1 d1 => ?_) (fun c fs z => by cases z)
    cases ed
    obtain ⟨ds, e3, rfl, rfl⟩ := lif_some e2
    cases d1 with
    | nil => cases e3
    | cons h1 t1 =>
      cases t1 with
      | cons _ _ => cases e3
      | nil =>
        rename_i dd
        replace e3 : (seqD dd).map enumL = some ds := e3
        cases r1 : seqD dd with
        | none => rw [r1] at e3; cases e3
        | some xs =>
          rw [r1] at e3
          cases e3
          obtain ⟨k1, a, us, rfl, q1, z1⟩ := seq_rd h1 r1
          exact ⟨k1, a, us, rfl, sqK_hid q1, k _ rfl am1 H1 _ st1 s1 (walkD_enum q1 z1)⟩
  · subst e2
    exact q ph am σ H δ _ _ _ s e1 (fun d ed => by cases ed) (fun c' fs' z => by cases z; exact kx _ _ rfl)

/-! ### for -/
variable {gs hs : MS} {body : List Stmt}
def loopD (set : Tg) (b : MS) : List PyData → MS
  | [], δ => some (.ok .nx, δ)
  | d :: ds, δ => match set d δ with
    | none => none
    | some δ1 => match b δ1 with
      | some (.ok .nx, δ2) => loopD set b ds δ2
      | some (.ok .ct, δ2) => loopD set b ds δ2
      | some (.ok .bk, δ2) => some (.ok .nx, δ2)
      | r => r
def sFor (it : M (List PyData)) (set : Tg) (b : MS) : MS := bnd it fun ds => loopD set b ds
theorem ds_for {iter : Expr} {set : Tg} (hp : PassesOwn (model X.prog X.w) X.A X.env X.xe) (hc : X.calm = true) (hi : DI X W tg iter fs) (hg : DG X tg set) (hb : DSs X W body gs) (hs : ∀ x, foldedSetIterable iter X.env x = pure x := by intro _; rfl) :
    DS X W (.For tg iter body [] pos) (sFor fs set gs) := by
  obtain ⟨ti, pi, qi⟩ := hi.ex
  obtain ⟨tgt, pg, qg⟩ := hg.ex
  obtain ⟨tb, pb, qb⟩ := hb.ex
  refine ⟨⟨_, ps_for hp hc pi pg pb hs, fun ph am σ H δ D ans δ' s z k kx => ?_⟩⟩
  rcases bnd_some z with ⟨ds, δ1, e1, e2⟩ | ⟨c, fs, e1, e2⟩
  · refine qi ph am σ H δ _ _ _ s e1 (fun d' ed am1 H1 J st1 s1 wd => ?_) (fun c fs z => by cases z)
    cases ed
    obtain ⟨G, Y, w, hG, hY⟩ := wd
    refine for_it w (fun i σ' H' => ∃ am2 δ2, Step am1 H1 am2 H' ∧ SR X.K ph am2 σ' H' δ2 ∧ loopD set gs (ds.drop i) δ2 = some (ans, δ')) ⟨am1, δ1, Step.refl, s1, e2⟩ (fun i σ' H' _ ⟨am2, δ2, st, _, _⟩ => hG ph am2 H' st.hid) (fun i x σ' H2 H3 hi ⟨am2, δ2, st, s2, el⟩ y => ?_) (fun σ' H' ⟨am2, δ2, st, s2, el⟩ => ?_)
    · obtain ⟨d, hd, sm, dq⟩ := hY i x H2 H3 ph am2 hi st.hid (fun b h => s2.hidden h) y
      have hdr : ds.drop i = d :: ds.drop (i + 1) := by
        obtain ⟨h1, h2⟩ := List.getElem?_eq_some_iff.mp hd
        rw [List.drop_eq_getElem_cons h1, h2]
      rw [hdr] at el
      unfold loopD at el
      have s3 := s2.same sm
      split at el
      · cases el
      · rename_i δ3 es
        refine qg ph am2 σ' H3 δ2 δ3 x d _ s3 dq es fun am4 σ4 st4 s4 => ?_
        have stA : Step am1 H1 am4 H3 := (st.trans (Step.of sm)).trans st4
        split at el
        · rename_i δ4 eb
          exact qb ph am4 σ4 H3 δ3 _ _ _ s4 eb (fun fl z => by cases z; exact fun am5 σ5 H5 st5 s5 => ⟨am5, δ4, stA.trans st5, s5, el⟩) (fun c fs z => by cases z)
        · rename_i δ4 eb
          exact qb ph am4 σ4 H3 δ3 _ _ _ s4 eb (fun fl z => by cases z; exact fun am5 σ5 H5 st5 s5 => ⟨am5, δ4, stA.trans st5, s5, el⟩) (fun c fs z => by cases z)
        · rename_i δ4 eb
          cases el
          exact qb ph am4 σ4 H3 δ3 _ _ _ s4 eb (fun fl z => by cases z; exact fun am5 σ5 H5 st5 s5 => k _ rfl am5 σ5 H5 ((st1.trans stA).trans st5) s5) (fun c fs z => by cases z)
        · rename_i n1 n2 n3
          refine qb ph am4 σ4 H3 δ3 _ ans δ' s4 el (fun fl z => ?_) (fun c fs z => (kx c fs z).step (st1.trans stA))
          subst z
          cases fl with
          | nx => exact (n1 _ el).elim
          | ct => exact (n2 _ el).elim
          | bk => exact (n3 _ el).elim
          | rt d => exact fun am5 σ5 v H5 st5 s5 d5 => k _ rfl am5 σ5 v H5 ((st1.trans stA).trans st5) s5 d5
          | rf ds => exact fun am5 σ5 p vs H5 m1 m2 st5 s5 d5 => k _ rfl am5 σ5 p vs H5 ((st1.trans stA).none m1) m2 ((st1.trans stA).trans st5) s5 d5
    · rw [List.drop_length] at el
      cases el
      exact k _ rfl am2 σ' H' (st1.trans st) s2
  · subst e2
    exact qi ph am σ H δ _ _ _ s e1 (fun d ed => by cases ed) (fun c' fs' z => by cases z; exact (kx _ _ rfl).at)
end PD
end

section
set_option Elab.async false
set_option linter.all false
set_option maxRecDepth 100000
set_option maxHeartbeats 1000000
namespace PD
open PySem PySem.Spec PyProof.Rows L2
variable {X : Cx} {W : WX} {pos : Pos} {e e1 e2 e3 : Expr} {es : List Expr} {f g h : M PyData} {fs : M (List PyData)} {fb gb : M Bool}
variable {K : PySem.W.Frag} {ph : Fx} {am am' am1 : Am} {H H' H1 : Hp} {σ σ' : L2.St} {δ δ' δ1 : Sg} {a p p1 p2 D : Addr} {v : V} {vs : List V} {d : PyData} {ds : List PyData} {i : Nat}

/-! ### a heap without the new list -/
def del (D : Addr) (H : Hp) : Hp := fun b => if b = D then none else H b
theorem del_same : del D H D = none := by simp [del]
theorem del_ne {b : Addr} (h : b ≠ D) : del D H b = H b := by simp [del, h]
theorem del_upd {o : HO} : del D (upd H D o) = del D H := by
  funext b
  by_cases h : b = D
  · rw [h, del_same, del_same]
  · rw [del_ne h, del_ne h, upd_ne h]
theorem del_new {o : HO} (n : H D = none) : del D (upd H D o) = H := by
  funext b
  by_cases h : b = D
  · rw [h, del_same, n]
  · rw [del_ne h, upd_ne h]
theorem upd_del {o : HO} (e : H D = some o) : upd (del D H) D o = H := by
  funext b
  by_cases h : b = D
  · rw [h, upd_same, e]
  · rw [upd_ne h, del_ne h]
/-- D hidden too -/
def Fx.also (ph : Fx) (D : Addr) : Fx := ⟨fun b => ph.ph b ∨ b = D, ph.ba⟩
theorem hid_also : hid (ph.also D) am H = hid ph am (del D H) := by
  funext b
  unfold hid
  by_cases hD : b = D
  · rw [hD, del_same, if_pos (show Hid (ph.also D) am D from .inl (.inr rfl))]
    split <;> rfl
  · rw [del_ne hD]
    have : Hid (ph.also D) am b ↔ Hid ph am b := by
      unfold Hid Fx.also
      constructor
      · rintro ((q | q) | q)
        · exact .inl q
        · exact (hD q).elim
        · exact .inr q
      · rintro (q | q)
        · exact .inl (.inl q)
        · exact .inr q
    by_cases h : Hid ph am b
    · rw [if_pos h, if_pos (this.mpr h)]
    · rw [if_neg h, if_neg (fun z => h (this.mp z))]
theorem SR.also (s : SR K ph am σ (del D H) δ) {o : HO} (e : H D = some o) (hm : mu o := by intro _ z; cases z) : SR K (ph.also D) am σ H δ := by
  have aD : ∀ i a, am i = some a → a ≠ D := fun i a h z => by
    obtain ⟨o', h'⟩ := s.hidden (.inr ⟨i, h⟩)
    rw [z, del_same] at h'
    cases h'
  refine ⟨s.len, fun i d q => by rw [hid_also]; exact s.fz i d q, fun i b ds q => ?_, fun i a q => ?_, s.inj, fun b hb => ?_, s.bas, fun i o q => ?_⟩
  · obtain ⟨a, vs, h1, h2, h3, h4, h5⟩ := s.ow i b ds q
    exact ⟨a, vs, h1, h2, by rw [del_ne (aD i a h1)] at h3; exact h3, by rw [hid_also]; exact h4, h5⟩
  · obtain ⟨h1, h2⟩ := s.amf i a q
    exact ⟨fun z => z.elim h1 (aD i a q), h2⟩
  · rcases hb with hb | hb
    · obtain ⟨o', h', m⟩ := s.phs b hb
      have : b ≠ D := fun z => by
        rw [z, del_same] at h'
        cases h'
      rw [del_ne this] at h'
      exact ⟨o', h', m⟩
    · exact ⟨o, by rw [hb]; exact e, hm⟩
  · obtain ⟨a, u, h1, h2, h3, h4, h5⟩ := s.od i o q
    exact ⟨a, u, h1, h2, by rw [del_ne (aD i a h1)] at h3; exact h3, by rw [hid_also]; exact h4, h5⟩
theorem SR.unalso (s : SR K (ph.also D) am σ H δ) (hph : ¬ ph.ph D) : SR K ph am σ (del D H) δ := by
  have aD : ∀ i a, am i = some a → a ≠ D := fun i a h z => (s.amf i a h).1 (.inr z)
  refine ⟨s.len, fun i d q => by rw [← hid_also]; exact s.fz i d q, fun i b ds q => ?_, fun i a q => ?_, s.inj, fun b hb => ?_, s.bas, fun i o q => ?_⟩
  · obtain ⟨a, vs, h1, h2, h3, h4, h5⟩ := s.ow i b ds q
    exact ⟨a, vs, h1, h2, by rw [del_ne (aD i a h1)]; exact h3, by rw [← hid_also]; exact h4, h5⟩
  · obtain ⟨h1, h2⟩ := s.amf i a q
    exact ⟨fun z => h1 (.inl z), h2⟩
  · obtain ⟨o', h', m⟩ := s.phs b (.inl hb)
    have : b ≠ D := fun z => hph (by rw [← z]; exact hb)
    exact ⟨o', by rw [del_ne this]; exact h', m⟩
  · obtain ⟨a, u, h1, h2, h3, h4, h5⟩ := s.od i o q
    exact ⟨a, u, h1, h2, by rw [del_ne (aD i a h1)]; exact h3, by rw [← hid_also]; exact h4, h5⟩
theorem Step.del (st : Step am H am' H') (hD : ∀ i, am' i ≠ some D) : Step am (PD.del D H) am' (PD.del D H') where
  keep := fun b o h n => by
    by_cases z : b = D
    · rw [z, del_same] at h; cases h
    · rw [del_ne z] at h ⊢
      exact st.keep b o h n
  new := fun i a h => by
    rcases st.new i a h with q | q
    · exact .inl q
    · refine .inr ?_
      rw [del_ne (fun z => hD i (by rw [← z]; exact h))]
      exact q
  there := fun b o h => by
    by_cases z : b = D
    · rw [z, del_same] at h; cases h
    · rw [del_ne z] at h ⊢
      exact st.there b o h

/-! ### the comprehension's own names -/
def wipeD (δ : Sg) : List Nat → Sg
  | [] => δ
  | i :: r => (wipeD δ r).set i .un
def noOw (δ : Sg) (is : List Nat) : Bool := is.all fun i => match δ[i]? with
  | some (.ow _ _) => false
  | some (.od _) => false
  | _ => true
theorem wipeD_length : ∀ {is : List Nat}, (wipeD δ is).length = δ.length
  | [] => rfl
  | i :: r => by rw [wipeD, List.length_set, wipeD_length]
theorem wipeD_out : ∀ {is : List Nat}, i ∉ is → (wipeD δ is)[i]? = δ[i]?
  | [], _ => rfl
  | j :: r, h => by
    rw [wipeD, List.getElem?_set_ne (fun z => h (by simp [z])), wipeD_out (fun z => h (by simp [z]))]
theorem wipeD_in : ∀ {is : List Nat} {c : Cell}, i ∈ is → (wipeD δ is)[i]? = some c → c = .un
  | j :: r, c, h, q => by
    by_cases hj : j = i
    · subst hj
      rw [wipeD] at q
      by_cases hl : j < (wipeD δ r).length
      · rw [List.getElem?_set_self hl] at q
        exact (Option.some.inj q).symm
      · rw [List.getElem?_eq_none (by rw [List.length_set]; omega)] at q
        cases q
    · rw [wipeD, List.getElem?_set_ne hj] at q
      exact wipeD_in (by simpa [Ne.symm hj] using h) q
theorem SR.wipe (s : SR K ph am σ H δ) {is : List Nat} (n : noOw δ is = true) : SR K ph am (L2.wipe σ is) H (wipeD δ is) := by
  have no : ∀ i ∈ is, ∀ c : Cell, c.Own → δ[i]? ≠ some c := fun i hi c co e => by
    have := List.all_eq_true.mp n i hi
    rw [e] at this
    cases c <;> first | exact co.elim | cases this
  refine ⟨by rw [L2.wipe_length, wipeD_length, s.len], fun i d q => ?_, fun i b ds q => ?_, fun i a q => ?_, s.inj, s.phs, s.bas, fun i o q => ?_⟩
  · by_cases hi : i ∈ is
    · cases wipeD_in hi q
    · rw [wipeD_out hi] at q
      rw [L2.wipe_out hi]
      exact s.fz i d q
  · by_cases hi : i ∈ is
    · cases wipeD_in hi q
    · rw [wipeD_out hi] at q
      rw [L2.wipe_out hi]
      exact s.ow i b ds q
  · obtain ⟨h1, c, h2, h3⟩ := s.amf i a q
    exact ⟨h1, c, by rw [wipeD_out (fun hi => no i hi c h3 h2)]; exact h2, h3⟩
  · by_cases hi : i ∈ is
    · cases wipeD_in hi q
    · rw [wipeD_out hi] at q
      rw [L2.wipe_out hi]
      exact s.od i o q
/-- the names as they were, all else as it is -/
def backD (δ0 δ : Sg) : List Nat → Sg
  | [] => δ
  | i :: r => (backD δ0 δ r).set i (δ0.getD i .un)
theorem backD_length {δ0 : Sg} : ∀ {is : List Nat}, (backD δ0 δ is).length = δ.length
  | [] => rfl
  | i :: r => by rw [backD, List.length_set, backD_length]
theorem backD_out {δ0 : Sg} : ∀ {is : List Nat}, i ∉ is → (backD δ0 δ is)[i]? = δ[i]?
  | [], _ => rfl
  | j :: r, h => by
    rw [backD, List.getElem?_set_ne (fun z => h (by simp [z])), backD_out (fun z => h (by simp [z]))]
theorem backD_in {δ0 : Sg} : ∀ {is : List Nat} {c : Cell}, i ∈ is → (backD δ0 δ is)[i]? = some c → c = δ0.getD i .un
  | j :: r, c, h, q => by
    by_cases hj : j = i
    · subst hj
      rw [backD] at q
      by_cases hl : j < (backD δ0 δ r).length
      · rw [List.getElem?_set_self hl] at q
        exact (Option.some.inj q).symm
      · rw [List.getElem?_eq_none (by rw [List.length_set]; omega)] at q
        cases q
    · rw [backD, List.getElem?_set_ne hj] at q
      exact backD_in (by simpa [Ne.symm hj] using h) q
theorem SR.back {δ0 : Sg} {am0 : Am} {H0 : Hp} (s0 : SR K ph am0 σ H0 δ0) (st : Step am0 H0 am H) {is : List Nat} (n0 : noOw δ0 is = true) (s : SR K ph am (L2.wipe σ is) H δ) (n : ∀ i ∈ is, ∀ c, δ[i]? = some c → c = .un) : SR K ph am σ H (backD δ0 δ is) := by
  have no : ∀ i ∈ is, ∀ c : Cell, c.Own → δ0[i]? ≠ some c := fun i hi c co e => by
    have := List.all_eq_true.mp n0 i hi
    rw [e] at this
    cases c <;> first | exact co.elim | cases this
  refine ⟨?_, fun i d q => ?_, fun i b ds q => ?_, fun i a q => ?_, s.inj, s.phs, s.bas, fun i o q => ?_⟩
  · have := s.len
    rw [L2.wipe_length] at this
    rw [backD_length, this]
  · by_cases hi : i ∈ is
    · have e := backD_in hi q
      cases e0 : δ0[i]? with
      | none =>
        rw [List.getD_eq_getElem?_getD, e0] at e
        cases e
      | some c =>
        rw [List.getD_eq_getElem?_getD, e0] at e
        have e' : Cell.fz d = c := e
        subst e'
        obtain ⟨v, h1, h2⟩ := s0.fz i d e0
        exact ⟨v, h1, dp_mono st.hid h2⟩
    · rw [backD_out hi] at q
      obtain ⟨v, h1, h2⟩ := s.fz i d q
      rw [L2.wipe_out hi] at h1
      exact ⟨v, h1, h2⟩
  · by_cases hi : i ∈ is
    · have e := backD_in hi q
      cases e0 : δ0[i]? with
      | none =>
        rw [List.getD_eq_getElem?_getD, e0] at e
        cases e
      | some c =>
        rw [List.getD_eq_getElem?_getD, e0] at e
        have e' : Cell.ow b ds = c := e
        subst e'
        exact (no i hi (.ow b ds) trivial e0).elim
    · rw [backD_out hi] at q
      obtain ⟨a, vs, h1, h2, h3⟩ := s.ow i b ds q
      rw [L2.wipe_out hi] at h2
      exact ⟨a, vs, h1, h2, h3⟩
  · obtain ⟨h1, c, h2, h3⟩ := s.amf i a q
    have hi : i ∉ is := fun hi => by
      have e := n i hi _ h2
      rw [e] at h3
      exact h3.elim
    exact ⟨h1, c, by rw [backD_out hi]; exact h2, h3⟩
  · by_cases hi : i ∈ is
    · have e := backD_in hi q
      cases e0 : δ0[i]? with
      | none =>
        rw [List.getD_eq_getElem?_getD, e0] at e
        cases e
      | some c =>
        rw [List.getD_eq_getElem?_getD, e0] at e
        have e' : Cell.od o = c := e
        subst e'
        exact (no i hi (.od o) trivial e0).elim
    · rw [backD_out hi] at q
      obtain ⟨a, u, h1, h2, h3⟩ := s.od i o q
      rw [L2.wipe_out hi] at h2
      exact ⟨a, u, h1, h2, h3⟩
/-! ### [e for x in xs if t] -/
def compD (is : List Nat) (set : Tg) (t : M Bool) (el : M PyData) : List PyData → List PyData → Sg → Option (List PyData × Sg)
  | [], acc, δ => some (acc, δ)
  | d :: ds, acc, δ => match set d δ with
    | none => none
    | some δ1 => match t δ1 with
      | some (.ok true, δ2) => match el δ2 with
        | some (.ok y, δ3) => if acc.length < sizeLine ∧ noOw δ3 is = true then compD is set t el ds (acc ++ [y]) (wipeD δ3 is) else none
        | _ => none
      | some (.ok false, δ2) => if noOw δ2 is = true then compD is set t el ds acc (wipeD δ2 is) else none
      | _ => none
def xComp (it : M (List PyData)) (is : List Nat) (set : Tg) (t : M Bool) (el : M PyData) : M (List PyData) := bnd it fun ds => fun δ =>
  if noOw δ is = true then match compD is set t el ds [] (wipeD δ is) with
    | some (acc, δ') => some (.ok acc, backD δ δ' is)
    | none => none
  else none
theorem compD_un {is : List Nat} {set : Tg} {t : M Bool} {el : M PyData} : ∀ {ds acc out : List PyData} {δ δ' : Sg}, compD is set t el ds acc δ = some (out, δ') → (∀ i ∈ is, ∀ c, δ[i]? = some c → c = .un) → ∀ i ∈ is, ∀ c, δ'[i]? = some c → c = .un
  | [], acc, out, δ, δ', h, n => by cases h; exact n
  | d :: ds, acc, out, δ, δ', h, n => by
    unfold compD at h
    split at h
    · cases h
    · split at h
      · split at h
        · split at h
          · exact compD_un h fun i hi c q => wipeD_in hi q
          · cases h
        · cases h
      · split at h
        · exact compD_un h fun i hi c q => wipeD_in hi q
        · cases h
      · cases h
abbrev Blk (X : Cx) (scope : Scope) (s : Shared) (H : Hp) (C : Addr) (cl : List (Str × Addr)) (fp : List Addr) : Cx := X.blk s H scope (compEnvC scope cl C X.env) fp
/-- a target of a comprehension: what it stores are the own names -/
structure DGc (X : Cx) (tg : Expr) (is : List Nat) (s : Tg) : Prop where
  ex : ∃ t, PG X tg t ∧ ∀ (ph : Fx) (am : Am) (σ : L2.St) (H : Hp) (δ δ' : Sg) (v : V) (d : PyData) (Q : L2.St → Hp → Prop), SR X.K ph am σ H δ → Dq X.K (hid ph am H) v d → s d δ = some δ' →
    (∀ am' σ', Step am H am' H → SR X.K ph am' σ' H δ' → L2.wipe σ' is = L2.wipe σ is → Q σ' H) → t v σ H Q
def tgcOf (K : PySem.W.Frag) (is : List Nat) (s : Tg) : TG := fun v σ H Q => ∃ ph am δ δ' d, SR K ph am σ H δ ∧ Dq K (hid ph am H) v d ∧ s d δ = some δ' ∧ (∀ am' σ', Step am H am' H → SR K ph am' σ' H δ' → L2.wipe σ' is = L2.wipe σ is → Q σ' H)
theorem DGc.can {tg : Expr} {is : List Nat} {s : Tg} (d : DGc X tg is s) : PG X tg (tgcOf X.K is s) := by
  obtain ⟨t, p, q⟩ := d.ex
  exact ⟨fun pins st σ H v u Q I r ⟨ph, am, δ, δ', dd, s1, s2, s3, k⟩ => p.run pins st σ H v u Q I r (q ph am σ H δ δ' v dd Q s1 s2 s3 k)⟩
theorem wipe_get : ∀ {is : List Nat} {σ : L2.St} {j : Nat}, (L2.wipe σ is)[j]? = if j ∈ is then (σ[j]?).map (fun _ => none) else σ[j]?
  | [], σ, j => by simp [L2.wipe]
  | v :: r, σ, j => by
    rw [L2.wipe]
    by_cases h : v = j
    · subst h
      rw [if_pos (by simp)]
      by_cases hl : v < σ.length
      · rw [List.getElem?_set_self (by rw [L2.wipe_length]; exact hl), List.getElem?_eq_getElem hl]
        rfl
      · rw [List.getElem?_eq_none (by rw [List.length_set, L2.wipe_length]; omega), List.getElem?_eq_none (by omega)]
        rfl
    · rw [List.getElem?_set_ne h, wipe_get]
      by_cases hr : j ∈ r
      · rw [if_pos hr, if_pos (by simp [hr])]
      · rw [if_neg hr, if_neg (by simp [hr, Ne.symm h])]
theorem wipe_set {is : List Nat} {i : Nat} {x : Option V} (h : i ∈ is) : L2.wipe (σ.set i x) is = L2.wipe σ is := by
  apply List.ext_getElem?
  intro j
  rw [wipe_get, wipe_get]
  by_cases hj : j ∈ is
  · rw [if_pos hj, if_pos hj]
    by_cases hl : j < σ.length
    · rw [List.getElem?_eq_getElem (by rw [List.length_set]; exact hl), List.getElem?_eq_getElem hl]
      rfl
    · rw [List.getElem?_eq_none (by rw [List.length_set]; omega), List.getElem?_eq_none (by omega)]
  · rw [if_neg hj, if_neg hj, List.getElem?_set_ne (fun z => hj (by rw [← z]; exact h))]
theorem wipe_wipe {is : List Nat} : L2.wipe (L2.wipe σ is) is = L2.wipe σ is := by
  apply List.ext_getElem?
  intro j
  rw [wipe_get, wipe_get]
  by_cases hj : j ∈ is
  · rw [if_pos hj, if_pos hj]
    cases σ[j]? <;> rfl
  · rw [if_neg hj, if_neg hj]
theorem dgc_name {is : List Nat} {i : Nat} {x : Str} (hN : X.N.Nodup) (hm : i ∈ is) (hi : X.N[i]? = some x := by rfl) (hx : Loc X.env.scope x := by first | exact Or.inl rfl | exact Or.inr rfl) (hf : X.fn x = true ∨ X.env.scope.names.lookup x = some .local := by first | exact .inl rfl | exact .inr rfl) : DGc X (.Name x pos) is (sName i) :=
  ⟨⟨gName i, pg_name hN hi hx hf, fun ph am σ H δ δ' v d Q s dv q k => by
    obtain ⟨c, e1, e2, rfl⟩ := sName_some q
    exact k _ _ step_drop (s.put e1 e2 dv) (wipe_set hm)⟩⟩
structure DGsc (X : Cx) (ts : List Expr) (is : List Nat) (s : Tgs) : Prop where
  ex : ∃ t, PGs X ts t ∧ ∀ (ph : Fx) (am : Am) (σ : L2.St) (H : Hp) (δ δ' : Sg) (vs : List V) (ds : List PyData) (Q : L2.St → Hp → Prop), SR X.K ph am σ H δ → DqAll X.K (hid ph am H) vs ds → s ds δ = some δ' →
    (∀ am' σ', Step am H am' H → SR X.K ph am' σ' H δ' → L2.wipe σ' is = L2.wipe σ is → Q σ' H) → t vs σ H Q
theorem dgsc_nil {is : List Nat} : DGsc X [] is sNil := ⟨⟨gNil, pgs_nil, fun ph am σ H δ δ' vs ds Q s dv q k => by
  cases dv with
  | nil => cases q; exact ⟨rfl, k am σ Step.refl s rfl⟩
  | cons _ _ => cases q⟩⟩
theorem dgsc_cons {is : List Nat} {tg : Expr} {ts : List Expr} {s : Tg} {r : Tgs} (h : DGc X tg is s) (t : DGsc X ts is r) (hs : (assignEach (tg :: ts) X.env).map (·.2) = assign tg X.env :: (assignEach ts X.env).map (·.2) := by rfl) : DGsc X (tg :: ts) is (sCons s r) := by
  obtain ⟨t1, p1, q1⟩ := h.ex
  obtain ⟨t2, p2, q2⟩ := t.ex
  refine ⟨⟨_, pgs_cons p1 p2 hs, fun ph am σ H δ δ' vs ds Q s dv q k => ?_⟩⟩
  cases dv with
  | nil => cases q
  | cons dv dt =>
    rename_i v vs d ds
    unfold sCons at q
    simp only at q
    split at q
    · rename_i δ1 e1
      refine ⟨v, vs, rfl, q1 ph am σ H δ δ1 v d _ s dv e1 fun am1 σ1 st1 s1 w1 => ?_⟩
      exact q2 ph am1 σ1 H δ1 δ' vs ds Q s1 (dps_mono st1.hid dt) q fun am2 σ2 st2 s2 w2 => k am2 σ2 (st1.trans st2) s2 (w2.trans w1)
    · cases q
theorem dgc_tup {is : List Nat} {ts : List Expr} {k n : Nat} {r : Tgs} (hc : X.calm = true) (t : DGsc X ts is r) (hn : (assignEach ts X.env).length = n := by rfl) (hst : (assignEach ts X.env).findIdx? (·.1) = none := by rfl) : DGc X (.Tuple ts k pos) is (sTup n r) := by
  obtain ⟨t2, p2, q2⟩ := t.ex
  refine ⟨⟨_, pg_tup hc p2 hn hst, fun ph am σ H δ δ' v d Q s dv q k => ?_⟩⟩
  cases dv with
  | tup h1 a1 =>
    unfold sTup at q
    simp only at q
    split at q
    · rename_i hl
      exact ⟨_, _, rfl, seqT_hid h1, by rw [a1.length]; exact hl, q2 ph am σ H δ δ' _ _ Q s a1 q k⟩
    · cases q
  | _ => cases q
structure DTs (X : Cx) (W : WX) (es : List Expr) (f : M Bool) : Prop where
  ex : ∃ t, PTs X es t ∧ ReadT X W t f
theorem dts_nil : DTs X W [] (ret true) := ⟨⟨tYes, pts_nil, fun ph am σ H δ Q ans δ' s q k _ => by cases q; exact k _ rfl am H Step.refl s⟩⟩
theorem dts_one (h : DT X W e fb) : DTs X W [e] fb := by
  obtain ⟨t, p, q⟩ := h.ex
  exact ⟨⟨t, pts_one p, q⟩⟩
theorem DTs.can (d : DTs X W es fb) : PTs X es (ttOf X.K X.mg W fb) := by
  obtain ⟨t, p, q⟩ := d.ex
  exact ⟨fun pins s σ H Q I ⟨ph, am, δ, ans, δ', s1, e, k, kx⟩ => p.run pins s σ H Q I (q ph am σ H δ Q ans δ' s1 e k kx)⟩
theorem comp_read {ti : TI} {is : List Nat} {set : Tg} {t : M Bool} {el : M PyData} (qi : ReadI X W ti fs) : ReadF X W (tLc ti (tgcOf X.K is set) (ttOf X.K X.mg E00 t) (tOf X.K X.mg E00 el) is) (xComp fs is set t el) := by
  intro ph am σ H δ Q ans δ' s z k kx
  rcases bnd_some z with ⟨ds, δ1, e1, e2⟩ | ⟨c, fs, e1, e2⟩
  · refine qi ph am σ H δ _ _ _ s e1 (fun d' ed am1 H1 J st1 s1 wd => ?_) (fun c fs z => by cases z)
    cases ed
    split at e2
    · rename_i hno
      split at e2
      · rename_i acc δ2 ec
        cases e2
        intro D hD
        obtain ⟨G, Y, w, hG, hY⟩ := wd
        have nD : ¬ ph.ph D := fun z => by
          obtain ⟨o, h, _⟩ := s1.phs D z
          rw [hD] at h
          cases h
        refine lc_it w (fun i H' => ∃ am2 δ3 av ad, Step am1 H1 am2 (del D H') ∧ SR X.K ph am2 (L2.wipe σ is) (del D H') δ3 ∧ H' D = some (.lst av) ∧ DqAll X.K (hid ph am2 (del D H')) av ad ∧ av.length ≤ sizeLine ∧ (∀ i ∈ is, ∀ c, δ3[i]? = some c → c = .un) ∧ compD is set t el (ds.drop i) ad δ3 = some (acc, δ2)) ?_ (fun i H' _ ⟨am2, δ3, av, ad, st, s2, hl, dq, hz, hu, el⟩ => hG (ph.also D) am2 H' (by rw [hid_also]; exact st.hid)) (fun i x H2 H3 hi ⟨am2, δ3, av, ad, st, s2, hl, dq, hz, hu, ee⟩ y => ?_) (fun H' ⟨am2, δ3, av, ad, st, s2, hl, dq, hz, hu, ee⟩ => ?_)
        · rw [del_new hD]
          exact ⟨am1, wipeD δ1 is, [], [], Step.refl, s1.wipe hno, upd_same, .nil, Nat.zero_le _, fun i hi c q => wipeD_in hi q, ec⟩
        · have sA : SR X.K (ph.also D) am2 (L2.wipe σ is) H2 δ3 := s2.also hl
          obtain ⟨d, hd, sm, dqx⟩ := hY i x H2 H3 (ph.also D) am2 hi (by rw [hid_also]; exact st.hid) (fun b h => sA.hidden h) y
          have hdr : ds.drop i = d :: ds.drop (i + 1) := by
            obtain ⟨h1, h2⟩ := List.getElem?_eq_some_iff.mp hd
            rw [List.drop_eq_getElem_cons h1, h2]
          rw [hdr] at ee
          unfold compD at ee
          split at ee
          · cases ee
          · rename_i δ4 es
            refine ⟨ph.also D, am2, δ3, δ4, d, sA.same sm, dqx, es, fun am4 σ4 st4 s4 w4 => ?_⟩
            rw [wipe_wipe] at w4
            have fin : ∀ {am6 : Am} {H6 : Hp} {δ6 : Sg} {ov : List V} {od : List PyData}, Step am4 H3 am6 H6 → SR X.K (ph.also D) am6 σ4 H6 δ6 → noOw δ6 is = true → DqAll X.K (hid (ph.also D) am6 H6) ov od → (av ++ ov).length ≤ sizeLine →
                compD is set t el (ds.drop (i + 1)) (ad ++ od) (wipeD δ6 is) = some (acc, δ2) → H6 D = some (.lst av) ∧ ∀ H7, H7 D = some (.lst (av ++ ov)) → del D H7 = del D H6 →
                ∃ am2 δ3 av ad, Step am1 H1 am2 (del D H7) ∧ SR X.K ph am2 (L2.wipe σ is) (del D H7) δ3 ∧ H7 D = some (.lst av) ∧ DqAll X.K (hid ph am2 (del D H7)) av ad ∧ av.length ≤ sizeLine ∧ (∀ i ∈ is, ∀ c, δ3[i]? = some c → c = .un) ∧ compD is set t el (ds.drop (i + 1)) ad δ3 = some (acc, δ2) := by
              intro am6 H6 δ6 ov od st6 s6 no6 dv hz6 e6
              have stT : Step am2 H2 am6 H6 := ((Step.of sm).trans st4).trans st6
              have hD6 : ∀ i, am6 i ≠ some D := fun i e => (s6.amf i D e).1 (.inr rfl)
              refine ⟨stT.keep D _ hl fun i e => (sA.amf i D e).1 (.inr rfl), fun H7 h7 e7 => ?_⟩
              rw [e7]
              refine ⟨am6, wipeD δ6 is, av ++ ov, ad ++ od, st.trans (stT.del hD6), ?_, h7, ?_, hz6, fun i hi c q => wipeD_in hi q, e6⟩
              · have := (s6.wipe no6).unalso nD
                rw [w4] at this
                exact this
              · rw [hid_also] at dv
                exact (dps_mono (stT.del hD6).hid dq).append dv
            refine ⟨w4, ?_⟩
            split at ee
            · rename_i δ5 et
              split at ee
              · rename_i yy δ6 ey
                split at ee
                · rename_i hc
                  refine ⟨ph.also D, am4, δ4, _, δ5, s4, et, fun b eb am5 H5 st5 s5 => ?_, fun c fs z => by cases z⟩
                  cases eb
                  refine iteT ⟨ph.also D, am5, δ5, _, δ6, s5, ey, fun d ed am6 v H6 st6 s6 d6 => ?_, fun c fs z => by cases z⟩
                  cases ed
                  have hl2 : av.length < sizeLine := by rw [dq.length]; exact hc.1
                  obtain ⟨g1, g2⟩ := fin (st5.trans st6) s6 hc.2 (.cons d6 .nil) (by rw [List.length_append]; exact hl2) ee
                  exact ⟨av, g1, hl2, g2 _ upd_same del_upd⟩
                · cases ee
              · cases ee
            · rename_i δ5 et
              split at ee
              · rename_i hc
                refine ⟨ph.also D, am4, δ4, _, δ5, s4, et, fun b eb am5 H5 st5 s5 => ?_, fun c fs z => by cases z⟩
                cases eb
                refine iteF ?_
                obtain ⟨g1, g2⟩ := fin (ov := []) (od := []) st5 s5 hc .nil (by rw [List.append_nil]; exact hz) (by rw [List.append_nil]; exact ee)
                exact g2 H5 (by rw [List.append_nil]; exact g1) rfl
              · cases ee
            · cases ee
        · rw [List.drop_length] at ee
          cases ee
          have := k _ rfl am2 D av (del D H') (st1.none hD) del_same (st1.trans st) (SR.back s1 st hno s2 hu) dq hz
          rw [upd_del hl] at this
          exact this
      · cases e2
    · cases e2
  · subst e2
    exact qi ph am σ H δ _ _ _ s e1 (fun d ed => by cases ed) (fun c' fs' z => by cases z; exact kx _ _ rfl)
theorem df_lc {elt tg iter : Expr} {ifs : List Expr} {scope : Scope} {own : List (Str × Nat)} {set : Tg} {t : M Bool} {el : M PyData} (hc : X.calm = true) (hN : X.N.Nodup) (hi : DI X W tg iter fs) (ok : BlkOk X.N X.env.scope scope own)
    (hg : ∀ (s : Shared) (H : Hp) (C : Addr) (cl : List (Str × Addr)) (fp : List Addr), DGc (Blk X scope s H C cl fp) tg (own.map (·.2)) set) (ht : ∀ (s : Shared) (H : Hp) (C : Addr) (cl : List (Str × Addr)) (fp : List Addr), DTs (Blk X scope s H C cl fp) E00 ifs t)
    (he : ∀ (s : Shared) (H : Hp) (C : Addr) (cl : List (Str × Addr)) (fp : List Addr), DE (Blk X scope s H C cl fp) E00 elt el) (hs : ∀ x, foldedSetIterable iter X.env x = pure x := by intro _; rfl) :
    DF X W (.ListComp elt [⟨tg, iter, ifs, 0⟩] scope pos) (xComp fs (own.map (·.2)) set t el) := by
  obtain ⟨ti, pi, qi⟩ := hi.ex
  exact ⟨⟨_, pe_lc hc hN pi ok (fun s H C cl fp => (hg s H C cl fp).can) (fun s H C cl fp => (ht s H C cl fp).can) (fun s H C cl fp => (he s H C cl fp).can) hs, comp_read qi⟩⟩
/-- name = [..] on one line -/
theorem ds_setLc {i : Nat} {y : Str} {py spos : Pos} {elt tg iter : Expr} {ifs : List Expr} {scope : Scope} {own : List (Str × Nat)} {set : Tg} {t : M Bool} {el : M PyData} (hc : X.calm = true) (hN : X.N.Nodup) (hi : DI X W tg iter fs) (ok : BlkOk X.N X.env.scope scope own)
    (hg : ∀ (s : Shared) (H : Hp) (C : Addr) (cl : List (Str × Addr)) (fp : List Addr), DGc (Blk X scope s H C cl fp) tg (own.map (·.2)) set) (ht : ∀ (s : Shared) (H : Hp) (C : Addr) (cl : List (Str × Addr)) (fp : List Addr), DTs (Blk X scope s H C cl fp) E00 ifs t)
    (he : ∀ (s : Shared) (H : Hp) (C : Addr) (cl : List (Str × Addr)) (fp : List Addr), DE (Blk X scope s H C cl fp) E00 elt el)
    (hsw : swapsWith (.ListComp elt [⟨tg, iter, ifs, 0⟩] scope pos) (some (.Name y py)) spos.line X.env = pure true)
    (hy : X.N[i]? = some y := by rfl) (hyl : X.env.scope.names.lookup y = some .local := by rfl) (hs : ∀ x, foldedSetIterable iter X.env x = pure x := by intro _; rfl) :
    DS X W (.Assign [.Name y py] (.ListComp elt [⟨tg, iter, ifs, 0⟩] scope pos) spos) (sOwn (xComp fs (own.map (·.2)) set t el) i) := by
  obtain ⟨ti, pi, qi⟩ := hi.ex
  exact ⟨⟨_, ps_setLc hc hN hy hyl hsw pi ok (fun s H C cl fp => (hg s H C cl fp).can) (fun s H C cl fp => (ht s H C cl fp).can) (fun s H C cl fp => (he s H C cl fp).can) hs, own_read (comp_read qi)⟩⟩
/-- .. the name is not to own it -/
theorem setf_read {i : Nat} {t : TE} (q1 : ReadF X W t fs) : ReadS X W (tAsg t (gName i)) (sAsg (bnd fs fun ds => ret (.list ds)) (sName i)) := by
  intro ph am σ H δ D ans δ' sr z k kx
  rcases bnd_some z with ⟨d, δ1, e1, e2⟩ | ⟨c, fs, e1, e2⟩
  · rcases bnd_some e1 with ⟨ds, δ2, e3, e4⟩ | ⟨c, fs, e3, e4⟩
    · cases e4
      refine q1 ph am σ H δ _ _ _ sr e3 (fun d ed am1 p vs H1 n0 n1 st1 s1 d1 hz => ?_) (fun c fs z => by cases z)
      cases ed
      split at e2
      · rename_i δ2 e5
        cases e2
        obtain ⟨c, e6, e7, rfl⟩ := sName_some e5
        have sm : Same H1 (upd H1 p (.lst vs)) := same_new n1
        exact k _ rfl _ _ _ ((st1.trans (Step.of sm)).trans step_drop) ((s1.same sm).put e6 e7 (new_lst (fun b h => s1.hidden h) n1 d1))
      · cases e2
    · cases e4
  · subst e2
    rcases bnd_some e1 with ⟨ds, δ2, e3, e4⟩ | ⟨c, fs, e3, e4⟩
    · cases e4
    · cases e4
      exact q1 ph am σ H δ _ _ _ sr e3 (fun d ed => by cases ed) (fun c' fs' z => by cases z; exact (kx _ _ rfl).at)
theorem ds_setLcF {i : Nat} {y : Str} {py spos : Pos} {elt tg iter : Expr} {ifs : List Expr} {scope : Scope} {own : List (Str × Nat)} {set : Tg} {t : M Bool} {el : M PyData} (hc : X.calm = true) (hN : X.N.Nodup) (hi : DI X W tg iter fs) (ok : BlkOk X.N X.env.scope scope own)
    (hg : ∀ (s : Shared) (H : Hp) (C : Addr) (cl : List (Str × Addr)) (fp : List Addr), DGc (Blk X scope s H C cl fp) tg (own.map (·.2)) set) (ht : ∀ (s : Shared) (H : Hp) (C : Addr) (cl : List (Str × Addr)) (fp : List Addr), DTs (Blk X scope s H C cl fp) E00 ifs t)
    (he : ∀ (s : Shared) (H : Hp) (C : Addr) (cl : List (Str × Addr)) (fp : List Addr), DE (Blk X scope s H C cl fp) E00 elt el)
    (hsw : swapsWith (.ListComp elt [⟨tg, iter, ifs, 0⟩] scope pos) (some (.Name y py)) spos.line X.env = pure true)
    (hy : X.N[i]? = some y := by rfl) (hyl : X.env.scope.names.lookup y = some .local := by rfl) (hs : ∀ x, foldedSetIterable iter X.env x = pure x := by intro _; rfl) :
    DS X W (.Assign [.Name y py] (.ListComp elt [⟨tg, iter, ifs, 0⟩] scope pos) spos) (sAsg (bnd (xComp fs (own.map (·.2)) set t el) fun ds => ret (.list ds)) (sName i)) := by
  obtain ⟨ti, pi, qi⟩ := hi.ex
  exact ⟨⟨_, ps_setLc hc hN hy hyl hsw pi ok (fun s H C cl fp => (hg s H C cl fp).can) (fun s H C cl fp => (ht s H C cl fp).can) (fun s H C cl fp => (he s H C cl fp).can) hs, setf_read (comp_read qi)⟩⟩
end PD
end

section
set_option Elab.async false
set_option linter.all false
set_option maxRecDepth 100000
set_option maxHeartbeats 1000000
namespace PD
open PySem PySem.Spec PyProof.Rows L2
variable {X : Cx} {W : WX} {pos : Pos} {e e1 e2 e3 : Expr} {es : List Expr} {f g h : M PyData} {fs : M (List PyData)} {fb gb : M Bool}
variable {K : PySem.W.Frag} {ph : Fx} {am am' am1 : Am} {H H' H1 : Hp} {σ σ' : L2.St} {δ δ' δ1 : Sg} {a p p1 p2 D : Addr} {v : V} {vs : List V} {d : PyData} {ds : List PyData} {i : Nat}

/-! ### what a def promises -/
def spD (K : PySem.W.Frag) (mg : Str → Option Value) (n : Nat) (G : Sg → Option (Ans PyData × Sg)) : Sp := fun vs H Q E => vs.length = n ∧ ∃ ph cells ans cells', SR K ph ph.ba (vs.map some) H cells ∧ G cells = some (ans, cells') ∧
  (∀ d, ans = .ok d → ∀ v H', Step ph.ba H ph.ba H' → SR K ph ph.ba (vs.map some) H' cells' → Dq K (hid ph ph.ba H') v d → Q v H') ∧ (∀ c fs, ans = .ex c fs → XPd K mg E ph ph.ba H c fs)
/-- .. handing back a new list -/
def spF (K : PySem.W.Frag) (mg : Str → Option Value) (n : Nat) (G : Sg → Option (Ans (List PyData) × Sg)) : Sp := fun vs H Q E => vs.length = n ∧ ∃ ph cells ans cells', SR K ph ph.ba (vs.map some) H cells ∧ G cells = some (ans, cells') ∧
  (∀ ds, ans = .ok ds → ∀ p us H', H p = none → H' p = none → Step ph.ba H ph.ba H' → SR K ph ph.ba (vs.map some) H' cells' → DqAll K (hid ph ph.ba H') us ds → us.length ≤ sizeLine → Q (.ref p) (upd H' p (.lst us))) ∧ (∀ c fs, ans = .ex c fs → XPd K mg E ph ph.ba H c fs)
/-- the cells of what was lent, as they are at the end -/
def keepD : Sg → Sg → Sg
  | [], _ => []
  | .ow _ _ :: cs, d :: ds => d :: keepD cs ds
  | c :: cs, _ :: ds => c :: keepD cs ds
  | c :: cs, [] => c :: keepD cs []
def keepO (cells δ : Sg) : Option Sg := if cells.length ≤ δ.length then some (keepD cells δ) else none
theorem keepO_some {cells δ out : Sg} (h : keepO cells δ = some out) : cells.length ≤ δ.length ∧ out = keepD cells δ := by
  unfold keepO at h
  split at h
  · cases h; exact ⟨by assumption, rfl⟩
  · cases h
def runD (m : Nat) (g : MS) (cells : Sg) : Option (Ans PyData × Sg) := match g (cells ++ List.replicate (m - cells.length) .un) with
  | some (.ok (.rt d), δ) => (keepO cells δ).map fun out => (.ok d, out)
  | some (.ok (.rf ds), δ) => (keepO cells δ).map fun out => (.ok (.list ds), out)
  | some (.ok .nx, δ) => (keepO cells δ).map fun out => (.ok .none, out)
  | some (.ex c fs, δ) => some (.ex c fs, δ)
  | _ => none
def runF (m : Nat) (g : MS) (cells : Sg) : Option (Ans (List PyData) × Sg) := match g (cells ++ List.replicate (m - cells.length) .un) with
  | some (.ok (.rf ds), δ) => (keepO cells δ).map fun out => (.ok ds, out)
  | some (.ex c fs, δ) => some (.ex c fs, δ)
  | _ => none
theorem keepO_map {α : Type} {cells δ : Sg} {f : Sg → α × Sg} {r : α × Sg} (h : (keepO cells δ).map f = some r) : cells.length ≤ δ.length ∧ r = f (keepD cells δ) := by
  cases e : keepO cells δ with
  | none => rw [e] at h; cases h
  | some o =>
    obtain ⟨h1, h2⟩ := keepO_some e
    rw [e] at h
    cases h
    exact ⟨h1, by rw [h2]⟩
theorem keepD_length : ∀ (cs ds : Sg), (keepD cs ds).length = cs.length
  | [], _ => rfl
  | .ow _ _ :: cs, d :: ds => by simp [keepD, keepD_length cs ds]
  | .ow _ _ :: cs, [] => by simp [keepD, keepD_length cs []]
  | .un :: cs, _ :: ds => by simp [keepD, keepD_length cs ds]
  | .un :: cs, [] => by simp [keepD, keepD_length cs []]
  | .fz _ :: cs, _ :: ds => by simp [keepD, keepD_length cs ds]
  | .fz _ :: cs, [] => by simp [keepD, keepD_length cs []]
  | .od _ :: cs, _ :: ds => by simp [keepD, keepD_length cs ds]
  | .od _ :: cs, [] => by simp [keepD, keepD_length cs []]
theorem keepD_get : ∀ {cs ds : Sg} {i : Nat} {c : Cell}, cs.length ≤ ds.length → (keepD cs ds)[i]? = some c → ∃ c0, cs[i]? = some c0 ∧ ((∃ b es, c0 = .ow b es) ∧ ds[i]? = some c ∨ (∀ b es, c0 ≠ .ow b es) ∧ c = c0)
  | [], _, i, c, _, h => by simp [keepD] at h
  | c0 :: cs, [], _, _, hl, _ => by simp at hl
  | .ow b es :: cs, d :: ds, 0, c, hl, h => by
    simp [keepD] at h
    subst h
    exact ⟨_, rfl, .inl ⟨⟨b, es, rfl⟩, rfl⟩⟩
  | .un :: cs, d :: ds, 0, c, hl, h => by
    simp [keepD] at h
    subst h
    exact ⟨_, rfl, .inr ⟨fun _ _ z => (by cases z), rfl⟩⟩
  | .fz x :: cs, d :: ds, 0, c, hl, h => by
    simp [keepD] at h
    subst h
    exact ⟨_, rfl, .inr ⟨fun _ _ z => (by cases z), rfl⟩⟩
  | .od x :: cs, d :: ds, 0, c, hl, h => by
    simp [keepD] at h
    subst h
    exact ⟨_, rfl, .inr ⟨fun _ _ z => (by cases z), rfl⟩⟩
  | .ow b es :: cs, d :: ds, i + 1, c, hl, h => by
    obtain ⟨c0, h1, h2⟩ := keepD_get (cs := cs) (ds := ds) (i := i) (c := c) (by simpa using hl) (by simpa [keepD] using h)
    exact ⟨c0, by simpa using h1, by simpa using h2⟩
  | .un :: cs, d :: ds, i + 1, c, hl, h => by
    obtain ⟨c0, h1, h2⟩ := keepD_get (cs := cs) (ds := ds) (i := i) (c := c) (by simpa using hl) (by simpa [keepD] using h)
    exact ⟨c0, by simpa using h1, by simpa using h2⟩
  | .fz x :: cs, d :: ds, i + 1, c, hl, h => by
    obtain ⟨c0, h1, h2⟩ := keepD_get (cs := cs) (ds := ds) (i := i) (c := c) (by simpa using hl) (by simpa [keepD] using h)
    exact ⟨c0, by simpa using h1, by simpa using h2⟩
  | .od x :: cs, d :: ds, i + 1, c, hl, h => by
    obtain ⟨c0, h1, h2⟩ := keepD_get (cs := cs) (ds := ds) (i := i) (c := c) (by simpa using hl) (by simpa [keepD] using h)
    exact ⟨c0, by simpa using h1, by simpa using h2⟩
theorem SR.ext (s : SR K ph am σ H δ) (m : Nat) : SR K ph am (σ ++ List.replicate m none) H (δ ++ List.replicate m .un) := by
  have lt : ∀ {i : Nat} {c : Cell}, (δ ++ List.replicate m .un)[i]? = some c → c ≠ .un → δ[i]? = some c ∧ i < δ.length := fun {i c} h hc => by
    by_cases hi : i < δ.length
    · rw [List.getElem?_append_left hi] at h
      exact ⟨h, hi⟩
    · rw [List.getElem?_append_right (by omega), List.getElem?_replicate] at h
      split at h
      · cases h; exact (hc rfl).elim
      · cases h
  have σl : ∀ {i : Nat}, i < δ.length → (σ ++ List.replicate m none)[i]? = σ[i]? := fun {i} hi => List.getElem?_append_left (by rw [s.len]; exact hi)
  refine ⟨by rw [List.length_append, List.length_append, List.length_replicate, List.length_replicate, s.len], fun i d q => ?_, fun i b ds q => ?_, fun i a q => ?_, s.inj, s.phs, s.bas, fun i o q => ?_⟩
  · obtain ⟨h1, h2⟩ := lt q (fun z => by cases z)
    rw [σl h2]
    exact s.fz i d h1
  · obtain ⟨h1, h2⟩ := lt q (fun z => by cases z)
    rw [σl h2]
    exact s.ow i b ds h1
  · obtain ⟨h1, c, h2, h3⟩ := s.amf i a q
    exact ⟨h1, c, by rw [List.getElem?_append_left (List.getElem?_eq_some_iff.mp h2).1]; exact h2, h3⟩
  · obtain ⟨h1, h2⟩ := lt q (fun z => by cases z)
    rw [σl h2]
    exact s.od i o h1
theorem hid_ba (s : ∀ (i : Nat) (a : Addr), ph.ba i = some a → am i = some a) : Same (hid ph am H) (hid ph ph.ba H) := fun b o h => by
  obtain ⟨h1, h2⟩ := hid_some.mp h
  exact hid_some.mpr ⟨fun z => h1 (z.elim .inl fun ⟨i, e⟩ => .inr ⟨i, s i b e⟩), h2⟩
theorem SR.leave {cells : Sg} {σ0 : L2.St} {H0 : Hp} (s0 : SR K ph ph.ba σ0 H0 cells) (st : Step ph.ba H0 am H) (s : SR K ph am σ H δ) (hl : cells.length ≤ δ.length) : Step ph.ba H0 ph.ba H ∧ SR K ph ph.ba σ0 H (keepD cells δ) := by
  have st' : Step ph.ba H0 ph.ba H := ⟨st.keep, fun i a q => .inl ⟨i, q⟩, st.there⟩
  refine ⟨st', by rw [keepD_length, s0.len], fun i d q => ?_, fun i b ds q => ?_, fun i a q => ?_, s0.inj, fun b hb => ?_, fun i a q => q, fun i o q => ?_⟩
  · obtain ⟨c0, h1, h2⟩ := keepD_get hl q
    rcases h2 with ⟨⟨b, es, e⟩, h3⟩ | ⟨h2, h3⟩
    · subst e
      obtain ⟨a, vs, o1, _⟩ := s0.ow i b es h1
      obtain ⟨_, c', h4, h5⟩ := s.amf i a (s.bas i a o1)
      rw [h3] at h4
      cases h4
      exact h5.elim
    · subst h3
      obtain ⟨v, g1, g2⟩ := s0.fz i d h1
      exact ⟨v, g1, dp_mono st'.hid g2⟩
  · obtain ⟨c0, h1, h2⟩ := keepD_get hl q
    rcases h2 with ⟨⟨b0, es, e⟩, h3⟩ | ⟨h2, h3⟩
    · subst e
      obtain ⟨a, vs, o1, o2, _, _⟩ := s0.ow i b0 es h1
      obtain ⟨a', vs', r1, r2, r3, r4, r5, r6⟩ := s.ow i b ds h3
      rw [s.bas i a o1] at r1
      cases r1
      exact ⟨a, vs', o1, o2, r3, dps_mono (hid_ba s.bas) r4, r5, r6⟩
    · exact (h2 b ds h3.symm).elim
  · obtain ⟨h1, c1, h2, hc1⟩ := s0.amf i a q
    obtain ⟨_, c2, h4, hc2⟩ := s.amf i a (s.bas i a q)
    have hi : i < (keepD cells δ).length := by
      rw [keepD_length]
      exact (List.getElem?_eq_some_iff.mp h2).1
    obtain ⟨c0, g1, g2⟩ := keepD_get hl (List.getElem?_eq_getElem hi)
    rw [h2] at g1
    cases g1
    rcases g2 with ⟨_, g3⟩ | ⟨g2, g3⟩
    · rw [h4] at g3
      exact ⟨h1, c2, by rw [List.getElem?_eq_getElem hi, ← g3], hc2⟩
    · exact ⟨h1, c1, by rw [List.getElem?_eq_getElem hi, g3], hc1⟩
  · exact s.phs b hb
  · obtain ⟨c0, h1, h2⟩ := keepD_get hl q
    rcases h2 with ⟨⟨b0, es, e⟩, h3⟩ | ⟨h2, h3⟩
    · subst e
      obtain ⟨a, vs, o1, o2, _, _⟩ := s0.ow i b0 es h1
      obtain ⟨a', u, r1, r2, r3, r4, r5⟩ := s.od i o h3
      rw [s.bas i a o1] at r1
      cases r1
      rw [o1] at r5
      cases r5
    · subst h3
      obtain ⟨a, u, o1, _, _, _, o5⟩ := s0.od i o h1
      rw [o1] at o5
      cases o5
section
variable {P : Program} {w : World} {mg : Str → Option Value} {base : Heap} {x qual : Str} {st : Stmt} {fa : Addr} {fd : FuncData} {N ps : List Str} {k : Nat} {gs : MS}
abbrev CxD (P : Program) (w : World) (K : PySem.W.Frag) (mg : Str → Option Value) (base : Heap) (N : List Str) (qual : Str) (st : Stmt) (fa : Addr) (cdv : Value) (A : Around) (outer : List PySem.Env) (s : Shared) (H : Hp) (E : XK) : Cx :=
  cxOf (L2.CX P w) P w K mg base N qual (defScope st) fa cdv A outer s H E
theorem keep_step {m : Nat} (hl : vs.length = m) (hN : m ≤ N.length) : L2.start N vs = vs.map some ++ List.replicate (N.length - m) none := by
  unfold L2.start
  rw [hl]
/-- a def, by its body -/
theorem fn_d (F : Fun K x qual st fa fd) (S : FnScope N ps (defScope st)) (hn : ps.length ≤ N.length)
    (body : ∀ (cdv : Value) (A : Around) (outer : List PySem.Env) (s : Shared) (H : Hp) (E : XK), Room k (A.deeper (envOfC qual (defScope st) s.heap.objs.size fa cdv)) → DSs (CxD P w K mg base N qual st fa cdv A outer s H E) (fun cls d _ H => E cls d H) (defBody st) gs) :
    FnOk P w K mg base (L2.CX P w) (k + 1) fa fd ps (spD K mg ps.length (runD N.length gs)) := by
  refine F.okX S (fun vs H Q E h => h.1) (fun cdv A outer s H vs Q E hr h => ?_)
  obtain ⟨hl, ph, cells, ans, cells', s0, q, k1, kx⟩ := h
  obtain ⟨t, pt, qt⟩ := (body cdv A outer s H E hr).ex
  refine ⟨t, pt, ?_⟩
  have hc : cells.length = ps.length := by
    have := s0.len
    rw [List.length_map, hl] at this
    exact this.symm
  have s1 : SR K ph ph.ba (L2.start N vs) H (cells ++ List.replicate (N.length - cells.length) .un) := by
    rw [keep_step hl hn, hc]
    exact s0.ext _
  unfold runD at q
  split at q
  · rename_i d δ e1
    obtain ⟨hle, q⟩ := keepO_map q
    cases q
    refine qt ph ph.ba _ H _ _ _ _ s1 e1 (fun fl z => ?_) (fun c fs z => by cases z)
    cases z
    intro am' σ' v H' st1 s2 dv
    obtain ⟨st2, s3⟩ := SR.leave s0 st1 s2 hle
    exact k1 _ rfl v H' st2 s3 (dp_mono (hid_ba s2.bas) dv)
  · rename_i ds δ e1
    obtain ⟨hle, q⟩ := keepO_map q
    cases q
    refine qt ph ph.ba _ H _ _ _ _ s1 e1 (fun fl z => ?_) (fun c fs z => by cases z)
    cases z
    intro am' σ' p us H' n0 n1 st1 s2 dv hz
    have sm : Same H' (upd H' p (.lst us)) := same_new n1
    obtain ⟨st2, s3⟩ := SR.leave s0 (st1.trans (Step.of sm)) (s2.same sm) hle
    exact k1 _ rfl _ _ st2 s3 (dp_mono (hid_ba s2.bas) (new_lst (fun b h => s2.hidden h) n1 dv))
  · rename_i δ e1
    obtain ⟨hle, q⟩ := keepO_map q
    cases q
    refine qt ph ph.ba _ H _ _ _ _ s1 e1 (fun fl z => ?_) (fun c fs z => by cases z)
    cases z
    intro am' σ' H' st1 s2
    obtain ⟨st2, s3⟩ := SR.leave s0 st1 s2 hle
    exact k1 _ rfl .non H' st2 s3 .non
  · rename_i c fs δ e1
    cases q
    exact qt ph ph.ba _ H _ _ _ _ s1 e1 (fun fl z => by cases z) (fun c fs z => by cases z; exact fun C dx am' σ' H' m st _ pl => kx _ _ rfl C dx am' H' m st pl)
  · cases q
/-- a def that hands back a new list -/
theorem fn_f (F : Fun K x qual st fa fd) (S : FnScope N ps (defScope st)) (hn : ps.length ≤ N.length)
    (body : ∀ (cdv : Value) (A : Around) (outer : List PySem.Env) (s : Shared) (H : Hp) (E : XK), Room k (A.deeper (envOfC qual (defScope st) s.heap.objs.size fa cdv)) → DSs (CxD P w K mg base N qual st fa cdv A outer s H E) (fun cls d _ H => E cls d H) (defBody st) gs) :
    FnOk P w K mg base (L2.CX P w) (k + 1) fa fd ps (spF K mg ps.length (runF N.length gs)) := by
  refine F.okX S (fun vs H Q E h => h.1) (fun cdv A outer s H vs Q E hr h => ?_)
  obtain ⟨hl, ph, cells, ans, cells', s0, q, k1, kx⟩ := h
  obtain ⟨t, pt, qt⟩ := (body cdv A outer s H E hr).ex
  refine ⟨t, pt, ?_⟩
  have hc : cells.length = ps.length := by
    have := s0.len
    rw [List.length_map, hl] at this
    exact this.symm
  have s1 : SR K ph ph.ba (L2.start N vs) H (cells ++ List.replicate (N.length - cells.length) .un) := by
    rw [keep_step hl hn, hc]
    exact s0.ext _
  unfold runF at q
  split at q
  · rename_i ds δ e1
    obtain ⟨hle, q⟩ := keepO_map q
    cases q
    refine qt ph ph.ba _ H _ _ _ _ s1 e1 (fun fl z => ?_) (fun c fs z => by cases z)
    cases z
    intro am' σ' p us H' n0 n1 st1 s2 dv hz
    obtain ⟨st2, s3⟩ := SR.leave s0 st1 s2 hle
    exact k1 _ rfl p us H' n0 n1 st2 s3 (dps_mono (hid_ba s2.bas) dv) hz
  · rename_i c fs δ e1
    cases q
    exact qt ph ph.ba _ H _ _ _ _ s1 e1 (fun fl z => by cases z) (fun c fs z => by cases z; exact fun C dx am' σ' H' m st _ pl => kx _ _ rfl C dx am' H' m st pl)
  · cases q
end
/-! ### calls of defs -/
variable {k : Nat} {fa : Addr} {fd : FuncData} {ps : List Str} {x : Str} {pf : Pos} {n : Nat}
/-- the callee never touches what is hidden here -/
def Fx.under (ph : Fx) (am : Am) : Fx := ⟨Hid ph am, fun _ => none⟩
theorem hid_under : hid (ph.under am) (fun _ => none) H = hid ph am H := by
  funext b
  unfold hid
  have : Hid (ph.under am) (fun _ => none) b ↔ Hid ph am b := ⟨fun z => z.elim id fun ⟨_, e⟩ => (by cases e), fun z => .inl z⟩
  by_cases h : Hid ph am b
  · rw [if_pos h, if_pos (this.mpr h)]
  · rw [if_neg h, if_neg (fun z => h (this.mp z))]
theorem map_fz_get {j : Nat} {c : Cell} (h : (ds.map Cell.fz)[j]? = some c) : ∃ d, ds[j]? = some d ∧ c = .fz d := by
  rw [List.getElem?_map] at h
  cases e : ds[j]? with
  | none => rw [e] at h; cases h
  | some d => rw [e] at h; cases h; exact ⟨d, rfl, rfl⟩
theorem SR.under (s : SR K ph am σ H δ) (dv : DqAll K (hid ph am H) vs ds) : SR K (ph.under am) (ph.under am).ba (vs.map some) H (ds.map .fz) := by
  refine ⟨by rw [List.length_map, List.length_map, dv.length], fun j d q => ?_, fun j b es q => ?_, fun j a q => (by cases q), fun j k a q => (by cases q), fun b hb => s.hiddenM hb, fun j a q => (by cases q), fun j o q => ?_⟩
  · obtain ⟨d', h1, h2⟩ := map_fz_get q
    cases h2
    obtain ⟨v, g1, g2⟩ := dv.get h1
    exact ⟨v, by rw [List.getElem?_map, g1]; rfl, by rw [show (ph.under am).ba = fun _ => none from rfl, hid_under]; exact g2⟩
  · obtain ⟨d', h1, h2⟩ := map_fz_get q
    cases h2
  · obtain ⟨d', h1, h2⟩ := map_fz_get q
    cases h2
theorem XP.of_under {c : Str} {fs : List (Str × PyData)} (s : SR X.K ph am σ H δ') (k : XP X W ph am σ H δ' c fs) : XPd X.K X.mg (WE W σ) (ph.under am) (ph.under am).ba H c fs := by
  intro C dx am' H' e st q
  have sm : Same H H' := fun b o h => st.keep b o h fun i z => by cases z
  refine k C dx am H' e (Step.of sm) (s.same sm) ?_
  rcases q with q | ⟨a, vs, e1, e0, e2, e3, e4⟩
  · exact .inl q
  · refine .inr ⟨a, vs, e1, e0, e2, e3, dps_mono (fun b o h => ?_) e4⟩
    obtain ⟨h1, h2⟩ := hid_some.mp h
    exact hid_some.mpr ⟨fun z => h1 (.inl z), h2⟩
def xDef (G : Sg → Option (Ans PyData × Sg)) (fs : M (List PyData)) : M PyData := bnd fs fun ds => fun δ => match G (ds.map .fz) with
  | some (.ok d, _) => some (.ok d, δ)
  | some (.ex c es, _) => some (.ex c es, δ)
  | none => none
theorem def_read {t : TA} {G : Sg → Option (Ans PyData × Sg)} (q : ReadA X W t fs) (hn : ∀ ds δ δ', fs δ = some (.ok ds, δ') → ds.length = n) : ReadE X W (tCallS (spD X.K X.mg n G) (WE W) t) (xDef G fs) := by
  intro ph am σ H δ Q ans δ' s z k kx
  rcases bnd_some z with ⟨ds, δ1, e1, e2⟩ | ⟨c, fs, e1, e2⟩
  · refine q ph am σ H δ _ _ _ s e1 (fun d' ed am1 vs H1 st1 s1 dv => ?_) (fun c fs z => by cases z)
    cases ed
    refine ⟨by rw [dv.length]; exact hn ds δ δ1 e1, ph.under am1, ds.map .fz, ?_⟩
    have s2 := s1.under dv
    split at e2
    · rename_i d cells e3
      cases e2
      refine ⟨_, _, s2, e3, fun d ed v H' st' _ dv' => ?_, fun c fs z => by cases z⟩
      cases ed
      have sm : Same H1 H' := fun b o h => st'.keep b o h fun i z => by cases z
      rw [show (ph.under am1).ba = fun _ => none from rfl, hid_under] at dv'
      exact k _ rfl am1 v H' (st1.trans (Step.of sm)) (s1.same sm) dv'
    · rename_i c es cells e3
      cases e2
      refine ⟨_, _, s2, e3, fun d ed => (by cases ed), fun c fs z => ?_⟩
      cases z
      exact XP.of_under s1 ((kx _ _ rfl).step st1)
    · cases e2
  · subst e2
    exact q ph am σ H δ _ _ _ s e1 (fun d ed => by cases ed) (fun c' fs' z => by cases z; exact kx _ _ rfl)
theorem da_len : True := trivial
theorem de_call {G : Sg → Option (Ans PyData × Sg)} (F : FnOk X.prog X.w X.K X.mg X.base (L2.CX X.prog X.w) k fa fd ps (spD X.K X.mg n G)) (hr : Room k X.A) (hm : X.mg x = some (.ref fa)) (hk : PySem.W.keepIn X.K (.ref fa) = true) (hb : Binds X.K fd ps []) (hx : ∀ σ, PassesAt (L2.CX X.prog X.w) X σ (WE W σ))
    (ha : DA X W (e :: es) fs) (hn : ∀ ds δ δ', fs δ = some (.ok ds, δ') → ds.length = n) (hg : Gl X x := by rfl) (hdb : (x == ("__debug__" : Str)) = false := by decide) (he : starEach (e :: es) X.env = (false, eval e X.env) :: starEach es X.env := by rfl) (hpl : (backTo pos (starEach es X.env)).any (·.1) = false := by rfl) :
    DE X W (.Call (.Name x pf) (e :: es) [] pos) (xDef G fs) := by
  obtain ⟨t, p, q⟩ := ha.ex
  exact ⟨⟨_, pe_callS F hr hg hm hk hb hx p hdb he hpl, def_read q hn⟩⟩
/-- the first argument a list of one's own, lent -/
def xDefO (G : Sg → Option (Ans PyData × Sg)) (i : Nat) (fs : M (List PyData)) : M PyData := fun δ => match δ[i]? with
  | some (.ow _ _) => (bnd fs fun ds => fun δ1 => match δ1[i]? with
    | some (.ow b os) => match G (.ow true os :: ds.map .fz) with
      | some (.ok d, .ow _ os' :: _) => some (.ok d, δ1.set i (.ow b os'))
      | _ => none
    | _ => none) δ
  | _ => none
def Fx.lend (ph : Fx) (am : Am) (i : Nat) (a : Addr) : Fx := ⟨fun b => Hid ph am b ∧ b ≠ a, fun j => if j = 0 then some a else none⟩
theorem lend_ba {i j : Nat} {b : Addr} : (ph.lend am i a).ba j = some b ↔ j = 0 ∧ b = a := by
  unfold Fx.lend
  by_cases h : j = 0
  · simp [h]; exact eq_comm
  · simp [h]
theorem hid_lend {i : Nat} (h : am i = some a) : hid (ph.lend am i a) (ph.lend am i a).ba H = hid ph am H := by
  funext b
  unfold hid
  have : Hid (ph.lend am i a) (ph.lend am i a).ba b ↔ Hid ph am b := by
    constructor
    · rintro (⟨q, _⟩ | ⟨j, q⟩)
      · exact q
      · obtain ⟨_, rfl⟩ := lend_ba.mp q
        exact .inr ⟨i, h⟩
    · intro q
      by_cases hb : b = a
      · exact .inr ⟨0, lend_ba.mpr ⟨rfl, hb⟩⟩
      · exact .inl ⟨q, hb⟩
  by_cases h : Hid ph am b
  · rw [if_pos h, if_pos (this.mpr h)]
  · rw [if_neg h, if_neg (fun z => h (this.mp z))]
theorem SR.lend (s : SR K ph am σ H δ) {i : Nat} {b : Bool} {os : List PyData} {ov : List V} (h1 : am i = some a) (h2 : H a = some (.lst ov)) (h3 : DqAll K (hid ph am H) ov os) (h4 : ov.length ≤ sizeLine) (dv : DqAll K (hid ph am H) vs ds) :
    SR K (ph.lend am i a) (ph.lend am i a).ba ((.ref a :: vs).map some) H (.ow true os :: ds.map .fz) := by
  refine ⟨by simp [dv.length], fun j d q => ?_, fun j b es q => ?_, fun j c q => ?_, fun j l c q1 q2 => ?_, fun c hc => s.hiddenM hc.1, fun j c q => q, fun j o q => ?_⟩
  · cases j with
    | zero => simp at q
    | succ j =>
      obtain ⟨d', g1, g2⟩ := map_fz_get (j := j) (c := Cell.fz d) q
      cases g2
      obtain ⟨v, g3, g4⟩ := dv.get g1
      exact ⟨v, by simp [g3], by rw [hid_lend h1]; exact g4⟩
  · cases j with
    | zero =>
      simp at q
      obtain ⟨rfl, rfl⟩ := q
      exact ⟨a, ov, lend_ba.mpr ⟨rfl, rfl⟩, rfl, h2, by rw [hid_lend h1]; exact h3, h4, fun z => by cases z⟩
    | succ j =>
      obtain ⟨d', g1, g2⟩ := map_fz_get (j := j) (c := Cell.ow b es) q
      cases g2
  · obtain ⟨rfl, rfl⟩ := lend_ba.mp q
    exact ⟨fun z => z.2 rfl, .ow true os, rfl, trivial⟩
  · rw [(lend_ba.mp q1).1, (lend_ba.mp q2).1]
  · cases j with
    | zero => simp at q
    | succ j =>
      obtain ⟨d', g1, g2⟩ := map_fz_get (j := j) (c := Cell.od o) q
      cases g2
theorem defO_read {i : Nat} {t : TA} {G : Sg → Option (Ans PyData × Sg)} (q : ReadA X W t fs) (hn : ∀ ds δ δ', fs δ = some (.ok ds, δ') → ds.length + 1 = n) : ReadE X W (tCallS (spD X.K X.mg n G) (WE W) (tCons (tVar i) t)) (xDefO G i fs) := by
  intro ph am σ H δ Q ans δ' s z k kx
  unfold xDefO at z
  split at z
  · rename_i b0 ds0 e3
    obtain ⟨a0, vs0, o1, o2, o3, o4, _, _⟩ := s.ow i b0 ds0 e3
    refine ⟨.ref a0, o2, ?_⟩
    rcases bnd_some z with ⟨ds, δ1, e4, e5⟩ | ⟨c, fs, e4, e5⟩
    · refine q ph am σ H δ _ _ _ s e4 (fun d' ed am1 vs H1 st1 s1 dv => ?_) (fun c fs z => by cases z)
      cases ed
      split at e5
      · rename_i b os e6
        obtain ⟨a1, ov, r1, r2, r3, r4, r5, r6⟩ := s1.ow i b os e6
        rw [o2] at r2
        cases r2
        split at e5
        · rename_i d b' os' rest e7
          cases e5
          refine ⟨by simp [dv.length, hn ds δ δ1 e4], ph.lend am1 i a0, _, _, _, s1.lend (b := b) r1 r3 r4 r5 dv, e7, fun d ed v H' st' s' dv' => ?_, fun c fs z => by cases z⟩
          cases ed
          have st2 : Step am1 H1 am1 H' := ⟨fun b o h m => st'.keep b o h fun j z => by
            obtain ⟨_, rfl⟩ := lend_ba.mp z
            exact m i r1, fun j b h => .inl ⟨j, h⟩, st'.there⟩
          rw [hid_lend r1] at dv'
          obtain ⟨a2, ov2, t1, t2, t3, t4, t5, _⟩ := s'.ow 0 b' os' rfl
          obtain ⟨_, rfl⟩ := lend_ba.mp t1
          rw [hid_lend r1] at t4
          have hi : i < δ1.length := (List.getElem?_eq_some_iff.mp e6).1
          refine k _ rfl am1 v H' (st1.trans st2) ⟨by rw [List.length_set, s1.len], fun j d q => ?_, fun j bb es q => ?_, fun j c q => ?_, s1.inj, fun c hc => ?_, s1.bas, fun j o q => ?_⟩ dv'
          · have hj : j ≠ i := fun z => by
              subst z
              rw [List.getElem?_set_self hi] at q
              cases q
            rw [List.getElem?_set_ne (Ne.symm hj)] at q
            obtain ⟨v, g1, g2⟩ := s1.fz j d q
            exact ⟨v, g1, dp_mono st2.hid g2⟩
          · by_cases hj : j = i
            · subst hj
              rw [List.getElem?_set_self hi] at q
              cases q
              exact ⟨a2, ov2, r1, o2, t3, t4, t5, r6⟩
            · rw [List.getElem?_set_ne (Ne.symm hj)] at q
              obtain ⟨a3, vs3, g1, g2, g3, g4, g5⟩ := s1.ow j bb es q
              refine ⟨a3, vs3, g1, g2, st'.keep _ _ g3 fun l z => ?_, dps_mono st2.hid g4, g5⟩
              obtain ⟨_, rfl⟩ := lend_ba.mp z
              exact hj (s1.inj j i _ g1 r1)
          · obtain ⟨g1, c2, g2, g3⟩ := s1.amf j c q
            by_cases hj : j = i
            · exact ⟨g1, .ow b os', by rw [hj]; exact List.getElem?_set_self hi, trivial⟩
            · exact ⟨g1, c2, by rw [List.getElem?_set_ne (Ne.symm hj)]; exact g2, g3⟩
          · obtain ⟨o, h, m⟩ := s1.phs c hc
            refine ⟨o, st'.keep c o h fun l z => ?_, m⟩
            obtain ⟨_, rfl⟩ := lend_ba.mp z
            exact (s1.amf i _ r1).1 hc
          · by_cases hj : j = i
            · subst hj
              rw [List.getElem?_set_self hi] at q
              cases q
            · rw [List.getElem?_set_ne (Ne.symm hj)] at q
              obtain ⟨a3, u3, g1, g2, g3, g4, g5⟩ := s1.od j o q
              refine ⟨a3, u3, g1, g2, st'.keep _ _ g3 fun l z => ?_, dor_mono st2.hid g4, g5⟩
              obtain ⟨_, rfl⟩ := lend_ba.mp z
              exact hj (s1.inj j i _ g1 r1)
        · cases e5
      · cases e5
    · subst e5
      exact q ph am σ H δ _ _ _ s e4 (fun d ed => by cases ed) (fun c' fs' z => by cases z; exact kx _ _ rfl)
  · cases z
theorem de_callO {i : Nat} {y : Str} {pn : Pos} {G : Sg → Option (Ans PyData × Sg)} (F : FnOk X.prog X.w X.K X.mg X.base (L2.CX X.prog X.w) k fa fd ps (spD X.K X.mg n G)) (hr : Room k X.A) (hm : X.mg x = some (.ref fa)) (hk : PySem.W.keepIn X.K (.ref fa) = true) (hb : Binds X.K fd ps []) (hx : ∀ σ, PassesAt (L2.CX X.prog X.w) X σ (WE W σ))
    (ha : DA X W es fs) (hn : ∀ ds δ δ', fs δ = some (.ok ds, δ') → ds.length + 1 = n) (hN : X.N[i]? = some y := by rfl) (hv : Vis X.env.scope y := by first | exact Or.inl rfl | exact Or.inr (Or.inl rfl) | exact Or.inr (Or.inr rfl)) (hd : (y == ("__debug__" : Str)) = false := by decide) (hcd : (y == ("__classdict__" : Str)) = false := by decide)
    (hg : Gl X x := by rfl) (hdb : (x == ("__debug__" : Str)) = false := by decide) (he : starEach (.Name y pn :: es) X.env = (false, eval (.Name y pn) X.env) :: starEach es X.env := by rfl) (hpl : (backTo pos (starEach es X.env)).any (·.1) = false := by rfl) :
    DE X W (.Call (.Name x pf) (.Name y pn :: es) [] pos) (xDefO G i fs) := by
  obtain ⟨t, p, q⟩ := ha.ex
  exact ⟨⟨_, pe_callS F hr hg hm hk hb hx (pa_cons (pe_var hN hv hd hcd) p he) hdb he hpl, defO_read q hn⟩⟩

/-- the one argument a new list, lent -/
def xDefT (G : Sg → Option (Ans PyData × Sg)) (fs : M (List PyData)) : M PyData := bnd fs fun ds => fun δ => match G [.ow true ds] with
  | some (.ok d, _) => some (.ok d, δ)
  | _ => none
def Fx.temp (ph : Fx) (am : Am) (a : Addr) : Fx := ⟨Hid ph am, fun j => if j = 0 then some a else none⟩
theorem temp_ba {j : Nat} {b : Addr} : (ph.temp am a).ba j = some b ↔ j = 0 ∧ b = a := by
  unfold Fx.temp
  by_cases h : j = 0
  · simp [h]; exact eq_comm
  · simp [h]
theorem hid_temp : Same (hid (ph.temp am a) (ph.temp am a).ba H) (hid ph am H) := fun b o h => by
  obtain ⟨h1, h2⟩ := hid_some.mp h
  exact hid_some.mpr ⟨fun z => h1 (.inl z), h2⟩
theorem defT_read {t : TE} {G : Sg → Option (Ans PyData × Sg)} (q : ReadF X W t fs) : ReadE X W (tCallS (spD X.K X.mg 1 G) (WE W) (tCons t tNil)) (xDefT G fs) := by
  intro ph am σ H δ Q ans δ' s z k kx
  rcases bnd_some z with ⟨ds, δ1, e1, e2⟩ | ⟨c, fs, e1, e2⟩
  · refine q ph am σ H δ _ _ _ s e1 (fun d' ed am1 p vs H1 n0 n1 st1 s1 dv hz => ?_) (fun c fs z => by cases z)
    cases ed
    split at e2
    · rename_i d cells e3
      cases e2
      have sm : Same H1 (upd H1 p (.lst vs)) := same_new n1
      have hh : Same (hid ph am1 H1) (hid (ph.temp am1 p) (ph.temp am1 p).ba (upd H1 p (.lst vs))) := fun b o h => by
        obtain ⟨h1, h2⟩ := hid_some.mp h
        refine hid_some.mpr ⟨fun z => ?_, sm b o h2⟩
        rcases z with z | ⟨j, z⟩
        · exact h1 z
        · obtain ⟨_, rfl⟩ := temp_ba.mp z
          rw [n1] at h2
          cases h2
      have s2 : SR X.K (ph.temp am1 p) (ph.temp am1 p).ba ([V.ref p].map some) (upd H1 p (.lst vs)) [.ow true ds] := by
        refine ⟨rfl, fun j d q => ?_, fun j b es q => ?_, fun j c q => ?_, fun j l c q1 q2 => ?_, fun c hc => ?_, fun j c q => q, fun j o q => ?_⟩
        · cases j with
          | zero => simp at q
          | succ j => simp at q
        · cases j with
          | zero =>
            simp at q
            obtain ⟨rfl, rfl⟩ := q
            exact ⟨p, vs, temp_ba.mpr ⟨rfl, rfl⟩, rfl, upd_same, dps_mono hh dv, hz, fun z => by cases z⟩
          | succ j => simp at q
        · obtain ⟨rfl, rfl⟩ := temp_ba.mp q
          exact ⟨fun z => s1.new n1 z, .ow true ds, rfl, trivial⟩
        · rw [(temp_ba.mp q1).1, (temp_ba.mp q2).1]
        · obtain ⟨o, h, m⟩ := s1.hiddenM hc
          exact ⟨o, sm c o h, m⟩
        · cases j with
          | zero => simp at q
          | succ j => simp at q
      refine ⟨rfl, ph.temp am1 p, _, _, _, s2, e3, fun d ed v H' st' _ dv' => ?_, fun c fs z => by cases z⟩
      cases ed
      have sm2 : Same H1 H' := fun b o h => st'.keep b o (sm b o h) fun j z => by
        obtain ⟨_, rfl⟩ := temp_ba.mp z
        rw [n1] at h
        cases h
      exact k _ rfl am1 v H' (st1.trans (Step.of sm2)) (s1.same sm2) (dp_mono hid_temp dv')
    · cases e2
  · subst e2
    exact q ph am σ H δ _ _ _ s e1 (fun d ed => by cases ed) (fun c' fs' z => by cases z; exact kx _ _ rfl)
theorem de_callT {G : Sg → Option (Ans PyData × Sg)} (F : FnOk X.prog X.w X.K X.mg X.base (L2.CX X.prog X.w) k fa fd ps (spD X.K X.mg 1 G)) (hr : Room k X.A) (hm : X.mg x = some (.ref fa)) (hk : PySem.W.keepIn X.K (.ref fa) = true) (hb : Binds X.K fd ps []) (hx : ∀ σ, PassesAt (L2.CX X.prog X.w) X σ (WE W σ))
    (ha : DF X W e fs) (hg : Gl X x := by rfl) (hdb : (x == ("__debug__" : Str)) = false := by decide) (he : starEach [e] X.env = (false, eval e X.env) :: starEach [] X.env := by rfl) (hpl : (backTo pos (starEach [] X.env)).any (·.1) = false := by rfl) :
    DE X W (.Call (.Name x pf) [e] [] pos) (xDefT G fs) := by
  obtain ⟨t, p, q⟩ := ha.ex
  exact ⟨⟨_, pe_callS F hr hg hm hk hb hx (pa_cons p pa_nil he) hdb he hpl, defT_read q⟩⟩
/-- a def that hands back a new list -/
def xDefF (G : Sg → Option (Ans (List PyData) × Sg)) (fs : M (List PyData)) : M (List PyData) := bnd fs fun ds => fun δ => match G (ds.map .fz) with
  | some (.ok d, _) => some (.ok d, δ)
  | some (.ex c es, _) => some (.ex c es, δ)
  | none => none
theorem defF_read {t : TA} {G : Sg → Option (Ans (List PyData) × Sg)} (q : ReadA X W t fs) (hn : ∀ ds δ δ', fs δ = some (.ok ds, δ') → ds.length = n) : ReadF X W (tCallS (spF X.K X.mg n G) (WE W) t) (xDefF G fs) := by
  intro ph am σ H δ Q ans δ' s z k kx
  rcases bnd_some z with ⟨ds, δ1, e1, e2⟩ | ⟨c, fs, e1, e2⟩
  · refine q ph am σ H δ _ _ _ s e1 (fun d' ed am1 vs H1 st1 s1 dv => ?_) (fun c fs z => by cases z)
    cases ed
    refine ⟨by rw [dv.length]; exact hn ds δ δ1 e1, ph.under am1, ds.map .fz, ?_⟩
    have s2 := s1.under dv
    split at e2
    · rename_i d cells e3
      cases e2
      refine ⟨_, _, s2, e3, fun d ed p us H' n0 n1 st' _ dv' hz => ?_, fun c fs z => by cases z⟩
      cases ed
      have sm : Same H1 H' := fun b o h => st'.keep b o h fun i z => by cases z
      rw [show (ph.under am1).ba = fun _ => none from rfl, hid_under] at dv'
      exact k _ rfl am1 p us H' (st1.none n0) n1 (st1.trans (Step.of sm)) (s1.same sm) dv' hz
    · rename_i c es cells e3
      cases e2
      refine ⟨_, _, s2, e3, fun d ed => (by cases ed), fun c fs z => ?_⟩
      cases z
      exact XP.of_under s1 ((kx _ _ rfl).step st1)
    · cases e2
  · subst e2
    exact q ph am σ H δ _ _ _ s e1 (fun d ed => by cases ed) (fun c' fs' z => by cases z; exact kx _ _ rfl)
theorem df_call {G : Sg → Option (Ans (List PyData) × Sg)} (F : FnOk X.prog X.w X.K X.mg X.base (L2.CX X.prog X.w) k fa fd ps (spF X.K X.mg n G)) (hr : Room k X.A) (hm : X.mg x = some (.ref fa)) (hk : PySem.W.keepIn X.K (.ref fa) = true) (hb : Binds X.K fd ps []) (hx : ∀ σ, PassesAt (L2.CX X.prog X.w) X σ (WE W σ))
    (ha : DA X W (e :: es) fs) (hn : ∀ ds δ δ', fs δ = some (.ok ds, δ') → ds.length = n) (hg : Gl X x := by rfl) (hdb : (x == ("__debug__" : Str)) = false := by decide) (he : starEach (e :: es) X.env = (false, eval e X.env) :: starEach es X.env := by rfl) (hpl : (backTo pos (starEach es X.env)).any (·.1) = false := by rfl) :
    DF X W (.Call (.Name x pf) (e :: es) [] pos) (xDefF G fs) := by
  obtain ⟨t, p, q⟩ := ha.ex
  exact ⟨⟨_, pe_callS F hr hg hm hk hb hx p hdb he hpl, defF_read q hn⟩⟩
/-! how many arguments -/
theorem alen0 : ∀ (ds : List PyData) (δ δ' : Sg), (ret [] : M (List PyData)) δ = some (.ok ds, δ') → ds.length = 0 := fun ds δ δ' h => by cases h; rfl
theorem alenS {n : Nat} (h : ∀ ds δ δ', fs δ = some (.ok ds, δ') → ds.length = n) : ∀ (ds : List PyData) (δ δ' : Sg), (bnd f fun d => bnd fs fun ds => ret (d :: ds)) δ = some (.ok ds, δ') → ds.length = n + 1 := fun ds δ δ' z => by
  rcases bnd_some z with ⟨d, δ1, e1, e2⟩ | ⟨c, fs, e1, e2⟩
  · rcases bnd_some e2 with ⟨d, δ2, e3, e4⟩ | ⟨c, fs, e3, e4⟩
    · cases e4
      rw [List.length_cons, h _ _ _ e3]
    · cases e4
  · cases e2
theorem alenO {n : Nat} (h : ∀ ds δ δ', fs δ = some (.ok ds, δ') → ds.length = n) : ∀ (ds : List PyData) (δ δ' : Sg), fs δ = some (.ok ds, δ') → ds.length + 1 = n + 1 := fun ds δ δ' z => by rw [h ds δ δ' z]
end PD
end

section
set_option Elab.async false
set_option linter.all false
set_option maxRecDepth 100000
set_option maxHeartbeats 1000000
namespace PD
open PySem PySem.Spec PyProof.Rows L2
variable {X : Cx} {W : WX} {pos : Pos} {e e1 e2 e3 : Expr} {es : List Expr} {f g h : M PyData} {fs : M (List PyData)} {fb gb : M Bool}
variable {K : PySem.W.Frag} {ph : Fx} {am am' am1 : Am} {H H' H1 : Hp} {σ σ' : L2.St} {δ δ' δ1 : Sg} {a p p1 p2 D : Addr} {v : V} {vs : List V} {d : PyData} {ds : List PyData} {i : Nat}

/-! displays times an int; x or y of new lists; parts of a list -/
def xRepF (fs : M (List PyData)) (g : M PyData) : M (List PyData) := bnd fs fun ds => bnd g fun b => lif (match b with
  | .int k => if -(2 ^ 63) ≤ k ∧ k < 2 ^ 63 ∧ ds.length * k.toNat ≤ sizeLine then some (List.replicate k.toNat ds).flatten else none
  | _ => none)
theorem df_rep (ha : DF X W e1 fs) (hb : DE X W e2 g) : DF X W (.BinOp e1 .Mult e2 pos) (xRepF fs g) := by
  obtain ⟨ta, pa, qa⟩ := ha.ex
  obtain ⟨tb, pb, qb⟩ := hb.ex
  refine ⟨⟨_, pe_op op_rep pa pb, fun ph am σ H δ Q ans δ' s q k kx => ?_⟩⟩
  rcases bnd_some q with ⟨a, δ1, e1, q1⟩ | ⟨c, fs, e1, q1⟩
  · refine qa ph am σ H δ _ _ _ s e1 (fun d ed am1 p vs H1 n0 n1 st1 s1 d1 hz => ?_) (fun c fs z => by cases z)
    cases ed
    have sm : Same H1 (upd H1 p (.lst vs)) := same_new n1
    have s2 := s1.same sm
    have stA : Step am H am1 (upd H1 p (.lst vs)) := st1.trans (Step.of sm)
    rcases bnd_some q1 with ⟨b, δ2, e2, q2⟩ | ⟨c, fs, e2, q2⟩
    · refine qb ph am1 σ _ δ1 _ _ _ s2 e2 (fun d ed am2 y H2 st2 s3 d2 => ?_) (fun c fs z => by cases z)
      cases ed
      obtain ⟨z, e3, rfl, rfl⟩ := lif_some q2
      cases d2 with
      | int n =>
        obtain ⟨⟨h1, h2, h3⟩, rfl⟩ := if_some e3
        have hp : H2 p = some (.lst vs) := st2.keep p _ upd_same fun i z => s1.new n1 (.inr ⟨i, z⟩)
        refine ⟨p, n, vs, rfl, rfl, hp, h1, h2, Nat.le_trans (Nat.le_of_eq (by rw [d1.length])) h3, fun p2 np => ?_⟩
        have d3 : DqAll X.K (hid ph am2 H2) vs a := dps_mono st2.hid (dps_mono (hid_same sm) d1)
        have hL : (List.replicate n.toNat vs).flatten.length = a.length * n.toNat := by
          rw [PyProof.Rows.lm_len_rep_flat, d1.length]
          exact Nat.mul_comm _ _
        exact k _ rfl am2 p2 _ H2 ((stA.trans st2).none np) np (stA.trans st2) s3 (d3.flat _) (Nat.le_trans (Nat.le_of_eq hL) h3)
      | _ => cases e3
    · subst q2
      exact qb ph am1 σ _ δ1 _ _ _ s2 e2 (fun d ed => by cases ed) (fun c' fs' z => by cases z; exact (kx _ _ rfl).step stA)
  · subst q1
    exact qa ph am σ H δ _ _ _ s e1 (fun d ed => by cases ed) (fun c' fs' z => by cases z; exact kx _ _ rfl)
end PD
end

section
set_option Elab.async false
set_option linter.all false
set_option maxRecDepth 100000
set_option maxHeartbeats 1000000
namespace PD
open PySem PySem.Spec PyProof.Rows L2
variable {X : Cx} {W : WX} {pos : Pos} {e e1 e2 e3 : Expr} {es : List Expr} {f g h : M PyData} {fs : M (List PyData)} {fb gb : M Bool}
variable {K : PySem.W.Frag} {ph : Fx} {am am' am1 : Am} {H H' H1 : Hp} {σ σ' : L2.St} {δ δ' δ1 : Sg} {a p p1 p2 D : Addr} {v : V} {vs : List V} {d : PyData} {ds : List PyData} {i : Nat}

def xOrF (fs gs : M (List PyData)) : M (List PyData) := bnd fs fun ds => if ds.isEmpty = true then gs else ret ds
theorem df_one {op} {fs : M (List PyData)} (ha : DF X W e fs) : DF X W (.BoolOp op [e] pos) fs := by
  obtain ⟨ta, pa, qa⟩ := ha.ex
  exact ⟨⟨_, pe_one pa, qa⟩⟩
theorem df_or {gs : M (List PyData)} (ha : DF X W e1 fs) (hb : DF X W (.BoolOp .Or (e2 :: es) pos) gs) : DF X W (.BoolOp .Or (e1 :: e2 :: es) pos) (xOrF fs gs) := by
  obtain ⟨ta, pa, qa⟩ := ha.ex
  obtain ⟨tb, pb, qb⟩ := hb.ex
  refine ⟨⟨_, pe_orT pa pb, fun ph am σ H δ Q ans δ' s q k kx => ?_⟩⟩
  rcases bnd_some q with ⟨a, δ1, e1, q1⟩ | ⟨c, fs, e1, q1⟩
  · refine qa ph am σ H δ _ _ _ s e1 (fun d ed am1 p vs H1 n0 n1 st1 s1 d1 hz => ?_) (fun c fs z => by cases z)
    cases ed
    have sm : Same H1 (upd H1 p (.lst vs)) := same_new n1
    have hev : vs.isEmpty = a.isEmpty := by cases d1 <;> rfl
    refine ⟨!vs.isEmpty, .inl ⟨vs, .inl (.inl upd_same), rfl⟩, ?_⟩
    rw [hev]
    cases ha : a.isEmpty with
    | true =>
      rw [ha, if_pos rfl] at q1
      exact iteF (qb ph am1 σ _ δ1 _ _ _ (s1.same sm) q1 (fun ds ed am2 p2 vs2 H2 m0 m1 st2 s2 d2 hz2 => k ds ed am2 p2 vs2 H2 ((st1.trans (Step.of sm)).none m0) m1 ((st1.trans (Step.of sm)).trans st2) s2 d2 hz2) fun c fs z => (kx c fs z).step (st1.trans (Step.of sm)))
    | false =>
      rw [ha, if_neg Bool.false_ne_true] at q1
      cases q1
      exact iteT (k _ rfl am1 p vs H1 n0 n1 st1 s1 d1 hz)
  · subst q1
    exact qa ph am σ H δ _ _ _ s e1 (fun d ed => by cases ed) (fun c' fs' z => by cases z; exact kx _ _ rfl)
end PD
end

section
set_option Elab.async false
set_option linter.all false
set_option maxRecDepth 100000
set_option maxHeartbeats 1000000
namespace PD
open PySem PySem.Spec PyProof.Rows L2
variable {X : Cx} {W : WX} {pos : Pos} {e e1 e2 e3 : Expr} {es : List Expr} {f g h : M PyData} {fs : M (List PyData)} {fb gb : M Bool}
variable {K : PySem.W.Frag} {ph : Fx} {am am' am1 : Am} {H H' H1 : Hp} {σ σ' : L2.St} {δ δ' δ1 : Sg} {a p p1 p2 D : Addr} {v : V} {vs : List V} {d : PyData} {ds : List PyData} {i : Nat}
variable {k : Nat} {fa : Addr} {fd : FuncData} {ps : List Str} {x : Str} {pf : Pos} {n : Nat}
/-! ### raise X() -/
theorem pmk_own0 {C : Addr} {bmB : List Value} {B newId initId : String} {x : Str} {p : Pos} (F : ExcBaseFacts B newId initId bmB) (q : PySem.W.excIn X.K C bmB newId = true) (gC : X.mg x = some (.ref C))
    (kC : PySem.W.keepIn X.K (.ref C) = true) (r : Raises X (.ref C)) (hg : Gl X x) (hdb : (x == ("__debug__" : Str)) = false := by decide) : PMk X (.Call (.Name x p) [] [] pos) (fun _ H Q => Q (.ref C) none H) := by
  intro pins s σ H Q I h
  refine wpAny_Call_Name_kw (ld_glob I hg gC ?_ hdb)
  refine PySem.W.callWith_K0 (first := []) I.kIn kC ?_
  show wpAny _ _ (call (.ref C) []) _ _ _
  obtain ⟨bm, N, nm, qn, bs, hdct, sn, sub, ab, col, dd, k0, k1, k2, k3, k5, mN, hC, hN, hni, T⟩ := exc_obj I.kIn q
  refine wpAny_call_exc_subT F T hC hN hni (fun h' e hm => ?_) (Nat.zero_le _)
  exact mk_of I hm r h (I.hok.gone hm.new)
/-- facts of an own exception class without an __init__ -/
structure ExcT (K : PySem.W.Frag) (mg : Str → Option Value) (x : Str) (C : Addr) (B newId initId : String) (bmB : List Value) : Prop where
  F : ExcBaseFacts B newId initId bmB
  q : PySem.W.excIn K C bmB newId = true
  g : mg x = some (.ref C)
  k : PySem.W.keepIn K (.ref C) = true
  b : PySem.W.subIn K (.ref C) (.type "BaseException") = some true
  t : PySem.W.typeIn K (.ref C) = some (.type "type")
def sRaise (c : Str) : MS := fun δ => some (.ex c [], δ)
theorem ds_raise0 {C : Addr} {bmB : List Value} {B newId initId : String} {x : Str} {p : Pos} {rp : Pos} (T : ExcT X.K X.mg x C B newId initId bmB) (hc : X.calm = true) (tk : Takes X W) (hg : Gl X x := by rfl) (hdb : (x == ("__debug__" : Str)) = false := by decide) :
    DS X W (.Raise (some (.Call (.Name x p) [] [] pos)) none rp) (sRaise x) :=
  ⟨⟨_, ps_raise hc tk (pmk_own0 T.F T.q T.g T.k (raises_own T.b T.t) hg hdb), fun ph am σ H δ D ans δ' s q _ kx => by
    cases q
    exact kx _ _ rfl C none am σ H T.g Step.refl s (.inl ⟨rfl, rfl⟩)⟩⟩
/-! ### keywords alone -/
structure DK (X : Cx) (W : WX) (kws : List Keyword) (f : M (List PyData)) : Prop where
  ex : ∃ t, PK X kws t ∧ ReadA X W t f
theorem dk_nil : DK X W [] (ret []) := ⟨⟨tNil, pk_nil, fun ph am σ H δ Q ans δ' s q k _ => by cases q; exact k _ rfl am [] H Step.refl s .nil⟩⟩
theorem dk_cons {kws : List Keyword} {nm : Option Str} {kpos : Pos} (h : DE X W e f) (t : DK X W kws fs) : DK X W (⟨nm, e, kpos⟩ :: kws) (bnd f fun d => bnd fs fun ds => ret (d :: ds)) := by
  obtain ⟨ta, pa, qa⟩ := h.ex
  obtain ⟨tb, pb, qb⟩ := t.ex
  refine ⟨⟨_, pk_cons pa pb, fun ph am σ H δ Q ans δ' s q k kx => ?_⟩⟩
  rcases bnd_some q with ⟨a, δ1, e1, q1⟩ | ⟨c, fs, e1, q1⟩
  · refine qa ph am σ H δ _ _ _ s e1 (fun d ed am1 x H1 st1 s1 d1 => ?_) (fun c fs z => by cases z)
    cases ed
    rcases bnd_some q1 with ⟨b, δ2, e2, q2⟩ | ⟨c, fs, e2, q2⟩
    · cases q2
      refine qb ph am1 σ H1 δ1 _ _ _ s1 e2 (fun d ed am2 y H2 st2 s2 d2 => ?_) (fun c fs z => by cases z)
      cases ed
      exact k _ rfl am2 _ H2 (st1.trans st2) s2 (.cons (dp_mono st2.hid d1) d2)
    · subst q2
      exact qb ph am1 σ H1 δ1 _ _ _ s1 e2 (fun d ed => by cases ed) (fun c' fs' z => by cases z; exact (kx _ _ rfl).step st1)
  · subst q1
    exact qa ph am σ H δ _ _ _ s e1 (fun d ed => by cases ed) (fun c' fs' z => by cases z; exact kx _ _ rfl)
def pick {α : Type} (perm : List Nat) (xs : List α) : List α := if xs.length = perm.length then perm.filterMap (xs[·]?) else []
theorem vals_fm {zs : List V} {ws : List Value} (r : Vals zs ws) : ∀ perm : List Nat, Vals (perm.filterMap (zs[·]?)) (perm.filterMap (ws[·]?))
  | [] => .nil
  | j :: t => by
    cases e : zs[j]? with
    | none =>
      have e' := r.none_of e
      rw [List.filterMap_cons, List.filterMap_cons, e, e']
      exact vals_fm r t
    | some x =>
      obtain ⟨u, e', r'⟩ := r.get e
      rw [List.filterMap_cons, List.filterMap_cons, e, e']
      exact .cons r' (vals_fm r t)
theorem dqs_fm {zs : List V} {ds : List PyData} (r : DqAll K H zs ds) : ∀ perm : List Nat, DqAll K H (perm.filterMap (zs[·]?)) (perm.filterMap (ds[·]?))
  | [] => .nil
  | j :: t => by
    cases e : ds[j]? with
    | none =>
      have e' : zs[j]? = none := List.getElem?_eq_none (by rw [r.length]; exact List.getElem?_eq_none_iff.mp e)
      rw [List.filterMap_cons, List.filterMap_cons, e, e']
      exact dqs_fm r t
    | some x =>
      obtain ⟨u, e', r'⟩ := r.get e
      rw [List.filterMap_cons, List.filterMap_cons, e, e']
      exact .cons r' (dqs_fm r t)
theorem vals_pick {perm : List Nat} {zs : List V} {ws : List Value} (r : Vals zs ws) : Vals (pick perm zs) (pick perm ws) := by
  unfold pick
  rw [r.length]
  split
  · exact vals_fm r perm
  · exact .nil
theorem dqs_pick {perm : List Nat} {zs : List V} {ds : List PyData} (r : DqAll K H zs ds) : DqAll K H (pick perm zs) (pick perm ds) := by
  unfold pick
  rw [r.length]
  split
  · exact dqs_fm r perm
  · exact .nil
theorem pe_callK0 {CX : CXT} {sp : Sp} {E : L2.St → XK} {p : Pos} {kws : List Keyword} {tk : TA} {ks : List Str} {perm : List Nat} (F : FnOk X.prog X.w X.K X.mg X.base CX k fa fd ps sp) (hr : Room k X.A) (hg : Gl X x) (hm : X.mg x = some (.ref fa)) (hk : PySem.W.keepIn X.K (.ref fa) = true)
    (hb : ∀ ws : List Value, ws.length = perm.length → bindArgs fd ⟨[], ks.zip ws⟩ = pure (ps.zip (pick perm ws))) (hx : ∀ σ, PassesAt CX X σ (E σ))
    (hkw : PK X kws tk) (hall : (backToKw pos (keywordEach kws X.env)).all (·.1.isSome) = true := by rfl) (hks : (backToKw pos (keywordEach kws X.env)).filterMap (·.1) = ks := by rfl)
    (hdb : (x == ("__debug__" : Str)) = false := by decide) (hpl : ((backTo pos (starEach [] X.env)).any (·.1) || (backToKw pos (keywordEach kws X.env)).any (·.1.isNone)) = false := by rfl) :
    PE X (.Call (.Name x p) [] kws pos) (fun σ H Q => tk σ H fun zs H2 => zs.length = perm.length ∧ sp (pick perm zs) H2 Q (E σ)) := by
  refine ⟨fun pins s σ H Q I h => ?_⟩
  refine wpAny_Call_Name_kw (ld_glob I hg hm ?_ hdb)
  refine PySem.W.callWith_KW0 (first := []) (h₀ := X.base) I.ok.mod.kin hk hall ?_ hpl
  refine thn (hkw.run pos pins s σ H _ I h) fun ws s2 ⟨zs, H2, I2, rz, hz, q2⟩ => ⟨I2.kIn, ?_⟩
  rw [hks]
  show wpAny _ _ (call (.ref fa) [] (ks.zip ws)) _ _ _
  have r2 : Vals (pick perm zs) (pick perm ws) := vals_pick rz
  refine wpAny_call (codeAny_mono (F.run X.A X.stack s2 H2 ⟨[], ks.zip ws⟩ (pick perm ws) (pick perm zs) Q (E σ) hr I2.env0 (.of_eq (hb ws (by rw [← rz.length]; exact hz))) r2 q2) fun r s' hq => ?_)
  cases r with
  | error e => exact hx σ pins H2 s2 e s' I2 hq
  | ok fl =>
    cases fl with
    | ret u => exact I2.after hq
    | next => exact False.elim hq
    | brk => exact False.elim hq
    | cont => exact False.elim hq
def xDefK (G : Sg → Option (Ans PyData × Sg)) (perm : List Nat) (fs : M (List PyData)) : M PyData := bnd fs fun ds => if ds.length = perm.length then xDef G (ret (pick perm ds)) else lif none
theorem de_callK0 {kws : List Keyword} {ks : List Str} {perm : List Nat} {G : Sg → Option (Ans PyData × Sg)} (F : FnOk X.prog X.w X.K X.mg X.base (L2.CX X.prog X.w) k fa fd ps (spD X.K X.mg n G)) (hr : Room k X.A) (hm : X.mg x = some (.ref fa)) (hk : PySem.W.keepIn X.K (.ref fa) = true)
    (hb : ∀ ws : List Value, ws.length = perm.length → bindArgs fd ⟨[], ks.zip ws⟩ = pure (ps.zip (pick perm ws))) (hx : ∀ σ, PassesAt (L2.CX X.prog X.w) X σ (WE W σ)) (hkw : DK X W kws fs) (hn : ∀ ds : List PyData, ds.length = perm.length → (pick perm ds).length = n)
    (hg : Gl X x := by rfl) (hall : (backToKw pos (keywordEach kws X.env)).all (·.1.isSome) = true := by rfl) (hks : (backToKw pos (keywordEach kws X.env)).filterMap (·.1) = ks := by rfl)
    (hdb : (x == ("__debug__" : Str)) = false := by decide) (hpl : ((backTo pos (starEach [] X.env)).any (·.1) || (backToKw pos (keywordEach kws X.env)).any (·.1.isNone)) = false := by rfl) : DE X W (.Call (.Name x pf) [] kws pos) (xDefK G perm fs) := by
  obtain ⟨t, p, q⟩ := hkw.ex
  refine ⟨⟨_, pe_callK0 F hr hg hm hk hb hx p hall hks hdb hpl, fun ph am σ H δ Q ans δ' s z k kx => ?_⟩⟩
  rcases bnd_some z with ⟨ds, δ1, e1, e2⟩ | ⟨c, fs, e1, e2⟩
  · refine q ph am σ H δ _ _ _ s e1 (fun d' ed am1 vs H1 st1 s1 dv => ?_) (fun c fs z => by cases z)
    cases ed
    split at e2
    · rename_i hl
      refine ⟨by rw [dv.length]; exact hl, ?_⟩
      have s2 := s1.under (dqs_pick (perm := perm) dv)
      rcases bnd_some e2 with ⟨ds2, δ2, e3, e4⟩ | ⟨c, fs, e3, e4⟩
      · cases e3
        refine ⟨by rw [(dqs_pick (perm := perm) dv).length]; exact hn ds hl, ph.under am1, (pick perm ds).map .fz, ?_⟩
        split at e4
        · rename_i d cells e5
          cases e4
          refine ⟨_, _, s2, e5, fun d ed v H' st' _ dv' => ?_, fun c fs z => by cases z⟩
          cases ed
          have sm : Same H1 H' := fun b o h => st'.keep b o h fun i z => by cases z
          rw [show (ph.under am1).ba = fun _ => none from rfl, hid_under] at dv'
          exact k _ rfl am1 v H' (st1.trans (Step.of sm)) (s1.same sm) dv'
        · rename_i c es cells e5
          cases e4
          refine ⟨_, _, s2, e5, fun d ed => (by cases ed), fun c fs z => ?_⟩
          cases z
          exact XP.of_under s1 ((kx _ _ rfl).step st1)
        · cases e4
      · cases e3
    · exact (lif_none e2).elim
  · subst e2
    exact q ph am σ H δ _ _ _ s e1 (fun d ed => by cases ed) (fun c' fs' z => by cases z; exact kx _ _ rfl)
/-! ### slices of a list or tuple, the parts ints -/
def cutD (xs : List PyData) (lo hi : Option Int) : List PyData := (xs.drop (HT.sIx xs.length 0 lo)).take (HT.sIx xs.length xs.length hi - HT.sIx xs.length 0 lo)
theorem dqs_cut {lo hi : Option Int} (h : DqAll K H vs ds) : DqAll K H (cutV vs lo hi) (cutD ds lo hi) := by
  unfold cutV cutD
  rw [h.length]
  exact (h.drop _).take _
structure DO (X : Cx) (W : WX) (e : Option Expr) (f : M (Option Int)) : Prop where
  ex : ∃ t, PO X e t ∧ ∀ (ph : Fx) (am : Am) (σ : L2.St) (H : Hp) (δ : Sg) (Q : Option Int → Hp → Prop) (ans : Ans (Option Int)) (δ' : Sg), SR X.K ph am σ H δ → f δ = some (ans, δ') →
    (∀ b, ans = .ok b → ∀ am' H', Step am H am' H' → SR X.K ph am' σ H' δ' → Q b H') → (∀ c fs, ans = .ex c fs → XP X W ph am σ H δ' c fs) → t σ H Q
theorem do_none : DO X W none (ret none) := ⟨⟨tNoPart, po_none, fun ph am σ H δ Q ans δ' s q k _ => by cases q; exact k _ rfl am H Step.refl s⟩⟩
def xPart (f : M PyData) : M (Option Int) := bnd f fun d => lif (match d with
  | .int i => some (some i)
  | _ => none)
theorem do_some (h : DE X W e f) : DO X W (some e) (xPart f) := by
  obtain ⟨ta, pa, qa⟩ := h.ex
  refine ⟨⟨_, po_some pa, fun ph am σ H δ Q ans δ' s q k kx => ?_⟩⟩
  rcases bnd_some q with ⟨a, δ1, e1, q1⟩ | ⟨c, fs, e1, q1⟩
  · refine qa ph am σ H δ _ _ _ s e1 (fun d ed am1 x H1 st1 s1 d1 => ?_) (fun c fs z => by cases z)
    cases ed
    obtain ⟨z, e3, rfl, rfl⟩ := lif_some q1
    cases d1 with
    | int i => cases e3; exact ⟨i, rfl, k _ rfl am1 H1 st1 s1⟩
    | _ => cases e3
  · subst q1
    exact qa ph am σ H δ _ _ _ s e1 (fun d ed => by cases ed) (fun c' fs' z => by cases z; exact kx _ _ rfl)
def xSlL (f : M PyData) (lo hi : M (Option Int)) : M (List PyData) := bnd f fun d => bnd lo fun l => bnd hi fun u => lif (match d with
  | .list xs => if xs.length ≤ sizeLine then some (cutD xs l u) else none
  | _ => none)
theorem df_slice {lo hi : Option Expr} {fl fh : M (Option Int)} {p2 : Pos} (he : DE X W e f) (hl : DO X W lo fl) (hh : DO X W hi fh) : DF X W (.Subscript e (.Slice lo hi none p2) pos) (xSlL f fl fh) := by
  obtain ⟨te, pe, qe⟩ := he.ex
  obtain ⟨tl, pl, ql⟩ := hl.ex
  obtain ⟨th, pp, qh⟩ := hh.ex
  refine ⟨⟨_, pe_slice sl_list pe pl pp, fun ph am σ H δ Q ans δ' s q k kx => ?_⟩⟩
  rcases bnd_some q with ⟨a, δ1, e1, q1⟩ | ⟨c, fs, e1, q1⟩
  · refine qe ph am σ H δ _ _ _ s e1 (fun d ed am1 x H1 st1 s1 d1 => ?_) (fun c fs z => by cases z)
    cases ed
    rcases bnd_some q1 with ⟨l, δ2, e2, q2⟩ | ⟨c, fs, e2, q2⟩
    · refine ql ph am1 σ H1 δ1 _ _ _ s1 e2 (fun d ed am2 H2 st2 s2 => ?_) (fun c fs z => by cases z)
      cases ed
      rcases bnd_some q2 with ⟨u, δ3, e3, q3⟩ | ⟨c, fs, e3, q3⟩
      · refine qh ph am2 σ H2 δ2 _ _ _ s2 e3 (fun d ed am3 H3 st3 s3 => ?_) (fun c fs z => by cases z)
        cases ed
        obtain ⟨z, e4, rfl, rfl⟩ := lif_some q3
        have d3 := dp_mono st3.hid (dp_mono st2.hid d1)
        cases d3 with
        | lst h1 a1 =>
          obtain ⟨hz0, rfl⟩ := if_some e4
          refine ⟨_, _, rfl, rd_hid h1, fun p np => ?_⟩
          have hz := Nat.le_trans (cutV_length _ l u) (Nat.le_trans (Nat.le_of_eq a1.length) hz0)
          exact k _ rfl am3 p _ H3 (((st1.trans st2).trans st3).none np) np ((st1.trans st2).trans st3) s3 (dqs_cut a1) hz
        | _ => cases e4
      · subst q3
        exact qh ph am2 σ H2 δ2 _ _ _ s2 e3 (fun d ed => by cases ed) (fun c' fs' z => by cases z; exact (kx _ _ rfl).step (st1.trans st2))
    · subst q2
      exact ql ph am1 σ H1 δ1 _ _ _ s1 e2 (fun d ed => by cases ed) (fun c' fs' z => by cases z; exact (kx _ _ rfl).step st1)
  · subst q1
    exact qe ph am σ H δ _ _ _ s e1 (fun d ed => by cases ed) (fun c' fs' z => by cases z; exact kx _ _ rfl)
end PD
end

section
set_option Elab.async false
set_option linter.all false
set_option maxRecDepth 100000
set_option maxHeartbeats 1000000
namespace PD
open PySem PySem.Spec PyProof.Rows L2
variable {X : Cx} {W : WX} {pos : Pos} {e e1 e2 e3 : Expr} {es : List Expr} {f g h : M PyData} {fs : M (List PyData)} {fb gb : M Bool}
variable {K : PySem.W.Frag} {ph : Fx} {am am' am1 : Am} {H H' H1 : Hp} {σ σ' : L2.St} {δ δ' δ1 : Sg} {a b p p1 p2 D : Addr} {v : V} {vs : List V} {d : PyData} {ds : List PyData} {i j : Nat}
variable {k : Nat} {fa : Addr} {fd : FuncData} {ps : List Str} {x : Str} {pf : Pos} {n : Nat}
/-! ### two lists of one's own lent -/
def Fx.lend2 (ph : Fx) (am : Am) (a b : Addr) : Fx := ⟨fun c => Hid ph am c ∧ c ≠ a ∧ c ≠ b, fun l => match l with
  | 0 => some a
  | 1 => some b
  | _ => none⟩
theorem lend2_ba {l : Nat} {c : Addr} : (ph.lend2 am a b).ba l = some c ↔ (l = 0 ∧ c = a) ∨ (l = 1 ∧ c = b) := by
  unfold Fx.lend2
  match l with
  | 0 => simp; exact eq_comm
  | 1 => simp; exact eq_comm
  | l + 2 => simp
theorem hid_lend2 (h1 : am i = some a) (h2 : am j = some b) : hid (ph.lend2 am a b) (ph.lend2 am a b).ba H = hid ph am H := by
  funext c
  unfold hid
  have : Hid (ph.lend2 am a b) (ph.lend2 am a b).ba c ↔ Hid ph am c := by
    constructor
    · rintro (⟨q, _⟩ | ⟨l, q⟩)
      · exact q
      · rcases lend2_ba.mp q with ⟨_, rfl⟩ | ⟨_, rfl⟩
        · exact .inr ⟨i, h1⟩
        · exact .inr ⟨j, h2⟩
    · intro q
      by_cases ha : c = a
      · exact .inr ⟨0, lend2_ba.mpr (.inl ⟨rfl, ha⟩)⟩
      · by_cases hb : c = b
        · exact .inr ⟨1, lend2_ba.mpr (.inr ⟨rfl, hb⟩)⟩
        · exact .inl ⟨q, ha, hb⟩
  by_cases h : Hid ph am c
  · rw [if_pos h, if_pos (this.mpr h)]
  · rw [if_neg h, if_neg (fun z => h (this.mp z))]
theorem SR.lend2 (s : SR K ph am σ H δ) {os us : List PyData} {ov uv : List V} (hij : a ≠ b) (h1 : am i = some a) (g1 : am j = some b) (h2 : H a = some (.lst ov)) (g2 : H b = some (.lst uv)) (h3 : DqAll K (hid ph am H) ov os) (g3 : DqAll K (hid ph am H) uv us) (h4 : ov.length ≤ sizeLine) (g4 : uv.length ≤ sizeLine) :
    SR K (ph.lend2 am a b) (ph.lend2 am a b).ba ([V.ref a, V.ref b].map some) H [.ow true os, .ow true us] := by
  refine ⟨rfl, fun l d q => ?_, fun l bb es q => ?_, fun l c q => ?_, fun l m c q1 q2 => ?_, fun c hc => s.hiddenM hc.1, fun l c q => q, fun l o q => ?_⟩
  · match l, q with
    | 0, q => simp at q
    | 1, q => simp at q
    | l + 2, q => simp at q
  · match l, q with
    | 0, q =>
      simp at q
      obtain ⟨rfl, rfl⟩ := q
      exact ⟨a, ov, lend2_ba.mpr (.inl ⟨rfl, rfl⟩), rfl, h2, by rw [hid_lend2 h1 g1]; exact h3, h4, fun z => by cases z⟩
    | 1, q =>
      simp at q
      obtain ⟨rfl, rfl⟩ := q
      exact ⟨b, uv, lend2_ba.mpr (.inr ⟨rfl, rfl⟩), rfl, g2, by rw [hid_lend2 h1 g1]; exact g3, g4, fun z => by cases z⟩
    | l + 2, q => simp at q
  · rcases lend2_ba.mp q with ⟨rfl, rfl⟩ | ⟨rfl, rfl⟩
    · exact ⟨fun z => z.2.1 rfl, .ow true os, rfl, trivial⟩
    · exact ⟨fun z => z.2.2 rfl, .ow true us, rfl, trivial⟩
  · rcases lend2_ba.mp q1 with ⟨rfl, rfl⟩ | ⟨rfl, rfl⟩ <;> rcases lend2_ba.mp q2 with ⟨rfl, e⟩ | ⟨rfl, e⟩
    · rfl
    · exact (hij e).elim
    · exact (hij e.symm).elim
    · rfl
  · match l, q with
    | 0, q => simp at q
    | 1, q => simp at q
    | l + 2, q => simp at q
def xDef2 (G : Sg → Option (Ans PyData × Sg)) (i j : Nat) : M PyData := fun δ => match δ[i]?, δ[j]? with
  | some (.ow b os), some (.ow c us) => if i ≠ j then match G [.ow true os, .ow true us] with
      | some (.ok d, [.ow _ os', .ow _ us']) => some (.ok d, (δ.set i (.ow b os')).set j (.ow c us'))
      | _ => none
    else none
  | _, _ => none
theorem def2_read {G : Sg → Option (Ans PyData × Sg)} : ReadE X W (tCallS (spD X.K X.mg 2 G) (WE W) (tCons (tVar i) (tCons (tVar j) tNil))) (xDef2 G i j) := by
  intro ph am σ H δ Q ans δ' s z k kx
  unfold xDef2 at z
  split at z
  · rename_i b0 os c0 us e1 e2
    split at z
    · rename_i hij
      obtain ⟨a, ov, o1, o2, o3, o4, o5, o6⟩ := s.ow i b0 os e1
      obtain ⟨b, uv, r1, r2, r3, r4, r5, r6⟩ := s.ow j c0 us e2
      have hab : a ≠ b := fun q => hij (s.inj i j a o1 (by rw [q]; exact r1))
      refine ⟨.ref a, o2, .ref b, r2, ?_⟩
      split at z
      · rename_i d b1 os' c1 us' e3
        cases z
        refine ⟨rfl, ph.lend2 am a b, _, _, _, s.lend2 hab o1 r1 o3 r3 o4 r4 o5 r5, e3, fun d ed v H' st' s' dv' => ?_, fun c fs z => by cases z⟩
        cases ed
        have st2 : Step am H am H' := ⟨fun c o h m => st'.keep c o h fun l z => by
          rcases lend2_ba.mp z with ⟨_, rfl⟩ | ⟨_, rfl⟩
          · exact m i o1
          · exact m j r1, fun l c h => .inl ⟨l, h⟩, st'.there⟩
        rw [hid_lend2 o1 r1] at dv'
        obtain ⟨a2, ov2, t1, t2, t3, t4, t5, _⟩ := s'.ow 0 b1 os' rfl
        obtain ⟨b2, uv2, y1, y2, y3, y4, y5, _⟩ := s'.ow 1 c1 us' rfl
        rcases lend2_ba.mp t1 with ⟨_, rfl⟩ | ⟨q, _⟩
        · rcases lend2_ba.mp y1 with ⟨q, _⟩ | ⟨_, rfl⟩
          · cases q
          · rw [hid_lend2 o1 r1] at t4 y4
            have hi : i < δ.length := (List.getElem?_eq_some_iff.mp e1).1
            have hj : j < δ.length := (List.getElem?_eq_some_iff.mp e2).1
            have gi : ((δ.set i (.ow b0 os')).set j (.ow c0 us'))[i]? = some (.ow b0 os') := by
              rw [List.getElem?_set_ne (Ne.symm hij), List.getElem?_set_self hi]
            have gj : ((δ.set i (.ow b0 os')).set j (.ow c0 us'))[j]? = some (.ow c0 us') := by
              rw [List.getElem?_set_self (by rw [List.length_set]; exact hj)]
            have go : ∀ {l : Nat}, l ≠ i → l ≠ j → ((δ.set i (.ow b0 os')).set j (.ow c0 us'))[l]? = δ[l]? := fun {l} h1 h2 => by
              rw [List.getElem?_set_ne (Ne.symm h2), List.getElem?_set_ne (Ne.symm h1)]
            refine k _ rfl am v H' st2 ⟨by rw [List.length_set, List.length_set, s.len], fun l d q => ?_, fun l bb es q => ?_, fun l c q => ?_, s.inj, fun c hc => ?_, s.bas, fun l o q => ?_⟩ dv'
            · by_cases h1 : l = i
              · rw [h1, gi] at q; cases q
              · by_cases h2 : l = j
                · rw [h2, gj] at q; cases q
                · rw [go h1 h2] at q
                  obtain ⟨v, g1, g2⟩ := s.fz l d q
                  exact ⟨v, g1, dp_mono st2.hid g2⟩
            · by_cases h1 : l = i
              · rw [h1, gi] at q
                cases q
                rw [h1]
                exact ⟨a2, ov2, o1, o2, t3, t4, t5, o6⟩
              · by_cases h2 : l = j
                · rw [h2, gj] at q
                  cases q
                  rw [h2]
                  exact ⟨b2, uv2, r1, r2, y3, y4, y5, r6⟩
                · rw [go h1 h2] at q
                  obtain ⟨a3, vs3, g1, g2, g3, g4, g5⟩ := s.ow l bb es q
                  refine ⟨a3, vs3, g1, g2, st'.keep _ _ g3 fun m z => ?_, dps_mono st2.hid g4, g5⟩
                  rcases lend2_ba.mp z with ⟨_, rfl⟩ | ⟨_, rfl⟩
                  · exact h1 (s.inj l i _ g1 o1)
                  · exact h2 (s.inj l j _ g1 r1)
            · obtain ⟨g1, cc, g2, g3⟩ := s.amf l c q
              by_cases h1 : l = i
              · exact ⟨g1, .ow b0 os', by rw [h1]; exact gi, trivial⟩
              · by_cases h2 : l = j
                · exact ⟨g1, .ow c0 us', by rw [h2]; exact gj, trivial⟩
                · exact ⟨g1, cc, by rw [go h1 h2]; exact g2, g3⟩
            · obtain ⟨o, h, m⟩ := s.phs c hc
              refine ⟨o, st'.keep c o h fun l z => ?_, m⟩
              rcases lend2_ba.mp z with ⟨_, rfl⟩ | ⟨_, rfl⟩
              · exact (s.amf i _ o1).1 hc
              · exact (s.amf j _ r1).1 hc
            · by_cases h1 : l = i
              · rw [h1, gi] at q; cases q
              · by_cases h2 : l = j
                · rw [h2, gj] at q; cases q
                · rw [go h1 h2] at q
                  obtain ⟨a3, u3, g1, g2, g3, g4, g5⟩ := s.od l o q
                  refine ⟨a3, u3, g1, g2, st'.keep _ _ g3 fun m z => ?_, dor_mono st2.hid g4, g5⟩
                  rcases lend2_ba.mp z with ⟨_, rfl⟩ | ⟨_, rfl⟩
                  · exact h1 (s.inj l i _ g1 o1)
                  · exact h2 (s.inj l j _ g1 r1)
        · cases q
      · cases z
    · cases z
  · cases z
theorem de_call2 {y z : Str} {pn pz : Pos} {G : Sg → Option (Ans PyData × Sg)} (F : FnOk X.prog X.w X.K X.mg X.base (L2.CX X.prog X.w) k fa fd ps (spD X.K X.mg 2 G)) (hr : Room k X.A) (hm : X.mg x = some (.ref fa)) (hk : PySem.W.keepIn X.K (.ref fa) = true) (hb : Binds X.K fd ps []) (hx : ∀ σ, PassesAt (L2.CX X.prog X.w) X σ (WE W σ))
    (hN : X.N[i]? = some y := by rfl) (hv : Vis X.env.scope y := by first | exact Or.inl rfl | exact Or.inr (Or.inl rfl) | exact Or.inr (Or.inr rfl)) (hd : (y == ("__debug__" : Str)) = false := by decide) (hcd : (y == ("__classdict__" : Str)) = false := by decide)
    (hN2 : X.N[j]? = some z := by rfl) (hv2 : Vis X.env.scope z := by first | exact Or.inl rfl | exact Or.inr (Or.inl rfl) | exact Or.inr (Or.inr rfl)) (hd2 : (z == ("__debug__" : Str)) = false := by decide) (hcd2 : (z == ("__classdict__" : Str)) = false := by decide)
    (hg : Gl X x := by rfl) (hdb : (x == ("__debug__" : Str)) = false := by decide) (he2 : starEach [.Name z pz] X.env = (false, eval (.Name z pz) X.env) :: starEach [] X.env := by rfl) (he : starEach [.Name y pn, .Name z pz] X.env = (false, eval (.Name y pn) X.env) :: starEach [.Name z pz] X.env := by rfl) (hpl : (backTo pos (starEach [.Name z pz] X.env)).any (·.1) = false := by rfl) :
    DE X W (.Call (.Name x pf) [.Name y pn, .Name z pz] [] pos) (xDef2 G i j) :=
  ⟨⟨_, pe_callS F hr hg hm hk hb hx (pa_cons (pe_var hN hv hd hcd) (pa_cons (pe_var hN2 hv2 hd2 hcd2) pa_nil he2) he) hdb he hpl, def2_read⟩⟩
/-! ### a, b = e1, e2; a, b, c = e1, e2, e3 -/
def sPar2 (fs : M (List PyData)) (i j : Nat) : MS := bnd fs fun ds => fun δ => match ds with
  | [x, y] => match sName i x δ with
    | some δ1 => match sName j y δ1 with
      | some δ2 => some (.ok .nx, δ2)
      | none => none
    | none => none
  | _ => none
def sPar3 (fs : M (List PyData)) (i j l : Nat) : MS := bnd fs fun ds => fun δ => match ds with
  | [x, y, z] => match sName i x δ with
    | some δ1 => match sName j y δ1 with
      | some δ2 => match sName l z δ2 with
        | some δ3 => some (.ok .nx, δ3)
        | none => none
      | none => none
    | none => none
  | _ => none
theorem ds_par2 {x y : Str} {px py pt : Pos} {kt k2 pt2} (hc : X.calm = true) (hN : X.N.Nodup) (ha : DA X W [e1, e2] fs) (hi : X.N[i]? = some x := by rfl) (hj : X.N[j]? = some y := by rfl) (hij : i ≠ j := by decide)
    (hx : X.env.scope.names.lookup x = some .local := by rfl) (hy : X.env.scope.names.lookup y = some .local := by rfl)
    (hw : swappedStores [.Tuple [.Name x px, .Name y py] kt pt] (.Tuple [e1, e2] k2 pt2) X.env = pure (some [x, y]) := by rfl)
    (hs : swapsWithSole [.Tuple [.Name x px, .Name y py] kt pt] (.Tuple [e1, e2] k2 pt2) pos.line X.env = pure false := by rfl) : DS X W (.Assign [.Tuple [.Name x px, .Name y py] kt pt] (.Tuple [e1, e2] k2 pt2) pos) (sPar2 fs i j) := by
  obtain ⟨t, p, q⟩ := ha.ex
  refine ⟨⟨_, ps_par hc hN hi hj hij hx hy p hw hs, fun ph am σ H δ D ans δ' s z k kx => ?_⟩⟩
  rcases bnd_some z with ⟨ds, δ1, e1, e2⟩ | ⟨c, fs, e1, e2⟩
  · refine q ph am σ H δ _ _ _ s e1 (fun d' ed am1 vs H1 st1 s1 dv => ?_) (fun c fs z => by cases z)
    cases ed
    cases dv with
    | nil => cases e2
    | cons d1 t1 =>
      cases t1 with
      | nil => cases e2
      | cons d2 t2 =>
        cases t2 with
        | cons _ _ => cases e2
        | nil =>
          simp only at e2
          split at e2
          · rename_i δ2 n1
            split at e2
            · rename_i δ3 n2
              cases e2
              obtain ⟨c1, f1, f2, rfl⟩ := sName_some n1
              obtain ⟨c2, f3, f4, rfl⟩ := sName_some n2
              refine ⟨_, _, rfl, k _ rfl _ _ H1 ((st1.trans step_drop).trans step_drop) ((s1.put f1 f2 d1).put f3 f4 (dp_mono (Step.hid step_drop) d2))⟩
            · cases e2
          · cases e2
  · subst e2
    exact q ph am σ H δ _ _ _ s e1 (fun d ed => by cases ed) (fun c' fs' z => by cases z; exact (kx _ _ rfl).at)
theorem ds_par3 {l : Nat} {x y z : Str} {px py pz pt : Pos} {kt k2 pt2} (hc : X.calm = true) (hN : X.N.Nodup) (ha : DA X W [e1, e2, e3] fs) (hi : X.N[i]? = some x := by rfl) (hj : X.N[j]? = some y := by rfl) (hl : X.N[l]? = some z := by rfl) (hij : i ≠ j := by decide) (hil : i ≠ l := by decide) (hjl : j ≠ l := by decide)
    (hx : X.env.scope.names.lookup x = some .local := by rfl) (hy : X.env.scope.names.lookup y = some .local := by rfl) (hz : X.env.scope.names.lookup z = some .local := by rfl)
    (hw : swappedStores [.Tuple [.Name x px, .Name y py, .Name z pz] kt pt] (.Tuple [e1, e2, e3] k2 pt2) X.env = pure (some [x, y, z]) := by rfl)
    (hs : swapsWithSole [.Tuple [.Name x px, .Name y py, .Name z pz] kt pt] (.Tuple [e1, e2, e3] k2 pt2) pos.line X.env = pure false := by rfl) : DS X W (.Assign [.Tuple [.Name x px, .Name y py, .Name z pz] kt pt] (.Tuple [e1, e2, e3] k2 pt2) pos) (sPar3 fs i j l) := by
  obtain ⟨t, p, q⟩ := ha.ex
  refine ⟨⟨_, ps_par3 hc hN hi hj hl hij hil hjl hx hy hz p hw hs, fun ph am σ H δ D ans δ' s z k kx => ?_⟩⟩
  rcases bnd_some z with ⟨ds, δ1, e1, e2⟩ | ⟨c, fs, e1, e2⟩
  · refine q ph am σ H δ _ _ _ s e1 (fun d' ed am1 vs H1 st1 s1 dv => ?_) (fun c fs z => by cases z)
    cases ed
    cases dv with
    | nil => cases e2
    | cons d1 t1 =>
      cases t1 with
      | nil => cases e2
      | cons d2 t2 =>
        cases t2 with
        | nil => cases e2
        | cons d3 t3 =>
          cases t3 with
          | cons _ _ => cases e2
          | nil =>
            simp only at e2
            split at e2
            · rename_i δ2 n1
              split at e2
              · rename_i δ3 n2
                split at e2
                · rename_i δ4 n3
                  cases e2
                  obtain ⟨c1, f1, f2, rfl⟩ := sName_some n1
                  obtain ⟨c2, f3, f4, rfl⟩ := sName_some n2
                  obtain ⟨c3, f5, f6, rfl⟩ := sName_some n3
                  refine ⟨_, _, _, rfl, k _ rfl _ _ H1 (((st1.trans step_drop).trans step_drop).trans step_drop) (((s1.put f1 f2 d1).put f3 f4 (dp_mono (Step.hid step_drop) d2)).put f5 f6 (dp_mono (Step.hid step_drop) (dp_mono (Step.hid step_drop) d3)))⟩
                · cases e2
              · cases e2
            · cases e2
  · subst e2
    exact q ph am σ H δ _ _ _ s e1 (fun d ed => by cases ed) (fun c' fs' z => by cases z; exact (kx _ _ rfl).at)
/-! ### what a body may rely on -/
theorem hu64 {A : Around} {k : Nat} (hr : Room k A) : A.units + 64 < cLine := hr.units
theorem pass_cx {P : Program} {w : World} {mg : Str → Option Value} {base : Heap} {N : List Str} {qual : Str} {st : Stmt} {cdv : Value} {A : Around} {outer : List PySem.Env} {s : Shared} {E : XK} :
    ∀ σ, PassesAt (L2.CX P w) (CxD P w K mg base N qual st fa cdv A outer s H E) σ (WE (fun cls d _ H => E cls d H) σ) := fun σ => passAt (takes_of rfl rfl rfl rfl) σ
theorem pass0 : ∀ σ, PassesAt (L2.CX X.prog X.w) X σ (WE E00 σ) := fun σ => passAt takes0 σ
theorem own_cx {P : Program} {w : World} {mg : Str → Option Value} {base : Heap} {N : List Str} {qual : Str} {st : Stmt} {cdv : Value} {A : Around} {outer : List PySem.Env} {s : Shared} {E : XK} :
    PassesOwn (model P w) (CxD P w K mg base N qual st fa cdv A outer s H E).A (CxD P w K mg base N qual st fa cdv A outer s H E).env (CxD P w K mg base N qual st fa cdv A outer s H E).xe := passes_of rfl
theorem fn_none {P : Program} {w : World} {mg : Str → Option Value} {base : Heap} : FnOk P w K mg base (L2.CX P w) 0 fa fd ps (spD K mg ps.length fun _ => none) :=
  ⟨fun vs H Q E h => h.1, fun A outer s H args us vs Q E _ _ _ _ h => by
    obtain ⟨_, _, _, _, _, _, q, _⟩ := h
    cases q⟩
end PD
end

section
set_option Elab.async false
set_option linter.all false
set_option maxRecDepth 100000
set_option maxHeartbeats 1000000
namespace PD
open PySem PySem.Spec PyProof.Rows L2
variable {X : Cx} {W : WX} {pos : Pos} {e e1 e2 e3 : Expr} {es : List Expr} {f g h : M PyData} {fs : M (List PyData)} {fb gb : M Bool}
variable {K : PySem.W.Frag} {ph : Fx} {am am' am1 : Am} {H H' H1 : Hp} {σ σ' : L2.St} {δ δ' δ1 : Sg} {a b p p1 p2 D : Addr} {v : V} {vs : List V} {d : PyData} {ds : List PyData} {i j : Nat}
variable {pf : Pos}
theorem bt_int : bootBuiltins "int" = some (.type "int") := by decide +kernel
theorem bt_bool : bootBuiltins "bool" = some (.type "bool") := by decide +kernel
theorem bt_str : bootBuiltins "str" = some (.type "str") := by decide +kernel
theorem bt_list : bootBuiltins "list" = some (.type "list") := by decide +kernel
theorem bt_tuple : bootBuiltins "tuple" = some (.type "tuple") := by decide +kernel
theorem bb_abs : bootBuiltins "abs" = some (.builtin "abs") := by decide +kernel
theorem bb_all : bootBuiltins "all" = some (.builtin "all") := by decide +kernel
theorem bb_any : bootBuiltins "any" = some (.builtin "any") := by decide +kernel
theorem bb_sum : bootBuiltins "sum" = some (.builtin "sum") := by decide +kernel
section
variable (hd : DA X W [e] fs)
include hd
theorem de_len (hm : X.mg "len" = none) (hg : Gl X "len" := by rfl) (he : starEach [e] X.env = (false, eval e X.env) :: starEach [] X.env := by rfl) (hpl : (backTo pos (starEach [] X.env)).any (·.1) = false := by rfl) : DE X W (.Call (.Name "len" pf) [e] [] pos) (xCall lenD fs) :=
  de_callB calld_len call_len_seq hm PySem.boot_len hd hg (by decide) (by decide) he hpl
theorem de_intc (hm : X.mg "int" = none) (hg : Gl X "int" := by rfl) (he : starEach [e] X.env = (false, eval e X.env) :: starEach [] X.env := by rfl) (hpl : (backTo pos (starEach [] X.env)).any (·.1) = false := by rfl) : DE X W (.Call (.Name "int" pf) [e] [] pos) (xCall intD fs) :=
  de_callTy calld_int call_int1 hm bt_int hd hg (by decide) (by decide) he hpl
theorem de_abs (hm : X.mg "abs" = none) (hg : Gl X "abs" := by rfl) (he : starEach [e] X.env = (false, eval e X.env) :: starEach [] X.env := by rfl) (hpl : (backTo pos (starEach [] X.env)).any (·.1) = false := by rfl) : DE X W (.Call (.Name "abs" pf) [e] [] pos) (xCall absD fs) :=
  de_callB calld_abs call_abs hm bb_abs hd hg (by decide) (by decide) he hpl
theorem de_all (hm : X.mg "all" = none) (hc : X.calm = true := by rfl) (hg : Gl X "all" := by rfl) (he : starEach [e] X.env = (false, eval e X.env) :: starEach [] X.env := by rfl) (hpl : (backTo pos (starEach [] X.env)).any (·.1) = false := by rfl) : DE X W (.Call (.Name "all" pf) [e] [] pos) (xCall allD fs) :=
  de_callB calld_all (cr_all hc) hm bb_all hd hg (by decide) (by decide) he hpl
theorem de_any (hm : X.mg "any" = none) (hc : X.calm = true := by rfl) (hg : Gl X "any" := by rfl) (he : starEach [e] X.env = (false, eval e X.env) :: starEach [] X.env := by rfl) (hpl : (backTo pos (starEach [] X.env)).any (·.1) = false := by rfl) : DE X W (.Call (.Name "any" pf) [e] [] pos) (xCall anyD fs) :=
  de_callB calld_any (cr_any hc) hm bb_any hd hg (by decide) (by decide) he hpl
theorem de_sum (hm : X.mg "sum" = none) (hc : X.calm = true := by rfl) (hg : Gl X "sum" := by rfl) (he : starEach [e] X.env = (false, eval e X.env) :: starEach [] X.env := by rfl) (hpl : (backTo pos (starEach [] X.env)).any (·.1) = false := by rfl) : DE X W (.Call (.Name "sum" pf) [e] [] pos) (xCall sumD fs) :=
  de_callB calld_sum (cr_sum hc) hm bb_sum hd hg (by decide) (by decide) he hpl
theorem de_tuplec (hm : X.mg "tuple" = none) (hg : Gl X "tuple" := by rfl) (he : starEach [e] X.env = (false, eval e X.env) :: starEach [] X.env := by rfl) (hpl : (backTo pos (starEach [] X.env)).any (·.1) = false := by rfl) : DE X W (.Call (.Name "tuple" pf) [e] [] pos) (xCall tupleD fs) :=
  de_callTy calld_tuple call_tuple_of hm bt_tuple hd hg (by decide) (by decide) he hpl
theorem df_list (hm : X.mg "list" = none) (hg : Gl X "list" := by rfl) (he : starEach [e] X.env = (false, eval e X.env) :: starEach [] X.env := by rfl) (hpl : (backTo pos (starEach [] X.env)).any (·.1) = false := by rfl) : DF X W (.Call (.Name "list" pf) [e] [] pos) (xCallF listD fs) :=
  df_callTy callf_list call_list_of hm bt_list hd hg (by decide) (by decide) he hpl
end
/-! a slice of a list or a tuple -/
def sliceD (d : PyData) (l u : Option Int) : Option PyData := match d with
  | .list xs => some (.list (cutD xs l u))
  | .tuple xs => some (.tuple (cutD xs l u))
  | _ => none
def xSl (f : M PyData) (lo hi : M (Option Int)) : M PyData := bnd f fun d => bnd lo fun l => bnd hi fun u => lif (sliceD d l u)
theorem cut_whole {xs : List PyData} {l u : Option Int} (h : HT.sIx xs.length 0 l = 0 ∧ HT.sIx xs.length xs.length u = xs.length) : cutD xs l u = xs := by
  unfold cutD
  rw [h.1, h.2]
  simp
theorem de_slice {lo hi : Option Expr} {fl fh : M (Option Int)} {p2 : Pos} (he : DE X W e f) (hl : DO X W lo fl) (hh : DO X W hi fh) : DE X W (.Subscript e (.Slice lo hi none p2) pos) (xSl f fl fh) := by
  obtain ⟨te, pe, qe⟩ := he.ex
  obtain ⟨tl, pl, ql⟩ := hl.ex
  obtain ⟨th, pp, qh⟩ := hh.ex
  refine ⟨⟨_, pe_slice (SlR.or sl_list sl_tupA) pe pl pp, fun ph am σ H δ Q ans δ' s q k kx => ?_⟩⟩
  rcases bnd_some q with ⟨a, δ1, e1, q1⟩ | ⟨c, fs, e1, q1⟩
  · refine qe ph am σ H δ _ _ _ s e1 (fun d ed am1 x H1 st1 s1 d1 => ?_) (fun c fs z => by cases z)
    cases ed
    rcases bnd_some q1 with ⟨l, δ2, e2, q2⟩ | ⟨c, fs, e2, q2⟩
    · refine ql ph am1 σ H1 δ1 _ _ _ s1 e2 (fun d ed am2 H2 st2 s2 => ?_) (fun c fs z => by cases z)
      cases ed
      rcases bnd_some q2 with ⟨u, δ3, e3, q3⟩ | ⟨c, fs, e3, q3⟩
      · refine qh ph am2 σ H2 δ2 _ _ _ s2 e3 (fun d ed am3 H3 st3 s3 => ?_) (fun c fs z => by cases z)
        cases ed
        obtain ⟨z, e4, rfl, rfl⟩ := lif_some q3
        have d3 := dp_mono st3.hid (dp_mono st2.hid d1)
        have stA := (st1.trans st2).trans st3
        cases d3 with
        | lst h1 a1 =>
          cases e4
          exact .inl ⟨_, _, rfl, rd_hid h1, fun p np => k _ rfl am3 _ _ (stA.trans (Step.of (same_new np))) (s3.same (same_new np)) (new_lst (fun b h => s3.hidden h) np (dqs_cut a1))⟩
        | tup h1 a1 =>
          cases e4
          refine .inr ⟨_, _, rfl, seqT_hid h1, fun hw => ?_, fun _ p np => k _ rfl am3 _ _ (stA.trans (Step.of (same_new np))) (s3.same (same_new np)) (new_tup (fun b h => s3.hidden h) np (dqs_cut a1))⟩
          rw [a1.length] at hw
          rw [cut_whole hw] at k
          exact k _ rfl am3 _ H3 stA s3 (.tup h1 a1)
        | _ => cases e4
      · subst q3
        exact qh ph am2 σ H2 δ2 _ _ _ s2 e3 (fun d ed => by cases ed) (fun c' fs' z => by cases z; exact (kx _ _ rfl).step (st1.trans st2))
    · subst q2
      exact ql ph am1 σ H1 δ1 _ _ _ s1 e2 (fun d ed => by cases ed) (fun c' fs' z => by cases z; exact (kx _ _ rfl).step st1)
  · subst q1
    exact qe ph am σ H δ _ _ _ s e1 (fun d ed => by cases ed) (fun c' fs' z => by cases z; exact kx _ _ rfl)
end PD
namespace PD
open PySem PySem.Spec PyProof.Rows L2
variable {X : Cx} {W : WX} {pos : Pos} {k : Nat} {fa : Addr} {fd : FuncData} {ps : List Str} {x : Str} {pf : Pos}
theorem ra_nil : ReadA X W tNil (ret []) := fun ph am σ H δ Q ans δ' s q k _ => by cases q; exact k _ rfl am [] H Step.refl s .nil
theorem pe_callS0 {CX : CXT} {sp : Sp} {E : L2.St → XK} (F : FnOk X.prog X.w X.K X.mg X.base CX k fa fd ps sp) (hr : Room k X.A) (hg : Gl X x) (hm : X.mg x = some (.ref fa)) (hk : PySem.W.keepIn X.K (.ref fa) = true) (hb : Binds X.K fd ps []) (hx : ∀ σ, PassesAt CX X σ (E σ)) (hdb : (x == ("__debug__" : Str)) = false := by decide) :
    PE X (.Call (.Name x pf) [] [] pos) (tCallS sp E tNil) := by
  refine ⟨fun pins s σ H Q I h => ?_⟩
  refine wpAny_Call_Name_kw (ld_glob I hg hm ?_ hdb)
  exact PySem.W.callWith_K0 I.kIn hk (run_fnS (us := []) F hr hb (hx σ) I .nil h)
theorem de_call0 {G : Sg → Option (Ans PyData × Sg)} (F : FnOk X.prog X.w X.K X.mg X.base (L2.CX X.prog X.w) k fa fd ps (spD X.K X.mg 0 G)) (hr : Room k X.A) (hm : X.mg x = some (.ref fa)) (hk : PySem.W.keepIn X.K (.ref fa) = true) (hb : Binds X.K fd ps []) (hx : ∀ σ, PassesAt (L2.CX X.prog X.w) X σ (WE W σ))
    (hg : Gl X x := by rfl) (hdb : (x == ("__debug__" : Str)) = false := by decide) : DE X W (.Call (.Name x pf) [] [] pos) (xDef G (ret [])) :=
  ⟨⟨_, pe_callS0 F hr hg hm hk hb hx hdb, def_read ra_nil alen0⟩⟩
end PD
namespace PD
open PySem PySem.Spec PyProof.Rows L2
variable {X : Cx} {W : WX} {e : Expr} {st : Stmt} {sts : List Stmt}
theorem de_never : DE X W e (fun _ => none) := ⟨⟨fun _ _ _ => False, ⟨fun _ _ _ _ _ _ h => h.elim⟩, fun ph am σ H δ Q ans δ' s q _ _ => by cases q⟩⟩
theorem ds_never : DS X W st (fun _ => none) := ⟨⟨tNever, ps_never, fun ph am σ H δ D ans δ' s q _ _ => by cases q⟩⟩
theorem dss_never : DSs X W sts (fun _ => none) := ⟨⟨tNever, pss_never, fun ph am σ H δ D ans δ' s q _ _ => by cases q⟩⟩
end PD
end

section
set_option Elab.async false
set_option linter.all false
set_option maxRecDepth 100000
set_option maxHeartbeats 1000000
namespace PD
open PySem PySem.Spec PyProof.Rows L2
variable {X : Cx} {W : WX} {pos : Pos} {e e1 : Expr} {es : List Expr}
variable {K : PySem.W.Frag} {ph : Fx} {am am' : Am} {H H' : Hp} {σ σ' : L2.St} {δ δ' : Sg} {a p : Addr} {v : V} {vs : List V} {d : PyData} {ds : List PyData} {i j : Nat}
/-- a free slot is emptied -/
theorem SR.unset (s : SR K ph am σ H δ) {c : Cell} (e : δ[i]? = some c) (hc : c.free = true) : SR K ph (amDrop am i) (σ.set i none) H (δ.set i .un) := by
  have st : Step am H (amDrop am i) H := step_drop
  have hi : i < δ.length := (List.getElem?_eq_some_iff.mp e).1
  refine ⟨by rw [List.length_set, List.length_set, s.len], fun j d' q => ?_, fun j b' ds' q => ?_, fun j a' q => ?_, fun j k a' q1 q2 => ?_, s.phs, fun j a' q => ?_, fun j o q => ?_⟩
  · by_cases hj : j = i
    · subst hj
      rw [List.getElem?_set_self hi] at q
      cases q
    · rw [List.getElem?_set_ne (Ne.symm hj)] at q
      obtain ⟨v', h1, h2⟩ := s.fz j d' q
      exact ⟨v', by rw [List.getElem?_set_ne (Ne.symm hj)]; exact h1, dp_mono st.hid h2⟩
  · by_cases hj : j = i
    · subst hj
      rw [List.getElem?_set_self hi] at q
      cases q
    · rw [List.getElem?_set_ne (Ne.symm hj)] at q
      obtain ⟨a2, vs2, h1, h2, h3, h4, h5, h6⟩ := s.ow j b' ds' q
      exact ⟨a2, vs2, amDrop_some.mpr ⟨hj, h1⟩, by rw [List.getElem?_set_ne (Ne.symm hj)]; exact h2, h3, dps_mono st.hid h4, h5, h6⟩
  · obtain ⟨n, q⟩ := amDrop_some.mp q
    obtain ⟨h1, c', h2, h3⟩ := s.amf j a' q
    exact ⟨h1, c', by rw [List.getElem?_set_ne (Ne.symm n)]; exact h2, h3⟩
  · exact s.inj j k a' (amDrop_some.mp q1).2 (amDrop_some.mp q2).2
  · refine amDrop_some.mpr ⟨fun z => ?_, s.bas j a' q⟩
    subst z
    rw [s.nba e hc] at q
    cases q
  · by_cases hj : j = i
    · subst hj
      rw [List.getElem?_set_self hi] at q
      cases q
    · rw [List.getElem?_set_ne (Ne.symm hj)] at q
      obtain ⟨a2, u, h1, h2, h3, h4, h5⟩ := s.od j o q
      exact ⟨a2, u, amDrop_some.mpr ⟨hj, h1⟩, by rw [List.getElem?_set_ne (Ne.symm hj)]; exact h2, h3, dor_mono st.hid h4, h5⟩
/-- what an exception holds -/
def PL (K : PySem.W.Frag) (ph : Fx) (am : Am) (H : Hp) (dx : Option Addr) (fs : List (Str × PyData)) : Prop :=
  (fs = [] ∧ dx = none) ∨ ∃ a vs, dx = some a ∧ fs ≠ [] ∧ H a = some (.xd vs) ∧ vs.map (·.1) = fs.map (·.1) ∧ DqAll K (hid ph am H) (vs.map (·.2)) (fs.map (·.2))
/-- what a suite puts together: constants, what the exception in slot i is and holds -/
structure DXs (X : Cx) (i : Nat) (c : Str) (es : List Expr) (g : List (Str × PyData) → Option (List PyData)) : Prop where
  ex : ∀ (a : Addr) (oe : Obj) (C : Addr) (dx : Option Addr) (pn : List (Addr × Obj)), Zc (.ref C) dx oe → (∃ vs, oe.data = .fields vs) → X.mg c = some (.ref C) →
    ∃ t, PA (X.suite a ((a, oe) :: pn)) es t ∧ ∀ (ph : Fx) (am : Am) (σ : L2.St) (H : Hp) (Q : List V → Hp → Prop) (fs : List (Str × PyData)) (ds : List PyData), σ[i]? = some (some (.ref a)) → PL X.K ph am H dx fs → g fs = some ds →
      (∀ vs, DqAll X.K (hid ph am H) vs ds → Q vs H) → t σ H Q
variable {c : Str} {gi : List (Str × PyData) → Option (List PyData)}
def gCon (d : PyData) (g : List (Str × PyData) → Option (List PyData)) : List (Str × PyData) → Option (List PyData) := fun fs => (g fs).map (d :: ·)
def gIs (b : Bool) (g : List (Str × PyData) → Option (List PyData)) : List (Str × PyData) → Option (List PyData) := fun fs => match fs with
  | [] => (g fs).map (.bool b :: ·)
  | _ => none
theorem dx_nil : DXs X i c [] (fun _ => some []) := ⟨fun a oe C dx pn hz hf hm => ⟨tNil, pa_nil, fun ph am σ H Q fs ds hs hp hg k => by cases hg; exact k [] .nil⟩⟩
theorem dx_con {v : V} (hc : ∀ X' : Cx, PE X' e (tC v)) (hv : ∀ H, Dq X.K H v d) (h : DXs X i c es gi) (hs : starEach (e :: es) X.env = (false, eval e X.env) :: starEach es X.env := by rfl) : DXs X i c (e :: es) (gCon d gi) :=
  ⟨fun a oe C dx pn hz hf hm => by
    obtain ⟨t, p, q⟩ := h.ex a oe C dx pn hz hf hm
    refine ⟨_, pa_cons (hc _) p hs, fun ph am σ H Q fs ds hσ hp hg k => ?_⟩
    unfold gCon at hg
    cases e2 : gi fs with
    | none => rw [e2] at hg; cases hg
    | some ds2 =>
      rw [e2] at hg
      cases hg
      exact q ph am σ H _ fs ds2 hσ hp e2 fun vs dv => k (v :: vs) (.cons (hv _) dv)⟩
theorem dx_str {x : Str} {k} (h : DXs X i c es gi) (hs : starEach (.Constant (.str x) k pos :: es) X.env = (false, eval (.Constant (.str x) k pos) X.env) :: starEach es X.env := by rfl) : DXs X i c (.Constant (.str x) k pos :: es) (gCon (.str x) gi) :=
  dx_con (v := .str x) (fun _ => pe_str) (fun _ => .str x) h hs

variable {pf pn pT : Pos}
/-- isinstance(n, T), n the exception -/
theorem dx_isi {n T : Str} {b : Bool} (Tn : String) (hC : ∀ C, X.mg c = some (.ref C) → ExcC X.K C ∧ PySem.W.kitOne X.K (.ref C) (.type Tn) = some b) (hm : X.mg "isinstance" = none) (hmT : X.mg T = none) (hv : bootBuiltins T = some (.type Tn)) (h : DXs X i c es gi)
    (hN : X.N[i]? = some n := by rfl) (hvi : Vis X.env.scope n := by first | exact Or.inl rfl | exact Or.inr (Or.inl rfl) | exact Or.inr (Or.inr rfl)) (hdn : (n == ("__debug__" : Str)) = false := by decide) (hcd : (n == ("__classdict__" : Str)) = false := by decide)
    (hg : Gl X "isinstance" := by rfl) (hgT : Gl X T := by rfl) (hn : T ≠ "__name__" := by decide) (hd : (T == ("__debug__" : Str)) = false := by decide)
    (hs1 : starEach [.Name T pT] X.env = (false, eval (.Name T pT) X.env) :: starEach [] X.env := by rfl)
    (hs : starEach [.Name n pn, .Name T pT] X.env = (false, eval (.Name n pn) X.env) :: starEach [.Name T pT] X.env := by rfl) (hpl : (backTo pos (starEach [.Name T pT] X.env)).any (·.1) = false := by rfl)
    (hs0 : starEach (.Call (.Name "isinstance" pf) [.Name n pn, .Name T pT] [] pos :: es) X.env = (false, eval (.Call (.Name "isinstance" pf) [.Name n pn, .Name T pT] [] pos) X.env) :: starEach es X.env := by rfl) :
    DXs X i c (.Call (.Name "isinstance" pf) [.Name n pn, .Name T pT] [] pos :: es) (gIs b gi) :=
  ⟨fun a oe C dx q hz hf hm' => by
    obtain ⟨t, p, r⟩ := h.ex a oe C dx q hz hf hm'
    obtain ⟨hc, hk⟩ := hC C hm'
    cases dx with
    | some dd => 
      exact ⟨fun _ _ _ => False, ⟨fun _ _ _ _ _ _ _ (h : False) => h.elim⟩, fun ph am σ H Q fs ds hσ hp hg k => by
        unfold gIs at hg
        split at hg
        · rcases hp with ⟨_, z⟩ | ⟨a', vs, z, e0, _⟩
          · cases z
          · exact (e0 rfl).elim
        · cases hg⟩
    | none =>
      refine ⟨_, pa_cons (pe_callB (X := X.suite a ((a, oe) :: q)) (call_isE hc hz hf) hg hm boot_isinstance (pa_cons (pe_var hN hvi hdn hcd) (pa_cons (pe_bltn (v := .ty Tn) hgT hmT hv rfl hn hd) pa_nil hs1) hs) (by decide) (by decide) hs hpl) p hs0, fun ph am σ H Q fs ds hσ hp hg k => ?_⟩
      unfold gIs at hg
      split at hg
      · cases e2 : gi [] with
        | none => rw [e2] at hg; cases hg
        | some ds2 =>
          rw [e2] at hg
          cases hg
          exact ⟨_, hσ, .ty Tn, .type Tn, b, rfl, fun u hu => hu, hk, r ph am σ H _ [] ds2 hσ hp e2 fun vs dv => k (.bl b :: vs) (.cons (.bl b) dv)⟩
      · cases hg⟩
/-! ### try: .. except x as n: y = [..] -/
def tsOf (X : Cx) (W : WX) (g : MS) : TS := fun D σ H => ∃ ph am δ ans δ', SR X.K ph am σ H δ ∧ g δ = some (ans, δ') ∧ (∀ fl, ans = .ok fl → EndOk X.K ph am H δ' D fl) ∧ (∀ c fs, ans = .ex c fs → XPS X W ph am H δ' c fs)
theorem DSs.can {sts : List Stmt} {g : MS} (h : DSs X W sts g) : PSs X sts (tsOf X W g) := by
  obtain ⟨t, p, q⟩ := h.ex
  exact ⟨fun pins s σ H D I ⟨ph, am, δ, ans, δ', s1, e, k, kx⟩ => p.run pins s σ H D I (q ph am σ H δ D ans δ' s1 e k kx)⟩
def sTryX (c : Str) (i j : Nat) (gi : List (Str × PyData) → Option (List PyData)) (g : MS) : MS := fun δ => match g δ with
  | some (.ok fl, δ1) => some (.ok fl, δ1)
  | some (.ex c' fs, δ1) => if c' = c then (match gi fs, δ1[i]?, δ1[j]? with
    | some ds, some ci, some cj => if (ci.free && cj.free && (i != j) && decide (ds.length ≤ 1000)) = true then some (.ok .nx, (δ1.set j (.fz (.list ds))).set i .un) else none
    | _, _, _ => none) else none
  | none => none
def tCat (X : Cx) (i j : Nat) (c : Str) (gi : List (Str × PyData) → Option (List PyData)) : Addr → Value → Option Addr → TS := fun a cls dx D σ H => ∃ C ph am fs ds, cls = .ref C ∧ X.mg c = some (.ref C) ∧ σ[i]? = some (some (.ref a)) ∧ PL X.K ph am H dx fs ∧ gi fs = some ds ∧
  (∀ vs, DqAll X.K (hid ph am H) vs ds → vs.length ≤ sizeLine ∧ ∀ p, H p = none → D.nx (σ.set j (some (.ref p))) (upd H p (.lst vs)))
theorem ds_try_set {n x y : Str} {C : Addr} {py spos np pos' : Pos} {body : List Stmt} {g : MS} (hs : X.stack = X.env :: X.outer) (hfr : X.env.frame = some X.env.locals) (hN : X.N.Nodup) (tk : Takes X W) (hx : Names X x (.ref C)) (hxm : X.mg x = some (.ref C)) (hself : PySem.W.exmOne X.K (.ref C) (.ref C) = some true)
    (hb : ∀ (W' : WX) (pn : List (Addr × Obj)) (xe : Value → Shared → Prop), Takes (X.tr pn xe) W' → DSs (X.tr pn xe) W' body g) (hd : DXs X i x es gi)
    (hi : X.N[i]? = some n := by rfl) (hln : X.env.kindOf n = some .local := by rfl) (hj : X.N[j]? = some y := by rfl) (hy : Loc X.env.scope y := by first | exact Or.inl rfl | exact Or.inr rfl) (hsw : swapsWith (.List es pos) (some (.Name y py)) spos.line X.env = pure false := by rfl)
    (hf : X.fn y = true ∨ X.env.scope.names.lookup y = some .local := by first | exact .inl rfl | exact .inr rfl) :
    DS X W (.Try body [.ExceptHandler (some (.Name x np)) (some n) [.Assign [.Name y py] (.List es pos) spos] pos'] [] [] pf) (sTryX x i j gi g) := by
  refine ⟨⟨_, ps_try_as (tb := fun W' => tsOf X W' g) (ts := tCat X i j x gi) (Wout := fun _ _ _ _ => False) hs hfr hN hi hln hx takes0 (fun W' pn xe tk' _ => (hb W' pn xe tk').can) (fun a oe cls dx pn hz hv => ?_), fun ph am σ H δ D ans δ' s q k kx => ?_⟩⟩
  · refine ⟨fun pins s σ H D I h => ?_⟩
    obtain ⟨C', ph, am, fs, ds, rfl, hm, hσ, hp, hg, k⟩ := h
    obtain ⟨t, pt, qt⟩ := hd.ex a oe C' dx pn hz hv hm
    refine (pss_one (ps_set (X := X.suite a ((a, oe) :: pn)) hN hj hy (pe_lst pt) hsw hf)).run pins s σ H D I ?_
    exact qt ph am σ H _ fs ds hσ hp hg fun vs dv => k vs dv
  · unfold sTryX at q
    split at q
    · rename_i fl δ1 e1
      cases q
      exact ⟨ph, am, δ, _, _, s, e1, fun fl' z => by cases z; exact k _ rfl, fun c fs z => by cases z⟩
    · rename_i c' fs δ1 e1
      split at q
      · rename_i hc
        subst hc
        split at q
        · rename_i ds ci cj g1 g2 g3
          split at q
          · rename_i hc
            simp only [Bool.and_eq_true, bne_iff_ne, decide_eq_true_eq] at hc
            obtain ⟨⟨⟨f1, f2⟩, nij⟩, hl⟩ := hc
            cases q
            refine ⟨ph, am, δ, _, _, s, e1, fun fl' z => (by cases z), fun c fs z => ?_⟩
            cases z
            intro C' dx am' σ' H' hm st s' pl
            have hi' : i < σ'.length := by rw [s'.len]; exact (List.getElem?_eq_some_iff.mp g2).1
            rw [hxm] at hm
            cases hm
            refine ⟨true, hself, fun _ a na => ?_, fun z => by cases z⟩
            refine ⟨C, ph, am', _, ds, rfl, hxm, List.getElem?_set_self hi', pl, g1, fun vs dv => ?_⟩
            have hz : vs.length ≤ sizeLine := by rw [dv.length, sizeLine_eq]; omega
            refine ⟨hz, fun p np => ?_⟩
            have s2 := (s'.same (same_new (o := .lst vs) np))
            have s3 := s2.put g3 f2 (new_lst (fun b h => s'.hidden h) np dv)
            have g2' : (δ1.set j (.fz (.list ds)))[i]? = some ci := by rw [List.getElem?_set_ne (Ne.symm nij)]; exact g2
            have s4 := s3.unset g2' f1
            have e : ((σ'.set i (some (.ref a))).set j (some (.ref p))).set i none = (σ'.set j (some (.ref p))).set i none := by
              rw [List.set_comm _ _ (Ne.symm nij), List.set_set]
              exact List.set_comm _ _ nij
            show D.nx (((σ'.set i (some (.ref a))).set j (some (.ref p))).set i none) _
            rw [e]
            exact k _ rfl _ _ _ ((st.trans (Step.of (same_new np))).trans (step_drop.trans step_drop)) s4
          · cases q
        · cases q
      · cases q
    · cases q
end PD
end

section
set_option Elab.async false
set_option linter.all false
set_option maxRecDepth 100000
set_option maxHeartbeats 1000000
namespace PD
open PySem PySem.Spec PyProof.Rows L2
variable {X : Cx} {W : WX} {pos : Pos} {e e1 e2 e3 : Expr} {es : List Expr} {f g h : M PyData} {fs : M (List PyData)} {fb gb : M Bool}
variable {K : PySem.W.Frag} {ph : Fx} {am am' am1 : Am} {H H' H1 : Hp} {σ σ' : L2.St} {δ δ' δ1 : Sg} {a p p1 p2 : Addr} {v : V} {vs : List V} {d : PyData} {ds : List PyData} {i : Nat}
/-! ### targets that store into a list that a name owns -/
def ReadGM (X : Cx) (t : TG) (s : Tg) : Prop := ∀ (ph : Fx) (am : Am) (σ : L2.St) (H : Hp) (δ δ' : Sg) (v : V) (d : PyData) (Q : L2.St → Hp → Prop), SR X.K ph am σ H δ → Dq X.K (hid ph am H) v d → s d δ = some δ' →
  (∀ am' σ' H', Step am H am' H' → SR X.K ph am' σ' H' δ' → Q σ' H') → t v σ H Q
structure DGM (X : Cx) (tg : Expr) (s : Tg) : Prop where
  ex : ∃ t, PG X tg t ∧ ReadGM X t s
structure DGsM (X : Cx) (ts : List Expr) (s : Tgs) : Prop where
  ex : ∃ t, PGs X ts t ∧ ∀ (ph : Fx) (am : Am) (σ : L2.St) (H : Hp) (δ δ' : Sg) (vs : List V) (ds : List PyData) (Q : L2.St → Hp → Prop), SR X.K ph am σ H δ → DqAll X.K (hid ph am H) vs ds → s ds δ = some δ' →
    (∀ am' σ' H', Step am H am' H' → SR X.K ph am' σ' H' δ' → Q σ' H') → t vs σ H Q
def sSubT (i : Nat) (g : M PyData) : Tg := fun d δ => match δ[i]? with
  | some (.ow _ _) => match g δ with
    | some (.ok (.int n), δ2) => match δ2[i]? with
      | some (.ow b ds) => match ixN ds.length n with
        | some j => some (δ2.set i (.ow b (ds.set j d)))
        | none => none
      | _ => none
    | _ => none
  | _ => none
theorem dgm_sub {i : Nat} {x : Str} {pn ps' : Pos} (hk : DE X W e2 g) (hN : X.N[i]? = some x := by rfl) (hv : Vis X.env.scope x := by first | exact Or.inl rfl | exact Or.inr (Or.inl rfl) | exact Or.inr (Or.inr rfl)) (hd : (x == ("__debug__" : Str)) = false := by decide) (hcd : (x == ("__classdict__" : Str)) = false := by decide)
    (ha : ∀ v, assign (.Subscript (.Name x pn) e2 ps') X.env v = (do
      let ov ← holding [v] (eval (.Name x pn) X.env)
      let iv ← holding [v, ov] (eval e2 X.env)
      standAt ps'
      holding [v, ov, iv] (setItem ov iv v)
      release [v, ov, iv] []) := by intro _; rfl) : DGM X (.Subscript (.Name x pn) e2 ps') (sSubT i g) := by
  obtain ⟨t2, p2, q2⟩ := hk.ex
  refine ⟨⟨_, pg_sub (pe_var hN hv hd hcd) p2 set_list ha, fun ph am σ H δ δ' v d Q s dv z k => ?_⟩⟩
  unfold sSubT at z
  split at z
  · rename_i b0 ds0 e3
    obtain ⟨a0, vs0, o1, o2, o3, o4, _, _⟩ := s.ow i b0 ds0 e3
    refine ⟨.ref a0, o2, ?_⟩
    split at z
    · rename_i n δ2 e4
      refine q2 ph am σ H δ _ _ _ s e4 (fun d' ed am2 w H2 st2 s2 d2 => ?_) (fun c fs z => by cases z)
      cases ed
      split at z
      · rename_i b ds e6
        cases d2 with
        | int n =>
          obtain ⟨a1, vs1, r1, r2, r3, r4, r5, r6⟩ := s2.ow i b ds e6
          rw [o2] at r2
          cases r2
          split at z
          · rename_i j e7
            cases z
            refine ⟨a0, vs1, _, j, rfl, rfl, r3, by rw [r4.length]; exact e7, ?_⟩
            exact k am2 σ _ (st2.trans (step_mut r1 r3)) (s2.mut e6 r1 (r4.set (dp_mono st2.hid dv) j) (by rw [List.length_set]; exact r5))
          · cases z
      · cases z
    · cases z
  · cases z
theorem dgsm_nil : DGsM X [] sNil := ⟨⟨gNil, pgs_nil, fun ph am σ H δ δ' vs ds Q s dv q k => by
  cases dv with
  | nil => cases q; exact ⟨rfl, k am σ H Step.refl s⟩
  | cons _ _ => cases q⟩⟩
theorem dgsm_cons {tg : Expr} {ts : List Expr} {s : Tg} {r : Tgs} (h : DGM X tg s) (t : DGsM X ts r) (hs : (assignEach (tg :: ts) X.env).map (·.2) = assign tg X.env :: (assignEach ts X.env).map (·.2) := by rfl) : DGsM X (tg :: ts) (sCons s r) := by
  obtain ⟨t1, p1, q1⟩ := h.ex
  obtain ⟨t2, p2, q2⟩ := t.ex
  refine ⟨⟨_, pgs_cons p1 p2 hs, fun ph am σ H δ δ' vs ds Q s dv q k => ?_⟩⟩
  cases dv with
  | nil => cases q
  | cons dv dt =>
    rename_i v vs d ds
    unfold sCons at q
    simp only at q
    split at q
    · rename_i δ1 e1
      refine ⟨v, vs, rfl, q1 ph am σ H δ δ1 v d _ s dv e1 fun am1 σ1 H1 st1 s1 => ?_⟩
      exact q2 ph am1 σ1 H1 δ1 δ' vs ds Q s1 (dps_mono st1.hid dt) q fun am2 σ2 H2 st2 s2 => k am2 σ2 H2 (st1.trans st2) s2
    · cases q
theorem dgm_tup {ts : List Expr} {k n : Nat} {r : Tgs} (hc : X.calm = true) (t : DGsM X ts r) (hn : (assignEach ts X.env).length = n := by rfl) (hst : (assignEach ts X.env).findIdx? (·.1) = none := by rfl) : DGM X (.Tuple ts k pos) (sTup n r) := by
  obtain ⟨t2, p2, q2⟩ := t.ex
  refine ⟨⟨_, pg_tup hc p2 hn hst, fun ph am σ H δ δ' v d Q s dv q k => ?_⟩⟩
  cases dv with
  | tup h1 a1 =>
    unfold sTup at q
    simp only at q
    split at q
    · rename_i hl
      exact ⟨_, _, rfl, seqT_hid h1, by rw [a1.length]; exact hl, q2 ph am σ H δ δ' _ _ Q s a1 q k⟩
    · cases q
  | _ => cases q
theorem asgm_read {t : TE} {u : TG} {s : Tg} (q1 : ReadE X W t f) (q2 : ReadGM X u s) : ReadS X W (tAsg t u) (sAsg f s) := by
  intro ph am σ H δ D ans δ' sr z k kx
  rcases bnd_some z with ⟨d, δ1, e1, e2⟩ | ⟨c, fs, e1, e2⟩
  · refine q1 ph am σ H δ _ _ _ sr e1 (fun d ed am1 v H1 st1 s1 d1 => ?_) (fun c fs z => by cases z)
    cases ed
    split at e2
    · rename_i δ2 e3
      cases e2
      exact q2 ph am1 σ H1 δ1 _ v d _ s1 d1 e3 fun am2 σ2 H2 st2 s2 => k _ rfl am2 σ2 H2 (st1.trans st2) s2
    · cases e2
  · subst e2
    exact q1 ph am σ H δ _ _ _ sr e1 (fun d ed => by cases ed) (fun c' fs' z => by cases z; exact (kx _ _ rfl).at)
theorem ds_asgm {tg : Expr} {s : Tg} (he : DE X W e f) (hg : DGM X tg s) (hs : swapsWithSole [tg] e pos.line X.env = pure false := by rfl) (hw : swappedStores [tg] e X.env = pure none := by rfl)
    (h1 : (assignEach [tg] X.env).map (·.2) = [assign tg X.env] := by rfl) : DS X W (.Assign [tg] e pos) (sAsg f s) := by
  obtain ⟨t, p, q⟩ := he.ex
  obtain ⟨u, pu, qu⟩ := hg.ex
  exact ⟨⟨_, ps_asg p pu hs hw h1, asgm_read q qu⟩⟩
/-! ### any over numbers and truth values -/
def simpleD : PyData → Bool
  | .int _ => true
  | .bool _ => true
  | _ => false
def any2D : List PyData → Option PyData
  | [.list xs] => if xs.all simpleD = true then some (.bool (xs.any PyData.truthy)) else none
  | [.tuple xs] => if xs.all simpleD = true then some (.bool (xs.any PyData.truthy)) else none
  | _ => none
theorem simple_plain : ∀ {xs : List PyData}, xs.all simpleD = true → PyData.plainAll xs = true
  | [], _ => rfl
  | x :: xs, h => by
    rw [List.all_cons, Bool.and_eq_true] at h
    rw [PyData.plainAll, simple_plain h.2, Bool.and_true]
    cases x <;> first | rfl | (exact absurd h.1 Bool.false_ne_true)
theorem simple_fits {xs : List PyData} (h : xs.all simpleD = true) : ∀ x ∈ xs, x.fits63 := fun x hx => by
  have := List.all_eq_true.mp h x hx
  cases x <;> first | trivial | (exact absurd this Bool.false_ne_true)
def rAny2 (K : PySem.W.Frag) : List V → Hp → VK → Prop := fun vs H Q => ∃ v ds, vs = [v] ∧ (Dp K H v (.list ds) ∨ Dp K H v (.tuple ds)) ∧ ds.all simpleD = true ∧ Q (.bl (ds.any PyData.truthy)) H
theorem cr_any2 (hc : X.calm = true) : CallR X (.builtin "any") (rAny2 X.K) := by
  intro pins s σ H vs us Q I r h
  obtain ⟨v, ds, rfl, hd, hs, q⟩ := h
  obtain ⟨u, rfl, ru⟩ := r.one
  rcases hd with hd | hd
  · obtain ⟨as, rd⟩ := Dp.reads I _ _ _ hd ru
    cases rd with
    | list h1 h2 h3 h4 =>
      refine W.any_list_data (I.ok.hd hc) ⟨_, h1, h2, _, h3⟩ h4 (simple_plain hs) (simple_fits hs) fun h' tk hk => ?_
      exact ⟨.bl _, H, I.kept fun b o eo => hk b o eo, rfl, q⟩
  · obtain ⟨as, rd⟩ := Dp.reads I _ _ _ hd ru
    cases rd with
    | tuple h1 h2 h3 h4 =>
      refine W.any_tuple_data (I.ok.hd hc) ⟨_, h1, h2, _, h3⟩ h4 (simple_plain hs) (simple_fits hs) fun h' tk hk => ?_
      exact ⟨.bl _, H, I.kept fun b o eo => hk b o eo, rfl, q⟩
theorem calld_any2 : CallD X (rAny2 X.K) any2D := by
  intro ph am H xs ds c Q hh hd e k
  cases hd with
  | nil => cases e
  | cons d1 t1 =>
    cases t1 with
    | cons _ _ => cases d1 <;> cases e
    | nil =>
      rename_i v d
      have d2 : Dq X.K H v d := dp_mono hid_sub d1
      cases d with
      | list xs =>
        obtain ⟨hs, rfl⟩ := if_some e
        exact ⟨v, xs, rfl, .inl d2.dp, hs, k _ _ (fun _ _ h => h) (.bl _)⟩
      | tuple xs =>
        obtain ⟨hs, rfl⟩ := if_some e
        exact ⟨v, xs, rfl, .inr d2.dp, hs, k _ _ (fun _ _ h => h) (.bl _)⟩
      | _ => cases e
/-! ### max of two numbers -/
def max2D : List PyData → Option PyData
  | [.int i, .int j] => some (.int (if j > i then j else i))
  | _ => none
theorem calld_max2 : CallD X (fun xs H Q => ∃ i j, xs = [.int i, .int j] ∧ Q (.int (if j > i then j else i)) H) max2D := by
  intro ph am H xs ds c Q hh hd e k
  cases hd with
  | nil => cases e
  | cons d1 t1 =>
    cases t1 with
    | nil => cases d1 <;> cases e
    | cons d2 t2 =>
      cases t2 with
      | cons _ _ => cases d1 <;> cases d2 <;> cases e
      | nil =>
        cases d1 <;> cases d2 <;> first | (cases e; done) | skip
        cases e
        exact ⟨_, _, rfl, k _ _ (fun _ _ h => h) (.int _)⟩
def min2D : List PyData → Option PyData
  | [.int i, .int j] => some (.int (if j < i then j else i))
  | _ => none
theorem calld_min2 : CallD X (fun xs H Q => ∃ i j, xs = [.int i, .int j] ∧ Q (.int (if j < i then j else i)) H) min2D := by
  intro ph am H xs ds c Q hh hd e k
  cases hd with
  | nil => cases e
  | cons d1 t1 =>
    cases t1 with
    | nil => cases d1 <;> cases e
    | cons d2 t2 =>
      cases t2 with
      | cons _ _ => cases d1 <;> cases d2 <;> cases e
      | nil =>
        cases d1 <;> cases d2 <;> first | (cases e; done) | skip
        cases e
        exact ⟨_, _, rfl, k _ _ (fun _ _ h => h) (.int _)⟩
section
variable (hd : DA X W [e] fs)
include hd
theorem de_any2 {pf : Pos} (hm : X.mg "any" = none) (hc : X.calm = true := by rfl) (hg : Gl X "any" := by rfl) (he : starEach [e] X.env = (false, eval e X.env) :: starEach [] X.env := by rfl) (hpl : (backTo pos (starEach [] X.env)).any (·.1) = false := by rfl) : DE X W (.Call (.Name "any" pf) [e] [] pos) (xCall any2D fs) :=
  de_callB calld_any2 (cr_any2 hc) hm bb_any hd hg (by decide) (by decide) he hpl
end
theorem bb_max : bootBuiltins "max" = some (.builtin "max") := by rfl
theorem de_max2 {pf : Pos} (hd : DA X W [e1, e2] fs) (hm : X.mg "max" = none) (hc : X.calm = true := by rfl) (hg : Gl X "max" := by rfl) (he : starEach [e1, e2] X.env = (false, eval e1 X.env) :: starEach [e2] X.env := by rfl) (hpl : (backTo pos (starEach [e2] X.env)).any (·.1) = false := by rfl) : DE X W (.Call (.Name "max" pf) [e1, e2] [] pos) (xCall max2D fs) :=
  de_callB calld_max2 (call_max2 hc) hm bb_max hd hg (by decide) (by decide) he hpl
theorem bb_min : bootBuiltins "min" = some (.builtin "min") := by rfl
theorem de_min2 {pf : Pos} (hd : DA X W [e1, e2] fs) (hm : X.mg "min" = none) (hc : X.calm = true := by rfl) (hg : Gl X "min" := by rfl) (he : starEach [e1, e2] X.env = (false, eval e1 X.env) :: starEach [e2] X.env := by rfl) (hpl : (backTo pos (starEach [e2] X.env)).any (·.1) = false := by rfl) : DE X W (.Call (.Name "min" pf) [e1, e2] [] pos) (xCall min2D fs) :=
  de_callB calld_min2 (call_min2 hc) hm bb_min hd hg (by decide) (by decide) he hpl
end PD
end

section
set_option Elab.async false
set_option linter.all false
set_option maxRecDepth 100000
set_option maxHeartbeats 1000000
namespace PD
open PySem PySem.Spec PyProof.Rows L2
variable {X : Cx} {W : WX} {pos : Pos} {e e1 e2 e3 : Expr} {es : List Expr} {f g h : M PyData} {fs : M (List PyData)} {fb gb : M Bool}
variable {K : PySem.W.Frag} {ph : Fx} {am am' am1 : Am} {H H' H1 : Hp} {σ σ' : L2.St} {δ δ' δ1 : Sg} {a p p1 p2 : Addr} {v : V} {vs : List V} {d : PyData} {ds : List PyData} {i : Nat}
/-! ### x, y = a new list that x is to own, e -/
def sPar2O (fs : M (List PyData)) (g : M PyData) (i j : Nat) : MS := bnd fs fun ds => fun δ => match g δ with
  | some (.ok d, δ1) => match δ1[i]? with
    | some c => if c.free = true then (match sName j d (δ1.set i (.ow false ds)) with
      | some δ2 => some (.ok .nx, δ2)
      | none => none) else none
    | none => none
  | _ => none
theorem ds_par2O {x y : Str} {px py pt : Pos} {kt k2 pt2} (hc : X.calm = true) (hN : X.N.Nodup) (he1 : DF X W e1 fs) (he2 : DE X W e2 g) (hi : X.N[i]? = some x := by rfl) {j : Nat} (hj : X.N[j]? = some y := by rfl) (hij : i ≠ j := by decide)
    (hx : X.env.scope.names.lookup x = some .local := by rfl) (hy : X.env.scope.names.lookup y = some .local := by rfl)
    (hw : swappedStores [.Tuple [.Name x px, .Name y py] kt pt] (.Tuple [e1, e2] k2 pt2) X.env = pure (some [x, y]) := by rfl)
    (hs : swapsWithSole [.Tuple [.Name x px, .Name y py] kt pt] (.Tuple [e1, e2] k2 pt2) pos.line X.env = pure false := by rfl)
    (hs1 : starEach [e1, e2] X.env = (false, eval e1 X.env) :: starEach [e2] X.env := by rfl) (hs2 : starEach [e2] X.env = (false, eval e2 X.env) :: starEach [] X.env := by rfl) : DS X W (.Assign [.Tuple [.Name x px, .Name y py] kt pt] (.Tuple [e1, e2] k2 pt2) pos) (sPar2O fs g i j) := by
  obtain ⟨t1, p1, q1⟩ := he1.ex
  obtain ⟨t2, p2, q2⟩ := he2.ex
  refine ⟨⟨_, ps_par hc hN hi hj hij hx hy (pa_cons p1 (pa_cons p2 pa_nil hs2) hs1) hw hs, fun ph am σ H δ D ans δ' s z k kx => ?_⟩⟩
  rcases bnd_some z with ⟨ds, δ1, e1, e2⟩ | ⟨c, fs, e1, e2⟩
  · refine q1 ph am σ H δ _ _ _ s e1 (fun d' ed am1 p vs H1 n0 n1 st1 s1 dv hz => ?_) (fun c fs z => by cases z)
    cases ed
    have np : ∀ l, am1 l ≠ some p := fun l h => by
      obtain ⟨o, z⟩ := s1.hidden (.inr ⟨l, h⟩)
      rw [n1] at z; cases z
    have nph : ¬ ph.ph p := fun h => s1.new n1 (.inl h)
    have s1' : SR X.K (ph.also p) am1 σ (upd H1 p (.lst vs)) δ1 := SR.also (by rw [del_new n1]; exact s1) upd_same
    split at e2
    · rename_i d δ2 e3
      refine q2 (ph.also p) am1 σ _ δ1 _ _ _ s1' e3 (fun d' ed am2 w H2 st2 s2 d2 => ?_) (fun c fs z => by cases z)
      cases ed
      have hp2 : H2 p = some (.lst vs) := st2.keep p _ upd_same np
      have np2 : ∀ l, am2 l ≠ some p := fun l h => (s2.amf l p h).1 (.inr rfl)
      have s3 : SR X.K ph am2 σ (del p H2) δ2 := s2.unalso nph
      rw [hid_also] at d2
      have st3 : Step am1 H1 am2 (del p H2) := by
        have := st2.del np2
        rw [del_new n1] at this
        exact this
      have dv2 : DqAll X.K (hid ph am2 (del p H2)) vs ds := dps_mono st3.hid dv
      split at e2
      · rename_i c e5
        split at e2
        · rename_i h1
          split at e2
          · rename_i δ3 n3
            cases e2
            obtain ⟨c1, f1, f2, rfl⟩ := sName_some n3
            have s4 := s3.putOwn (p := p) e5 h1 del_same dv2 hz
            have st4 : Step am2 (del p H2) (amPut am2 i p) (upd (del p H2) p (.lst vs)) := step_put del_same
            have d4 := dp_mono st4.hid d2
            rw [upd_del hp2] at s4 st4 d4
            have s5 := s4.put f1 f2 d4
            exact ⟨_, _, rfl, k _ rfl _ _ H2 (((st1.trans st3).trans st4).trans step_drop) s5⟩
          · cases e2
        · cases e2
      · cases e2
    · cases e2
  · subst e2
    exact q1 ph am σ H δ _ _ _ s e1 (fun d ed => by cases ed) (fun c' fs' z => by cases z; exact (kx _ _ rfl).at)
/-! ### xs.pop(k), xs owned -/
def xPopO (i : Nat) (g : M PyData) : M PyData := fun δ => match δ[i]? with
  | some (.ow _ _) => (bnd g fun k => fun δ1 => match δ1[i]?, k with
    | some (.ow b ds), .int n => if 0 ≤ n ∧ n < ds.length ∧ n < 2 ^ 63 then (match ds[n.toNat]? with
      | some d => some (.ok d, δ1.set i (.ow b (ds.eraseIdx n.toNat)))
      | none => none) else none
    | _, _ => none) δ
  | _ => none
theorem DqAll.erase : ∀ {vs : List V} {ds : List PyData}, DqAll K H vs ds → ∀ n : Nat, DqAll K H (vs.eraseIdx n) (ds.eraseIdx n)
  | _, _, .nil, _ => by simp; exact .nil
  | _, _, .cons h t, 0 => by simpa using t
  | _, _, .cons h t, n + 1 => by simpa using .cons h (DqAll.erase t n)
theorem hid_mut {o : HO} (h1 : am i = some a) : hid ph am (upd H a o) = hid ph am H := hid_own h1
theorem de_popO {i : Nat} {x : Str} {pn apos cpos : Pos} (he : DE X W e g) (hN : X.N[i]? = some x := by rfl) (hv : Vis X.env.scope x := by first | exact Or.inl rfl | exact Or.inr (Or.inl rfl) | exact Or.inr (Or.inr rfl)) (hd : (x == ("__debug__" : Str)) = false := by decide) (hcd : (x == ("__classdict__" : Str)) = false := by decide)
    (hs0 : starEach [e] X.env = (false, eval e X.env) :: starEach [] X.env := by rfl)
    (hbase : attributeBase (.Name x pn) "pop" X.env (eval (.Name x pn) X.env) = eval (.Name x pn) X.env := by rfl)
    (hfew : ((backTo cpos (starEach [e] X.env)).all (fun x => !x.1) && (backToKw cpos (keywordEach [] X.env)).all (fun x => x.1.isSome)
      && decide (([e] : List Expr).length + ([] : List Keyword).length + (if ([] : List Keyword).isEmpty then 0 else 1) < 30)) = true := by rfl)
    (hline : (apos.endLine == cpos.line) = true := by rfl) (hplain : (backTo cpos (starEach [] X.env)).any (·.1) = false := by rfl) : DE X W (.Call (.Attribute (.Name x pn) "pop" apos) [e] [] cpos) (xPopO i g) := by
  obtain ⟨t, p, q⟩ := he.ex
  refine ⟨⟨_, pe_bm PySem.F.plainAttrs_list PySem.F.slot_list_pop PySem.F.type_list_pop mt_popAt (pe_var hN hv hd hcd) (pa_cons p pa_nil hs0) hbase hfew hline hs0 hplain, fun ph am σ H δ Q ans δ' sr z k kx => ?_⟩⟩
  unfold xPopO at z
  split at z
  · rename_i b0 ds0 e3
    obtain ⟨a0, vs0, o1, o2, o3, o4, _, _⟩ := sr.ow i b0 ds0 e3
    refine ⟨.ref a0, o2, .inl ⟨rfl, _, .inl (.inl o3)⟩, ?_⟩
    rcases bnd_some z with ⟨d, δ2, e4, e5⟩ | ⟨c, fs, e4, e5⟩
    · refine q ph am σ H δ _ _ _ sr e4 (fun d ed am2 w H2 st2 s2 d2 => ?_) (fun c fs z => by cases z)
      cases ed
      split at e5
      · rename_i b ds n e6
        obtain ⟨a1, vs1, r1, r2, r3, r4, r5, r6⟩ := s2.ow i b ds e6
        rw [o2] at r2
        cases r2
        cases d2
        split at e5
        · rename_i hn
          split at e5
          · rename_i dd e7
            cases e5
            obtain ⟨y, g1, g2⟩ := DqAll.get r4 e7
            refine ⟨a0, vs1, n, n.toNat, y, rfl, rfl, r3, by omega, hn.2.2, ?_, g1, ?_⟩
            · unfold seqIndex?
              have := r4.length
              have h0 := hn.1
              have h1 := hn.2.1
              simp only [show ¬ n < 0 by omega, if_false]
              rw [if_pos (by simp only [Bool.and_eq_true, decide_eq_true_eq]; omega)]
            · exact k _ rfl am2 y _ (st2.trans (step_mut r1 r3)) (s2.mut e6 r1 (DqAll.erase r4 _) (by have := List.length_eraseIdx_le vs1 n.toNat; omega)) (by rw [hid_mut r1]; exact g2)
          · cases e5
        · cases e5
      · cases e5
    · subst e5
      exact q ph am σ H δ _ _ _ sr e4 (fun d ed => by cases ed) (fun c' fs' z => by cases z; exact kx _ _ rfl)
  · cases z
/-! ### xs.insert(k, e), xs owned -/
def sInsO (i : Nat) (fs : M (List PyData)) : MS := fun δ => match δ[i]? with
  | some (.ow _ _) => (bnd fs fun es => fun δ1 => match δ1[i]?, es with
    | some (.ow b ds), [.int n, d] => if ds.length < sizeLine ∧ 0 ≤ n ∧ n < 2 ^ 63 then some (.ok .nx, δ1.set i (.ow b (ds.take n.toNat ++ [d] ++ ds.drop n.toNat))) else none
    | _, _ => none) δ
  | _ => none
theorem ds_insO {i : Nat} {x : Str} {pn apos cpos : Pos} (he : DA X W [e1, e2] fs) (hN : X.N[i]? = some x := by rfl) (hv : Vis X.env.scope x := by first | exact Or.inl rfl | exact Or.inr (Or.inl rfl) | exact Or.inr (Or.inr rfl)) (hd : (x == ("__debug__" : Str)) = false := by decide) (hcd : (x == ("__classdict__" : Str)) = false := by decide)
    (hs0 : starEach [e1, e2] X.env = (false, eval e1 X.env) :: starEach [e2] X.env := by rfl)
    (hbase : attributeBase (.Name x pn) "insert" X.env (eval (.Name x pn) X.env) = eval (.Name x pn) X.env := by rfl)
    (hfew : ((backTo cpos (starEach [e1, e2] X.env)).all (fun x => !x.1) && (backToKw cpos (keywordEach [] X.env)).all (fun x => x.1.isSome)
      && decide (([e1, e2] : List Expr).length + ([] : List Keyword).length + (if ([] : List Keyword).isEmpty then 0 else 1) < 30)) = true := by rfl)
    (hline : (apos.endLine == cpos.line) = true := by rfl) (hplain : (backTo cpos (starEach [e2] X.env)).any (·.1) = false := by rfl)
    (hs : swapsWith (.Call (.Attribute (.Name x pn) "insert" apos) [e1, e2] [] cpos) none pos.line X.env = pure false := by rfl) : DS X W (.Expr (.Call (.Attribute (.Name x pn) "insert" apos) [e1, e2] [] cpos) pos) (sInsO i fs) := by
  obtain ⟨t, p, q⟩ := he.ex
  refine ⟨⟨_, ps_expr (pe_bm PySem.F.plainAttrs_list PySem.F.slot_list_insert PySem.F.type_list_insert mt_insert (pe_var hN hv hd hcd) p hbase hfew hline hs0 hplain) hs, fun ph am σ H δ D ans δ' sr z k kx => ?_⟩⟩
  unfold sInsO at z
  split at z
  · rename_i b0 ds0 e3
    obtain ⟨a0, vs0, o1, o2, o3, o4, _, _⟩ := sr.ow i b0 ds0 e3
    refine ⟨.ref a0, o2, .inl ⟨rfl, _, .inl (.inl o3)⟩, ?_⟩
    rcases bnd_some z with ⟨es, δ2, e4, e5⟩ | ⟨c, fs, e4, e5⟩
    · refine q ph am σ H δ _ _ _ sr e4 (fun d' ed am2 ws H2 st2 s2 d2 => ?_) (fun c fs z => by cases z)
      cases ed
      split at e5
      · rename_i b ds n d e6
        obtain ⟨a1, vs1, r1, r2, r3, r4, r5, r6⟩ := s2.ow i b ds e6
        rw [o2] at r2
        cases r2
        obtain ⟨hz, e8⟩ := if_some e5
        cases e8
        cases d2 with
        | cons x1 x2 =>
          cases x2 with
          | cons y1 y2 =>
            cases y2
            cases x1
            have hl := r4.length
            refine ⟨a0, vs1, n, _, rfl, rfl, r3, by omega, hz.2.1, hz.2.2, ?_⟩
            exact k _ rfl am2 σ _ (st2.trans (step_mut r1 r3)) (s2.mut e6 r1 (((r4.take n.toNat).append (.cons y1 .nil)).append (r4.drop n.toNat)) (by simp only [List.length_append, List.length_take, List.length_drop, List.length_singleton]; omega))
      · cases e5
    · subst e5
      exact q ph am σ H δ _ _ _ sr e4 (fun d ed => by cases ed) (fun c' fs' z => by cases z; exact (kx _ _ rfl).at)
  · cases z
/-! ### xs[::-1], xs owned: a new list -/
def xRevO (i : Nat) : M (List PyData) := fun δ => match δ[i]? with
  | some (.ow _ ds) => some (.ok ds.reverse, δ)
  | _ => none
theorem df_revO {i : Nat} {x : Str} {pn : Pos} {k1 : Nat} {p1 p2 p3 : Pos} (hN : X.N[i]? = some x := by rfl) (hv : Vis X.env.scope x := by first | exact Or.inl rfl | exact Or.inr (Or.inl rfl) | exact Or.inr (Or.inr rfl)) (hd : (x == ("__debug__" : Str)) = false := by decide) (hcd : (x == ("__classdict__" : Str)) = false := by decide) :
    DF X W (.Subscript (.Name x pn) (.Slice none none (some (.UnaryOp .USub (.Constant (.int 1) k1 p1) p2)) p3) pos) (xRevO i) := by
  refine ⟨⟨_, pe_revL (pe_var hN hv hd hcd), fun ph am σ H δ Q ans δ' sr z k kx => ?_⟩⟩
  unfold xRevO at z
  split at z
  · rename_i b0 ds0 e3
    cases z
    obtain ⟨a0, vs0, o1, o2, o3, o4, o5, _⟩ := sr.ow i b0 ds0 e3
    refine ⟨.ref a0, o2, a0, vs0, rfl, .inl (.inl o3), fun p np => ?_⟩
    exact k _ rfl am p _ H np np Step.refl sr o4.rev (by rw [List.length_reverse]; exact o5)
  · cases z
end PD
end

section
set_option Elab.async false
set_option linter.all false
set_option maxRecDepth 100000
set_option maxHeartbeats 1000000
namespace PD
open PySem PySem.Spec PyProof.Rows L2
variable {X : Cx} {W : WX} {pos : Pos} {e e1 e2 e3 : Expr} {es : List Expr} {f g h : M PyData} {fs : M (List PyData)} {fb gb : M Bool}
variable {K : PySem.W.Frag} {ph : Fx} {am am' am1 : Am} {H H' H1 : Hp} {σ σ' : L2.St} {δ δ' δ1 : Sg} {a p p1 p2 : Addr} {v : V} {vs : List V} {d : PyData} {ds : List PyData} {i : Nat}
theorem step_new {am : Am} {H : Hp} {u : HO} (n : H p = none) : Step am H am (upd H p u) := Step.of (same_new n)
/-- .. where a tuple is made of them first -/
theorem ds_tup2O {x y : Str} {px py pt : Pos} {kt k2 pt2} (hc : X.calm = true) (hN : X.N.Nodup) (he1 : DF X W e1 fs) (he2 : DE X W e2 g) (hi : X.N[i]? = some x := by rfl) {j : Nat} (hj : X.N[j]? = some y := by rfl)
    (hx : Loc X.env.scope x := by first | exact Or.inl rfl | exact Or.inr rfl) (hy : Loc X.env.scope y := by first | exact Or.inl rfl | exact Or.inr rfl)
    (hfx : X.fn x = true ∨ X.env.scope.names.lookup x = some .local := by first | exact .inl rfl | exact .inr rfl) (hfy : X.fn y = true ∨ X.env.scope.names.lookup y = some .local := by first | exact .inl rfl | exact .inr rfl)
    (hs : swapsWithSole [.Tuple [.Name x px, .Name y py] kt pt] (.Tuple [e1, e2] k2 pt2) pos.line X.env = pure false := by rfl)
    (hw : swappedStores [.Tuple [.Name x px, .Name y py] kt pt] (.Tuple [e1, e2] k2 pt2) X.env = pure none := by rfl)
    (h1 : (assignEach [.Tuple [.Name x px, .Name y py] kt pt] X.env).map (·.2) = [assign (.Tuple [.Name x px, .Name y py] kt pt) X.env] := by rfl)
    (g1 : (assignEach [.Name x px, .Name y py] X.env).map (·.2) = assign (.Name x px) X.env :: (assignEach [.Name y py] X.env).map (·.2) := by rfl) (g2 : (assignEach [.Name y py] X.env).map (·.2) = assign (.Name y py) X.env :: (assignEach [] X.env).map (·.2) := by rfl)
    (hn : (assignEach [.Name x px, .Name y py] X.env).length = 2 := by rfl) (hst : (assignEach [.Name x px, .Name y py] X.env).findIdx? (·.1) = none := by rfl)
    (hs1 : starEach [e1, e2] X.env = (false, eval e1 X.env) :: starEach [e2] X.env := by rfl) (hs2 : starEach [e2] X.env = (false, eval e2 X.env) :: starEach [] X.env := by rfl) : DS X W (.Assign [.Tuple [.Name x px, .Name y py] kt pt] (.Tuple [e1, e2] k2 pt2) pos) (sPar2O fs g i j) := by
  obtain ⟨t1, p1, q1⟩ := he1.ex
  obtain ⟨t2, p2, q2⟩ := he2.ex
  refine ⟨⟨_, ps_asg (pe_tup (pa_cons p1 (pa_cons p2 pa_nil hs2) hs1)) (pg_tup hc (pgs_cons (pg_name hN hi hx hfx) (pgs_cons (pg_name hN hj hy hfy) pgs_nil g2) g1) hn hst) hs hw h1, fun ph am σ H δ D ans δ' s z k kx => ?_⟩⟩
  rcases bnd_some z with ⟨ds, δ1, e1, e2⟩ | ⟨c, fs, e1, e2⟩
  · refine q1 ph am σ H δ _ _ _ s e1 (fun d' ed am1 p vs H1 n0 n1 st1 s1 dv hz => ?_) (fun c fs z => by cases z)
    cases ed
    have np : ∀ l, am1 l ≠ some p := fun l h => by
      obtain ⟨o, z⟩ := s1.hidden (.inr ⟨l, h⟩)
      rw [n1] at z; cases z
    have nph : ¬ ph.ph p := fun h => s1.new n1 (.inl h)
    have s1' : SR X.K (ph.also p) am1 σ (upd H1 p (.lst vs)) δ1 := SR.also (by rw [del_new n1]; exact s1) upd_same
    split at e2
    · rename_i d δ2 e3
      refine q2 (ph.also p) am1 σ _ δ1 _ _ _ s1' e3 (fun d' ed am2 w H2 st2 s2 d2 => ?_) (fun c fs z => by cases z)
      cases ed
      refine ⟨by simp only [List.length_cons, List.length_nil]; rw [sizeLine_eq]; omega, fun q nq => ?_⟩
      have s2' := s2.same (same_new (o := HO.tup [.ref p, w]) nq)
      have st2' := st2.trans (step_new (am := am2) (u := HO.tup [.ref p, w]) nq)
      have d2' := dp_mono (hid_same (ph := ph.also p) (am := am2) (same_new (o := HO.tup [.ref p, w]) nq)) d2
      generalize eH3 : upd H2 q (HO.tup [.ref p, w]) = H3 at s2' st2' d2'
      have hp2 : H3 p = some (.lst vs) := st2'.keep p _ upd_same np
      have np2 : ∀ l, am2 l ≠ some p := fun l h => (s2'.amf l p h).1 (.inr rfl)
      have s3 : SR X.K ph am2 σ (del p H3) δ2 := s2'.unalso nph
      rw [hid_also] at d2'
      have st3 : Step am1 H1 am2 (del p H3) := by
        have := st2'.del np2
        rw [del_new n1] at this
        exact this
      have dv2 : DqAll X.K (hid ph am2 (del p H3)) vs ds := dps_mono st3.hid dv
      split at e2
      · rename_i c e5
        split at e2
        · rename_i h1
          split at e2
          · rename_i δ3 n3
            cases e2
            obtain ⟨c1, f1, f2, rfl⟩ := sName_some n3
            have s4 := s3.putOwn (p := p) e5 h1 del_same dv2 hz
            have st4 : Step am2 (del p H3) (amPut am2 i p) (upd (del p H3) p (.lst vs)) := step_put del_same
            have d4 := dp_mono st4.hid d2'
            rw [upd_del hp2] at s4 st4 d4
            have s5 := s4.put f1 f2 d4
            refine ⟨q, _, rfl, .inl (.inl (by rw [← eH3]; exact upd_same)), rfl, _, _, rfl, _, _, rfl, rfl, ?_⟩
            exact k _ rfl _ _ H3 (((st1.trans st3).trans st4).trans step_drop) s5
          · cases e2
        · cases e2
      · cases e2
    · cases e2
  · subst e2
    exact q1 ph am σ H δ _ _ _ s e1 (fun d ed => by cases ed) (fun c' fs' z => by cases z; exact (kx _ _ rfl).at)
end PD
end

section
set_option Elab.async false
set_option linter.all false
set_option maxRecDepth 100000
set_option maxHeartbeats 1000000
namespace PD
open PySem PySem.Spec PyProof.Rows L2
variable {X : Cx} {W : WX} {pos : Pos} {e e1 e2 e3 : Expr} {es : List Expr} {f g h : M PyData} {fs : M (List PyData)} {fb gb : M Bool}
variable {K : PySem.W.Frag} {ph : Fx} {am am' am1 : Am} {H H' H1 : Hp} {σ σ' : L2.St} {δ δ' δ1 : Sg} {a p p1 p2 : Addr} {v : V} {vs : List V} {d : PyData} {ds : List PyData} {i : Nat}

/-! ### x in xs, xs a list -/
def inD (a b : PyData) : Option PyData := match b with
  | .list ds => if SeqAt.shaped a = true ∧ SeqAt.shaped (.list ds) = true then some (.bool (ds.any fun z => PyData.eqv z a)) else none
  | _ => none
def ninD (a b : PyData) : Option PyData := match b with
  | .list ds => if SeqAt.shaped a = true ∧ SeqAt.shaped (.list ds) = true then some (.bool (!ds.any fun z => PyData.eqv z a)) else none
  | _ => none
theorem opd_in : OpD X (rInD X.K) inD := by
  intro ph am H x y d e c Q hn dx dy q k
  unfold inD at q
  split at q
  · obtain ⟨⟨h1, h2⟩, rfl⟩ := if_some q
    exact ⟨d, _, (dp_mono hid_sub dx).dp, (dp_mono hid_sub dy).dp, h1, h2, k _ H (Same.refl H) (.bl _)⟩
  · cases q
theorem opd_nin : OpD X (rNotInD X.K) ninD := by
  intro ph am H x y d e c Q hn dx dy q k
  unfold ninD at q
  split at q
  · obtain ⟨⟨h1, h2⟩, rfl⟩ := if_some q
    exact ⟨d, _, (dp_mono hid_sub dx).dp, (dp_mono hid_sub dy).dp, h1, h2, k _ H (Same.refl H) (.bl _)⟩
  · cases q
theorem dt_in (hu : X.A.units + 65 < cLine) (ha : DE X W e1 f) (hb : DE X W e2 g) (hm : behindInMarks .In e2 = false := by rfl) : DT X W (.Compare e1 [.In] [e2] pos) (xBool (xBin inD f g)) := dt_cmp opd_in (op_inD hu) hm ha hb
theorem dt_notin (hu : X.A.units + 65 < cLine) (ha : DE X W e1 f) (hb : DE X W e2 g) (hm : behindInMarks .NotIn e2 = false := by rfl) : DT X W (.Compare e1 [.NotIn] [e2] pos) (xBool (xBin ninD f g)) := dt_cmp opd_nin (op_notInD hu) hm ha hb

/-! ### keys -/
def keyOf : PyData → Option Key
  | .int i => some (.inl i)
  | .str s => some (.inr s)
  | _ => none
theorem keyOf_eq {H : Hp} {k : Key} (h : Dq K H v d) (e : keyOf d = some k) : v = kV k := by
  cases h <;> cases e <;> rfl
def keysL : List PyData → Option (List Key)
  | [] => some []
  | d :: ds => match keyOf d, keysL ds with
    | some k, some ks => some (k :: ks)
    | _, _ => none
theorem keysL_eq {H : Hp} : ∀ {vs : List V} {ds : List PyData} {ks : List Key}, DqAll K H vs ds → keysL ds = some ks → vs = ks.map kV
  | _, _, _, .nil, e => by cases e; rfl
  | _, _, _, .cons h t, e => by
    unfold keysL at e
    split at e
    · rename_i k ks e1 e2
      cases e
      rw [List.map_cons, keyOf_eq h e1, keysL_eq t e2]
    · cases e
def keysOf : PyData → Option (List Key)
  | .tuple ds => keysL ds
  | _ => none
theorem keysOf_eq {ks : List Key} (h : Dq K (hid ph am H) v d) (e : keysOf d = some ks) : ∃ b, v = .ref b ∧ H b = some (.tup (ks.map kV)) := by
  cases h with
  | tup h1 a1 => exact ⟨_, rfl, by rw [← keysL_eq a1 e]; exact hid_sub _ _ h1⟩
  | _ => cases e

/-! ### what a dict holds -/
section
variable {κ : Type} [DecidableEq κ]
def getA (kvs : List (κ × PyData)) (k : κ) : Option PyData := (kvs.find? fun kv => decide (kv.1 = k)).map (·.2)
def putA (kvs : List (κ × PyData)) (k : κ) (d : PyData) : List (κ × PyData) :=
  if (kvs.any fun kv => decide (kv.1 = k)) then kvs.map fun kv => if kv.1 = k then (kv.1, d) else kv else kvs ++ [(k, d)]
def KR (K : PySem.W.Frag) (H : Hp) (vs : List (κ × V)) (kvs : List (κ × PyData)) : Prop := vs.map (·.1) = kvs.map (·.1) ∧ DqAll K H (vs.map (·.2)) (kvs.map (·.2))
theorem KR.cons_inv {H : Hp} {q : κ × PyData} {kvs : List (κ × PyData)} {vs : List (κ × V)} (h : KR K H vs (q :: kvs)) : ∃ w us, vs = (q.1, w) :: us ∧ Dq K H w q.2 ∧ KR K H us kvs := by
  obtain ⟨h1, h2⟩ := h
  cases vs with
  | nil => cases h1
  | cons u us =>
    rw [List.map_cons, List.map_cons] at h1 h2
    cases h2 with
    | cons g1 g2 =>
      obtain ⟨e1, e2⟩ := List.cons.inj h1
      exact ⟨u.2, us, by rw [← e1], g1, e2, g2⟩
theorem KR.nil_inv {H : Hp} {vs : List (κ × V)} (h : KR K H vs []) : vs = [] := by
  have := h.1
  simpa using this
theorem KR.cons {H : Hp} {k : κ} {w : V} {d : PyData} {kvs : List (κ × PyData)} {vs : List (κ × V)} (g : Dq K H w d) (h : KR K H vs kvs) : KR K H ((k, w) :: vs) ((k, d) :: kvs) :=
  ⟨by rw [List.map_cons, List.map_cons, h.1], .cons g h.2⟩
theorem KR.any {H : Hp} {kvs : List (κ × PyData)} {vs : List (κ × V)} (h : KR K H vs kvs) (k : κ) : (vs.any fun kv => decide (kv.1 = k)) = kvs.any fun kv => decide (kv.1 = k) := by
  have e1 : (vs.any fun kv => decide (kv.1 = k)) = (vs.map (·.1)).any fun x => decide (x = k) := by rw [List.any_map]; rfl
  have e2 : (kvs.any fun kv => decide (kv.1 = k)) = (kvs.map (·.1)).any fun x => decide (x = k) := by rw [List.any_map]; rfl
  rw [e1, e2, h.1]
theorem KR.get {H : Hp} : ∀ {kvs : List (κ × PyData)} {vs : List (κ × V)} (k : κ), KR K H vs kvs → (getA kvs k = none ∧ valV vs k = none) ∨ ∃ w d, getA kvs k = some d ∧ valV vs k = some w ∧ Dq K H w d
  | [], vs, k, h => by
    cases h.nil_inv
    exact .inl ⟨rfl, rfl⟩
  | q :: kvs, vs, k, h => by
    obtain ⟨w, us, rfl, g1, g2⟩ := h.cons_inv
    by_cases e : q.1 = k
    · refine .inr ⟨w, q.2, ?_, ?_, g1⟩
      · simp [getA, List.find?_cons, e]
      · rw [valV_pos (p := (q.1, w)) e]
    · rcases KR.get k g2 with ⟨a1, a2⟩ | ⟨w', d', a1, a2, a3⟩
      · refine .inl ⟨?_, ?_⟩
        · simpa [getA, List.find?_cons, e] using a1
        · rw [valV_neg (p := (q.1, w)) e]; exact a2
      · refine .inr ⟨w', d', ?_, ?_, a3⟩
        · simpa [getA, List.find?_cons, e] using a1
        · rw [valV_neg (p := (q.1, w)) e]; exact a2
theorem KR.repl {H : Hp} {w : V} {d : PyData} (g : Dq K H w d) (k : κ) : ∀ {kvs : List (κ × PyData)} {vs : List (κ × V)}, KR K H vs kvs →
    KR K H (vs.map fun kv => if kv.1 = k then (kv.1, w) else kv) (kvs.map fun kv => if kv.1 = k then (kv.1, d) else kv)
  | [], vs, h => by
    cases h.nil_inv
    exact h
  | q :: kvs, vs, h => by
    obtain ⟨w', us, rfl, g1, g2⟩ := h.cons_inv
    rw [List.map_cons, List.map_cons]
    by_cases e : q.1 = k
    · rw [if_pos e, if_pos e]
      exact .cons g (KR.repl g k g2)
    · rw [if_neg e, if_neg e]
      exact .cons g1 (KR.repl g k g2)
theorem KR.snoc {H : Hp} {w : V} {d : PyData} (g : Dq K H w d) (k : κ) {kvs : List (κ × PyData)} {vs : List (κ × V)} (h : KR K H vs kvs) : KR K H (vs ++ [(k, w)]) (kvs ++ [(k, d)]) :=
  ⟨by rw [List.map_append, List.map_append, h.1]; rfl, by rw [List.map_append, List.map_append]; exact h.2.append (.cons g .nil)⟩
theorem KR.put {H : Hp} {w : V} {d : PyData} (g : Dq K H w d) (k : κ) {kvs : List (κ × PyData)} {vs : List (κ × V)} (h : KR K H vs kvs) : KR K H (putK vs k w) (putA kvs k d) := by
  unfold putK putA
  rw [h.any k]
  split
  · exact h.repl g k
  · exact h.snoc g k
theorem KR.len {H : Hp} {kvs : List (κ × PyData)} {vs : List (κ × V)} (h : KR K H vs kvs) : vs.length = kvs.length := by
  have := congrArg List.length h.1
  simpa using this
end
end PD
end

section
set_option Elab.async false
set_option linter.all false
set_option maxRecDepth 100000
set_option maxHeartbeats 1000000
namespace PD
open PySem PySem.Spec PyProof.Rows L2
variable {X : Cx} {W : WX} {pos : Pos} {e e1 e2 e3 : Expr} {es : List Expr} {f g h : M PyData} {fs : M (List PyData)} {fb gb : M Bool}
variable {K : PySem.W.Frag} {ph : Fx} {am am' am1 : Am} {H H' H1 : Hp} {σ σ' : L2.St} {δ δ' δ1 : Sg} {a p p1 p2 : Addr} {v : V} {vs : List V} {d : PyData} {ds : List PyData} {i : Nat} {u : HO} {o : DiO}

/-! ### a dict of one's own: made, changed -/
theorem step_putU (n : H p = none) : Step am H (amPut am i p) (upd H p u) :=
  ⟨fun b o h _ => same_new n b o h, fun j a h => by
    by_cases hj : j = i
    · subst hj
      rw [amPut_same] at h
      cases h
      exact .inr n
    · rw [amPut_ne hj] at h
      exact .inl ⟨j, h⟩, fun b o h => ⟨o, same_new n b o h⟩⟩
theorem step_mutU (h : am i = some a) {u' : HO} (e : H a = some u') : Step am H am (upd H a u) :=
  ⟨fun b o q n => by rw [upd_ne (fun z => n i (by rw [z]; exact h))]; exact q, fun j b q => .inl ⟨j, q⟩, fun b o q => by
    by_cases z : b = a
    · subst z
      exact ⟨_, upd_same⟩
    · exact ⟨o, by rw [upd_ne z]; exact q⟩⟩
theorem SR.putDi (s : SR K ph am σ H δ) {c : Cell} (e : δ[i]? = some c) (hc : c.free = true) (n : H p = none) (dv : DOR K (hid ph am H) u o) :
    SR K ph (amPut am i p) (σ.set i (some (.ref p))) (upd H p u) (δ.set i (.od o)) := by
  have st : Step am H (amPut am i p) (upd H p u) := step_putU n
  have hi : i < δ.length := (List.getElem?_eq_some_iff.mp e).1
  have hσ : i < σ.length := by rw [s.len]; exact hi
  have np : ¬ Hid ph am p := s.new n
  refine ⟨by rw [List.length_set, List.length_set, s.len], fun j d' q => ?_, fun j b' ds' q => ?_, fun j a' q => ?_, fun j k a' q1 q2 => ?_, fun b hb => ?_, fun j a' q => ?_, fun j o' q => ?_⟩
  · by_cases hj : j = i
    · subst hj
      rw [List.getElem?_set_self hi] at q
      cases q
    · rw [List.getElem?_set_ne (Ne.symm hj)] at q
      obtain ⟨v', h1, h2⟩ := s.fz j d' q
      exact ⟨v', by rw [List.getElem?_set_ne (Ne.symm hj)]; exact h1, dp_mono st.hid h2⟩
  · by_cases hj : j = i
    · subst hj
      rw [List.getElem?_set_self hi] at q
      cases q
    · rw [List.getElem?_set_ne (Ne.symm hj)] at q
      obtain ⟨a2, vs2, h1, h2, h3, h4, h5, h6⟩ := s.ow j b' ds' q
      exact ⟨a2, vs2, by rw [amPut_ne hj]; exact h1, by rw [List.getElem?_set_ne (Ne.symm hj)]; exact h2, same_new n _ _ h3, dps_mono st.hid h4, h5, h6⟩
  · by_cases hj : j = i
    · subst hj
      rw [amPut_same] at q
      cases q
      exact ⟨fun z => np (.inl z), .od o, List.getElem?_set_self hi, trivial⟩
    · rw [amPut_ne hj] at q
      obtain ⟨h1, c', h2, h3⟩ := s.amf j a' q
      exact ⟨h1, c', by rw [List.getElem?_set_ne (Ne.symm hj)]; exact h2, h3⟩
  · by_cases hj : j = i
    · by_cases hk : k = i
      · rw [hj, hk]
      · rw [hj, amPut_same] at q1
        cases q1
        rw [amPut_ne hk] at q2
        exact (np (.inr ⟨k, q2⟩)).elim
    · by_cases hk : k = i
      · rw [hk, amPut_same] at q2
        cases q2
        rw [amPut_ne hj] at q1
        exact (np (.inr ⟨j, q1⟩)).elim
      · rw [amPut_ne hj] at q1
        rw [amPut_ne hk] at q2
        exact s.inj j k a' q1 q2
  · obtain ⟨o', h1, m⟩ := s.phs b hb
    exact ⟨o', same_new n _ _ h1, m⟩
  · have hj : j ≠ i := fun z => by
      subst z
      rw [s.nba e hc] at q
      cases q
    rw [amPut_ne hj]
    exact s.bas j a' q
  · by_cases hj : j = i
    · subst hj
      rw [List.getElem?_set_self hi] at q
      cases q
      exact ⟨p, u, amPut_same, List.getElem?_set_self hσ, upd_same, dor_mono st.hid dv, s.nba e hc⟩
    · rw [List.getElem?_set_ne (Ne.symm hj)] at q
      obtain ⟨a2, u2, h1, h2, h3, h4, h5⟩ := s.od j o' q
      exact ⟨a2, u2, by rw [amPut_ne hj]; exact h1, by rw [List.getElem?_set_ne (Ne.symm hj)]; exact h2, same_new n _ _ h3, dor_mono st.hid h4, h5⟩
theorem SR.mutDi (s : SR K ph am σ H δ) (e : δ[i]? = some (.od o)) (h : am i = some a) {o' : DiO} (dv : DOR K (hid ph am H) u o') : SR K ph am σ (upd H a u) (δ.set i (.od o')) := by
  have hi : i < δ.length := (List.getElem?_eq_some_iff.mp e).1
  obtain ⟨a0, u0, e1, e2, e3, e4, e5⟩ := s.od i o e
  rw [h] at e1
  cases e1
  have hh : ∀ o, hid ph am (upd H a o) = hid ph am H := fun o => hid_own h
  refine ⟨by rw [List.length_set, s.len], fun j d' q => ?_, fun j b' ds2 q => ?_, fun j a' q => ?_, s.inj, fun c hc => ?_, s.bas, fun j o2 q => ?_⟩
  · have hj : j ≠ i := fun z => by
      subst z
      rw [List.getElem?_set_self hi] at q
      cases q
    rw [List.getElem?_set_ne (Ne.symm hj)] at q
    rw [hh]
    exact s.fz j d' q
  · by_cases hj : j = i
    · subst hj
      rw [List.getElem?_set_self hi] at q
      cases q
    · rw [List.getElem?_set_ne (Ne.symm hj)] at q
      obtain ⟨a2, vs2, h1, h2, h3, h4, h5, h6⟩ := s.ow j b' ds2 q
      have na : a2 ≠ a := fun z => hj (s.inj j i a (by rw [← z]; exact h1) h)
      exact ⟨a2, vs2, h1, h2, by rw [upd_ne na]; exact h3, by rw [hh]; exact h4, h5, h6⟩
  · obtain ⟨h1, c2, h2, h3⟩ := s.amf j a' q
    by_cases hj : j = i
    · exact ⟨h1, .od o', by rw [hj]; exact List.getElem?_set_self hi, trivial⟩
    · exact ⟨h1, c2, by rw [List.getElem?_set_ne (Ne.symm hj)]; exact h2, h3⟩
  · obtain ⟨o1, h1, m⟩ := s.phs c hc
    have na : c ≠ a := fun z => (s.amf i a h).1 (by rw [← z]; exact hc)
    exact ⟨o1, by rw [upd_ne na]; exact h1, m⟩
  · by_cases hj : j = i
    · subst hj
      rw [List.getElem?_set_self hi] at q
      cases q
      exact ⟨a, u, h, e2, upd_same, by rw [hh]; exact dv, e5⟩
    · rw [List.getElem?_set_ne (Ne.symm hj)] at q
      obtain ⟨a2, u2, h1, h2, h3, h4, h5⟩ := s.od j o2 q
      have na : a2 ≠ a := fun z => hj (s.inj j i a (by rw [← z]; exact h1) h)
      exact ⟨a2, u2, h1, h2, by rw [upd_ne na]; exact h3, by rw [hh]; exact h4, h5⟩

/-! ### x = {} -/
def sDNew (o : DiO) (i : Nat) : MS := fun δ => match δ[i]? with
  | some c => if c.free = true then some (.ok .nx, δ.set i (.od o)) else none
  | none => none
theorem dnew_read {t : TE} {u0 : HO} (ht : t = fun _ H Q => ∀ p, H p = none → Q (.ref p) (upd H p u0)) (hu : ∀ H, DOR X.K H u0 o) : ReadS X W (tAsg t (gName i)) (sDNew o i) := by
  subst ht
  intro ph am σ H δ D ans δ' sr z k kx
  unfold sDNew at z
  intro p n
  split at z
  · rename_i c e3
    obtain ⟨h1, e4⟩ := if_some z
    cases e4
    exact k _ rfl (amPut am i p) _ _ (step_putU n) (sr.putDi e3 h1 n (hu _))
  · cases z
theorem ds_dnewT {x : Str} {pos' pd : Pos} (hN : X.N.Nodup) (hi : X.N[i]? = some x := by rfl) (hx : Loc X.env.scope x := by first | exact Or.inl rfl | exact Or.inr rfl) (hs : swapsWith (.Dict [] [] pd) (some (.Name x pos')) pos.line X.env = pure false := by rfl)
    (hf : X.fn x = true ∨ X.env.scope.names.lookup x = some .local := by first | exact .inl rfl | exact .inr rfl) : DS X W (.Assign [.Name x pos'] (.Dict [] [] pd) pos) (sDNew (.t []) i) :=
  ⟨⟨_, ps_set hN hi hx pe_dnewT hs hf, dnew_read rfl fun _ => ⟨rfl, .nil⟩⟩⟩
theorem ds_dnewK {x : Str} {pos' pd : Pos} (hN : X.N.Nodup) (hi : X.N[i]? = some x := by rfl) (hx : Loc X.env.scope x := by first | exact Or.inl rfl | exact Or.inr rfl) (hs : swapsWith (.Dict [] [] pd) (some (.Name x pos')) pos.line X.env = pure false := by rfl)
    (hf : X.fn x = true ∨ X.env.scope.names.lookup x = some .local := by first | exact .inl rfl | exact .inr rfl) : DS X W (.Assign [.Name x pos'] (.Dict [] [] pd) pos) (sDNew (.k []) i) :=
  ⟨⟨_, ps_set hN hi hx pe_dnewK hs hf, dnew_read rfl fun _ => ⟨rfl, .nil⟩⟩⟩

/-! ### looking up -/
def lookDi (o : DiO) (k : PyData) : Option (Option PyData) := match o with
  | .k kvs => (keyOf k).map (getA kvs)
  | .t kvs => (keysOf k).map (getA kvs)
def putDi (o : DiO) (k d : PyData) : Option DiO := match o with
  | .k kvs => if kvs.length < sizeLine then (keyOf k).map fun q => .k (putA kvs q d) else none
  | .t kvs => if kvs.length < sizeLine then (keysOf k).map fun q => .t (putA kvs q d) else none
theorem look_dget {k : PyData} {y : V} {r : Option PyData} (hu : H a = some u) (h : DOR K (hid ph am H) u o) (hk : Dq K (hid ph am H) y k) (e : lookDi o k = some r) :
    (r = none ∧ DGet H a y none) ∨ ∃ w d, r = some d ∧ DGet H a y (some w) ∧ Dq K (hid ph am H) w d := by
  cases o with
  | k kvs =>
    cases u with
    | dK us =>
      obtain ⟨q, e1, e2⟩ := Option.map_eq_some_iff.mp e
      have ey := keyOf_eq hk e1
      subst ey
      have g := DGet.k (k := q) hu
      rcases KR.get q (show KR K _ us kvs from h) with ⟨a1, a2⟩ | ⟨w, d, a1, a2, a3⟩
      · rw [a1] at e2
        rw [a2] at g
        exact .inl ⟨e2.symm, g⟩
      · rw [a1] at e2
        rw [a2] at g
        exact .inr ⟨w, d, e2.symm, g, a3⟩
    | _ => exact h.elim
  | t kvs =>
    cases u with
    | dT us =>
      obtain ⟨q, e1, e2⟩ := Option.map_eq_some_iff.mp e
      obtain ⟨b, ey, eb⟩ := keysOf_eq hk e1
      subst ey
      have g := DGet.t (k := q) hu eb
      rcases KR.get q (show KR K _ us kvs from h) with ⟨a1, a2⟩ | ⟨w, d, a1, a2, a3⟩
      · rw [a1] at e2
        rw [a2] at g
        exact .inl ⟨e2.symm, g⟩
      · rw [a1] at e2
        rw [a2] at g
        exact .inr ⟨w, d, e2.symm, g, a3⟩
    | _ => exact h.elim
theorem put_dput {k d : PyData} {y w : V} {o' : DiO} (hu : H a = some u) (h : DOR K (hid ph am H) u o) (hk : Dq K (hid ph am H) y k) (hd : Dq K (hid ph am H) w d) (e : putDi o k d = some o') :
    ∃ u', DPut H a y w (upd H a u') ∧ DOR K (hid ph am H) u' o' := by
  cases o with
  | k kvs =>
    cases u with
    | dK us =>
      unfold putDi at e
      simp only at e
      by_cases hz : kvs.length < sizeLine
      case neg => rw [if_neg hz] at e; cases e
      rw [if_pos hz] at e
      obtain ⟨q, e1, e2⟩ := Option.map_eq_some_iff.mp e
      have ey := keyOf_eq hk e1
      subst ey
      subst e2
      have r : KR K _ us kvs := h
      exact ⟨_, DPut.k (k := q) hu (by rw [r.len]; exact hz), r.put hd q⟩
    | _ => exact h.elim
  | t kvs =>
    cases u with
    | dT us =>
      unfold putDi at e
      simp only at e
      by_cases hz : kvs.length < sizeLine
      case neg => rw [if_neg hz] at e; cases e
      rw [if_pos hz] at e
      obtain ⟨q, e1, e2⟩ := Option.map_eq_some_iff.mp e
      obtain ⟨b, ey, eb⟩ := keysOf_eq hk e1
      subst ey
      subst e2
      have r : KR K _ us kvs := h
      exact ⟨_, DPut.t (k := q) hu eb (by rw [r.len]; exact hz), r.put hd q⟩
    | _ => exact h.elim

/-! ### x[k] = e -/
def sDPut (f : M PyData) (i : Nat) (g : M PyData) : MS := bnd f fun d => fun δ1 => match δ1[i]? with
  | some (.od _) => (bnd g fun k => fun δ2 => match δ2[i]? with
    | some (.od o) => match putDi o k d with
      | some o' => some (.ok .nx, δ2.set i (.od o'))
      | none => none
    | _ => none) δ1
  | _ => none
theorem ds_dput {x : Str} {pn ps' : Pos} (hu : X.A.units + 1 < cLine) (he : DE X W e f) (hk : DE X W e2 g) (hN : X.N[i]? = some x := by rfl) (hv : Vis X.env.scope x := by first | exact Or.inl rfl | exact Or.inr (Or.inl rfl) | exact Or.inr (Or.inr rfl)) (hd : (x == ("__debug__" : Str)) = false := by decide) (hcd : (x == ("__classdict__" : Str)) = false := by decide)
    (hs : swapsWith e (some (.Subscript (.Name x pn) e2 ps')) pos.line X.env = pure false := by rfl) : DS X W (.Assign [.Subscript (.Name x pn) e2 ps'] e pos) (sDPut f i g) := by
  obtain ⟨t, pt, q1⟩ := he.ex
  obtain ⟨t2, p2, q2⟩ := hk.ex
  refine ⟨⟨_, L2.ps_dput hu (pe_var hN hv hd hcd) p2 pt hs, fun ph am σ H δ D ans δ' sr z k kx => ?_⟩⟩
  rcases bnd_some z with ⟨dd, δ1, e1, e2⟩ | ⟨c, fs, e1, e2⟩
  · refine q1 ph am σ H δ _ _ _ sr e1 (fun d' ed am1 w H1 st1 s1 d1 => ?_) (fun c fs z => by cases z)
    cases ed
    split at e2
    · rename_i o0 e3
      obtain ⟨a0, u0, o1, o2, o3, o4, o5⟩ := s1.od i o0 e3
      refine ⟨.ref a0, o2, ?_⟩
      rcases bnd_some e2 with ⟨n, δ2, e4, e5⟩ | ⟨c, fs, e4, e5⟩
      · refine q2 ph am1 σ H1 δ1 _ _ _ s1 e4 (fun d' ed am2 y H2 st2 s2 d2 => ?_) (fun c fs z => by cases z)
        cases ed
        split at e5
        · rename_i o e6
          split at e5
          · rename_i o' e7
            cases e5
            obtain ⟨a1, u1, r1, r2, r3, r4, r5⟩ := s2.od i o e6
            rw [o2] at r2
            cases r2
            obtain ⟨u', g1, g2⟩ := put_dput r3 r4 d2 (dp_mono st2.hid d1) e7
            exact ⟨a0, _, rfl, g1, k _ rfl am2 σ _ ((st1.trans st2).trans (step_mutU r1 r3)) (s2.mutDi e6 r1 g2)⟩
          · cases e5
        · cases e5
      · subst e5
        exact q2 ph am1 σ H1 δ1 _ _ _ s1 e4 (fun d ed => by cases ed) (fun c' fs' z => by cases z; exact ((kx _ _ rfl).step st1).at)
    · cases e2
  · subst e2
    exact q1 ph am σ H δ _ _ _ sr e1 (fun d ed => by cases ed) (fun c' fs' z => by cases z; exact (kx _ _ rfl).at)

/-! ### k in x, k not in x -/
def xDIn (neg : Bool) (g : M PyData) (i : Nat) : M Bool := bnd g fun k => fun δ1 => match δ1[i]? with
  | some (.od o) => match lookDi o k with
    | some r => some (.ok (r.isSome != neg), δ1)
    | none => none
  | _ => none
theorem dt_din {x : Str} {pn : Pos} (hu : X.A.units + 1 < cLine) (hk : DE X W e g) (hN : X.N[i]? = some x := by rfl) (hv : Vis X.env.scope x := by first | exact Or.inl rfl | exact Or.inr (Or.inl rfl) | exact Or.inr (Or.inr rfl)) (hd : (x == ("__debug__" : Str)) = false := by decide) (hcd : (x == ("__classdict__" : Str)) = false := by decide)
    (hm : behindInMarks .In (.Name x pn) = false := by rfl) : DT X W (.Compare e [.In] [.Name x pn] pos) (xDIn false g i) := by
  obtain ⟨t2, p2, q2⟩ := hk.ex
  refine ⟨⟨_, pt_cmp (pc_din hu p2 (pe_var hN hv hd hcd)) hm, fun ph am σ H δ Q ans δ' s z k kx => ?_⟩⟩
  rcases bnd_some z with ⟨n, δ1, e1, e2⟩ | ⟨c, fs, e1, e2⟩
  · refine q2 ph am σ H δ _ _ _ s e1 (fun d' ed am1 y H1 st1 s1 d1 => ?_) (fun c fs z => by cases z)
    cases ed
    split at e2
    · rename_i o e3
      obtain ⟨a0, u0, o1, o2, o3, o4, o5⟩ := s1.od i o e3
      refine ⟨.ref a0, o2, ?_⟩
      split at e2
      · rename_i r e4
        cases e2
        rcases look_dget o3 o4 d1 e4 with ⟨rfl, g1⟩ | ⟨w, d, rfl, g1, _⟩
        · exact ⟨a0, _, rfl, g1, _, rfl, k _ rfl am1 H1 st1 s1⟩
        · exact ⟨a0, _, rfl, g1, _, rfl, k _ rfl am1 H1 st1 s1⟩
      · cases e2
    · cases e2
  · subst e2
    exact q2 ph am σ H δ _ _ _ s e1 (fun d ed => by cases ed) (fun c' fs' z => by cases z; exact kx _ _ rfl)
theorem dt_dnotin {x : Str} {pn : Pos} (hu : X.A.units + 1 < cLine) (hk : DE X W e g) (hN : X.N[i]? = some x := by rfl) (hv : Vis X.env.scope x := by first | exact Or.inl rfl | exact Or.inr (Or.inl rfl) | exact Or.inr (Or.inr rfl)) (hd : (x == ("__debug__" : Str)) = false := by decide) (hcd : (x == ("__classdict__" : Str)) = false := by decide)
    (hm : behindInMarks .NotIn (.Name x pn) = false := by rfl) : DT X W (.Compare e [.NotIn] [.Name x pn] pos) (xDIn true g i) := by
  obtain ⟨t2, p2, q2⟩ := hk.ex
  refine ⟨⟨_, pt_cmp (pc_dnotin hu p2 (pe_var hN hv hd hcd)) hm, fun ph am σ H δ Q ans δ' s z k kx => ?_⟩⟩
  rcases bnd_some z with ⟨n, δ1, e1, e2⟩ | ⟨c, fs, e1, e2⟩
  · refine q2 ph am σ H δ _ _ _ s e1 (fun d' ed am1 y H1 st1 s1 d1 => ?_) (fun c fs z => by cases z)
    cases ed
    split at e2
    · rename_i o e3
      obtain ⟨a0, u0, o1, o2, o3, o4, o5⟩ := s1.od i o e3
      refine ⟨.ref a0, o2, ?_⟩
      split at e2
      · rename_i r e4
        cases e2
        rcases look_dget o3 o4 d1 e4 with ⟨rfl, g1⟩ | ⟨w, d, rfl, g1, _⟩
        · exact ⟨a0, _, rfl, g1, _, rfl, k _ rfl am1 H1 st1 s1⟩
        · exact ⟨a0, _, rfl, g1, _, rfl, k _ rfl am1 H1 st1 s1⟩
      · cases e2
    · cases e2
  · subst e2
    exact q2 ph am σ H δ _ _ _ s e1 (fun d ed => by cases ed) (fun c' fs' z => by cases z; exact kx _ _ rfl)

/-! ### x[k] -/
def xDGet (i : Nat) (g : M PyData) : M PyData := fun δ => match δ[i]? with
  | some (.od _) => (bnd g fun k => fun δ1 => match δ1[i]? with
    | some (.od o) => match lookDi o k with
      | some (some d) => some (.ok d, δ1)
      | _ => none
    | _ => none) δ
  | _ => none
theorem de_dget {x : Str} {pn : Pos} (hu : X.A.units + 1 < cLine) (hs : NoSl e2) (hk : DE X W e2 g) (hN : X.N[i]? = some x := by rfl) (hv : Vis X.env.scope x := by first | exact Or.inl rfl | exact Or.inr (Or.inl rfl) | exact Or.inr (Or.inr rfl)) (hd : (x == ("__debug__" : Str)) = false := by decide) (hcd : (x == ("__classdict__" : Str)) = false := by decide) :
    DE X W (.Subscript (.Name x pn) e2 pos) (xDGet i g) := by
  obtain ⟨t2, p2, q2⟩ := hk.ex
  refine ⟨⟨_, L2.pe_dget hu (pe_var hN hv hd hcd) p2 hs, fun ph am σ H δ Q ans δ' s z k kx => ?_⟩⟩
  unfold xDGet at z
  split at z
  · rename_i o0 e3
    obtain ⟨a0, u0, o1, o2, o3, o4, o5⟩ := s.od i o0 e3
    refine ⟨.ref a0, o2, ?_⟩
    rcases bnd_some z with ⟨n, δ1, e4, e5⟩ | ⟨c, fs, e4, e5⟩
    · refine q2 ph am σ H δ _ _ _ s e4 (fun d' ed am1 y H1 st1 s1 d1 => ?_) (fun c fs z => by cases z)
      cases ed
      split at e5
      · rename_i o e6
        obtain ⟨a1, u1, r1, r2, r3, r4, r5⟩ := s1.od i o e6
        rw [o2] at r2
        cases r2
        split at e5
        · rename_i d' e7
          cases e5
          rcases look_dget r3 r4 d1 e7 with ⟨e8, _⟩ | ⟨w, d2, e8, g1, g2⟩
          · cases e8
          · cases e8
            exact ⟨a0, w, rfl, g1, k _ rfl am1 w H1 st1 s1 g2⟩
        · cases e5
      · cases e5
    · subst e5
      exact q2 ph am σ H δ _ _ _ s e4 (fun d ed => by cases ed) (fun c' fs' z => by cases z; exact kx _ _ rfl)
  · cases z
end PD
end

section
set_option Elab.async false
set_option linter.all false
set_option maxRecDepth 100000
set_option maxHeartbeats 1000000
namespace PD
open PySem PySem.Spec PyProof.Rows L2
variable {X : Cx} {W : WX} {pos : Pos} {e e1 e2 e3 : Expr} {es : List Expr} {f g h : M PyData} {fs : M (List PyData)} {fb gb : M Bool}
variable {K : PySem.W.Frag} {ph : Fx} {am am' am1 : Am} {H H' H1 : Hp} {σ σ' : L2.St} {δ δ' δ1 : Sg} {a p p1 p2 : Addr} {v : V} {vs : List V} {d : PyData} {ds : List PyData} {i : Nat}

/-! ### a sort that the kernel can run -/
section
variable {α : Type}
def insBy (le : α → α → Bool) (x : α) : List α → List α
  | [] => [x]
  | y :: ys => cond (le x y) (x :: y :: ys) (y :: insBy le x ys)
def sortBy (le : α → α → Bool) : List α → List α
  | [] => []
  | x :: xs => insBy le x (sortBy le xs)
variable {le : α → α → Bool}
theorem insBy_mem {x y : α} : ∀ {l : List α}, y ∈ insBy le x l ↔ y = x ∨ y ∈ l
  | [] => by simp [insBy]
  | z :: l => by
    unfold insBy
    cases le x z with
    | true => simp
    | false =>
      simp only [cond_false, List.mem_cons, insBy_mem (l := l)]
      constructor
      · rintro (h | h | h)
        · exact .inr (.inl h)
        · exact .inl h
        · exact .inr (.inr h)
      · rintro (h | h | h)
        · exact .inr (.inl h)
        · exact .inl h
        · exact .inr (.inr h)
theorem insBy_sorted (h : PySem.W.TotalLe le) {x : α} : ∀ {l : List α}, l.Pairwise (fun a b => le a b = true) → (insBy le x l).Pairwise (fun a b => le a b = true)
  | [], _ => by simp [insBy]
  | y :: l, hs => by
    obtain ⟨h1, h2⟩ := List.pairwise_cons.mp hs
    unfold insBy
    cases e : le x y with
    | true =>
      refine List.pairwise_cons.mpr ⟨fun z hz => ?_, hs⟩
      rcases List.mem_cons.mp hz with rfl | hz
      · exact e
      · exact h.trans _ _ _ e (h1 z hz)
    | false =>
      refine List.pairwise_cons.mpr ⟨fun z hz => ?_, insBy_sorted h h2⟩
      rcases insBy_mem.mp hz with rfl | hz
      · rcases h.total z y with q | q
        · rw [e] at q; cases q
        · exact q
      · exact h1 z hz
theorem sortBy_sorted (h : PySem.W.TotalLe le) : ∀ l : List α, (sortBy le l).Pairwise (fun a b => le a b = true)
  | [] => .nil
  | x :: l => insBy_sorted h (sortBy_sorted h l)
theorem insBy_filter (h : PySem.W.TotalLe le) (c x : α) : ∀ l : List α, (insBy le x l).filter (PySem.W.sameRank le c) = (x :: l).filter (PySem.W.sameRank le c)
  | [] => rfl
  | y :: l => by
    unfold insBy
    cases e : le x y with
    | true => rfl
    | false =>
      show (y :: insBy le x l).filter _ = _
      have ih := insBy_filter h c x l
      cases ey : PySem.W.sameRank le c y with
      | false =>
        rw [List.filter_cons_of_neg (by rw [ey]; exact Bool.false_ne_true), ih, List.filter_cons, List.filter_cons, List.filter_cons_of_neg (by rw [ey]; exact Bool.false_ne_true)]
      | true =>
        have ex : PySem.W.sameRank le c x = false := by
          cases ex : PySem.W.sameRank le c x with
          | false => rfl
          | true =>
            unfold PySem.W.sameRank at ex ey
            rw [Bool.and_eq_true] at ex ey
            rw [h.trans _ _ _ ex.2 ey.1] at e
            cases e
        rw [List.filter_cons_of_pos ey, ih, List.filter_cons_of_neg (by rw [ex]; exact Bool.false_ne_true), List.filter_cons_of_neg (by rw [ex]; exact Bool.false_ne_true), List.filter_cons_of_pos ey]
theorem sortBy_filter (h : PySem.W.TotalLe le) (c : α) : ∀ l : List α, (sortBy le l).filter (PySem.W.sameRank le c) = l.filter (PySem.W.sameRank le c)
  | [] => rfl
  | x :: l => by
    rw [sortBy, insBy_filter h, List.filter_cons, List.filter_cons, sortBy_filter h c l]
theorem sortBy_eq (h : PySem.W.TotalLe le) (l : List α) : sortBy le l = l.mergeSort le := PySem.W.sort_unique h (sortBy_sorted h l) (fun c => sortBy_filter h c l)
end
def sortD (ds : List PyData) : List PyData := sortBy (PySem.W.dataLe false fun d => d) ds
theorem sortD_eq (ds : List PyData) : sortD ds = ds.mergeSort (PySem.W.dataLe false fun d => d) := sortBy_eq (PySem.W.sortLe_total _ _ _) ds
example : PyData.eqv (.list (sortD [.tuple [.int 3, .int 1], .tuple [.int 1, .int 2], .tuple [.int 1]])) (.list [.tuple [.int 1], .tuple [.int 1, .int 2], .tuple [.int 3, .int 1]]) = true := by decide +kernel

/-! ### sorted(xs), xs a list -/
def isRow : PyData → Bool
  | .tuple (_ :: _) => true
  | _ => false
def isRest : PyData → Bool
  | .none => false
  | .tuple _ => false
  | _ => true
def okSort (ds : List PyData) : Bool := (ds.all fun d => ds.all fun e => PySem.W.alike d e) && ((ds.all isRow || ds.all isRest) && (ds.all fun d => decide (d.depth ≤ 40) && true))
theorem okSort_is (h : okSort ds = true) : PySem.W.AllAlike ds ∧ PySem.W.Sortable ds ∧ ∀ d, d ∈ ds → d.depth ≤ 40 := by
  unfold okSort at h
  rw [Bool.and_eq_true, Bool.and_eq_true, Bool.or_eq_true] at h
  obtain ⟨h1, h2, h3⟩ := h
  refine ⟨fun d hd e he => List.all_eq_true.mp (List.all_eq_true.mp h1 d hd) e he, ?_, fun d hd => ?_⟩
  · rcases h2 with h2 | h2
    · refine .inl fun d hd => ?_
      have := List.all_eq_true.mp h2 d hd
      unfold isRow at this
      split at this
      · exact ⟨_, _, rfl⟩
      · cases this
    · refine .inr fun d hd => ?_
      have := List.all_eq_true.mp h2 d hd
      refine ⟨fun z => ?_, fun xs z => ?_⟩ <;> subst z <;> cases this
  · have := List.all_eq_true.mp h3 d hd
    simpa using this
def sortV (vs : List V) (ds : List PyData) : List V := ((vs.zip ds).mergeSort (PySem.W.dataLe false Prod.snd)).map (·.1)
theorem zip_snd {α β : Type} : ∀ {l : List α} {m : List β}, l.length = m.length → (l.zip m).map (·.2) = m
  | [], [], _ => rfl
  | a :: l, b :: m, h => by rw [List.zip_cons_cons, List.map_cons, zip_snd (by simpa using h)]
  | [], _ :: _, h => by simp at h
  | _ :: _, [], h => by simp at h
theorem DqAll.zip_mem : ∀ {vs : List V} {ds : List PyData}, DqAll K H vs ds → ∀ q, q ∈ vs.zip ds → Dq K H q.1 q.2
  | _, _, .nil, _, h => by simp at h
  | _, _, .cons g t, q, h => by
    rw [List.zip_cons_cons] at h
    rcases List.mem_cons.mp h with rfl | h
    · exact g
    · exact DqAll.zip_mem t q h
theorem DqAll.of_pairs : ∀ {l : List (V × PyData)}, (∀ q, q ∈ l → Dq K H q.1 q.2) → DqAll K H (l.map (·.1)) (l.map (·.2))
  | [], _ => .nil
  | q :: l, h => .cons (h q (List.mem_cons_self ..)) (DqAll.of_pairs fun r hr => h r (List.mem_cons_of_mem _ hr))
theorem DqAll.sort (h : DqAll K H vs ds) : DqAll K H (sortV vs ds) (sortD ds) := by
  have e : sortD ds = ((vs.zip ds).mergeSort (PySem.W.dataLe false Prod.snd)).map (·.2) := by
    have q := PySem.W.sort_maps (r := PySem.W.dataLe false Prod.snd) (s := PySem.W.dataLe false fun d => d) (Prod.snd : V × PyData → PyData) (l := vs.zip ds) (fun _ _ _ _ => rfl)
    rw [sortD_eq]
    refine Eq.trans ?_ q.symm
    rw [show (vs.zip ds).map Prod.snd = ds from zip_snd h.length]
  rw [e]
  exact DqAll.of_pairs fun q hq => h.zip_mem q (List.mem_mergeSort.mp hq)
theorem sortV_length (h : vs.length = ds.length) : (sortV vs ds).length = ds.length := by
  unfold sortV
  rw [List.length_map, List.length_mergeSort, List.length_zip, h, Nat.min_self]
def rSortDat (K : PySem.W.Frag) : List V → Hp → VK → Prop := fun xs H Q => ∃ a vs ds, xs = [V.ref a] ∧ SqL K H a vs ∧ L2.DpAll K H vs ds ∧ PySem.W.AllAlike ds ∧ PySem.W.Sortable ds ∧ (∀ d, d ∈ ds → d.depth ≤ 40) ∧
  ∀ p, H p = none → Q (.ref p) (upd H p (.lst (sortV vs ds)))
theorem each_zip {h : Heap} {R : Value → V × PyData → Prop} : ∀ {us : List Value} {vs : List V} {ds : List PyData} {as : List Addr}, Vals vs us → ReadsAll h us ds as → (∀ u v d bs, RelV v u → Reads h u d bs → R u (v, d)) → PySem.W.EachIs R us (vs.zip ds)
  | _, _, _, _, .nil, .nil, _ => .nil
  | _, _, _, _, .cons r t, .cons q s, k => .cons (k _ _ _ _ r q) (each_zip t s k)
theorem each_vals {R : Value → V × PyData → Prop} (k : ∀ u q, R u q → RelV q.1 u) : ∀ {us : List Value} {qs : List (V × PyData)}, PySem.W.EachIs R us qs → Vals (qs.map (·.1)) us
  | _, _, .nil => .nil
  | _, _, .cons h t => .cons (k _ _ h) (each_vals k t)
theorem cr_sortDat (hu : X.A.units + 65 < cLine) : CallR X (.builtin "sorted") (rSortDat X.K) := by
  intro pins s σ H vs us Q I r h
  obtain ⟨a, ws, ds, rfl, hs, hd, hal, hk, hdep, q⟩ := h
  obtain ⟨its, rv, hl, hz⟩ := I.list hs
  rw [Vals.ref1 r]
  obtain ⟨as, hr⟩ := Dp.readsAll I ds ws its hd rv
  have hlen : its.length = ds.length := SeqAt.ReadsAll.length ds its as hr
  have hwl : ws.length = its.length := rv.length
  have hz2 : (ws.zip ds).length = ds.length := by rw [List.length_zip, hwl, hlen, Nat.min_self]
  have hm : (ws.zip ds).map (·.2) = ds := zip_snd (by rw [hwl, hlen])
  refine PySem.W.sorted_data (β := V × PyData) (enc := (·.2)) (R := fun u q => RelV q.1 u) hl.isList (each_zip rv hr fun _ _ _ _ h _ => h) (each_zip rv hr fun _ _ _ bs _ h => ⟨bs, h⟩) (by rw [hm]; exact hal) (by rw [hm]; exact hk) (by rw [hz2, ← hlen, ← hwl]; exact hz) (fun b hb => ?_) fun out ho eo => ?_
  · have := hdep b.2 (by rw [← hm]; exact List.mem_map_of_mem hb)
    omega
  · obtain ⟨ep, he'⟩ := PyProof.Rows.sortedAll_at s.heap its out.toArray
    have hlen2 : (sortV ws ds).length ≤ sizeLine := by rw [sortV_length (by rw [hwl, hlen]), ← hlen, ← hwl]; exact hz
    exact ⟨.ref _, upd H (s.heap.objs.size + 1) (.lst (sortV ws ds)), I.laid (t' := s.toks) (fun _ _ => PyProof.Rows.sortedAll_old) (Nat.le_succ _) ⟨hlen2, out, ep, each_vals (fun _ _ h => h) eo, he'⟩, rfl, q _ (I.hok.fresh (Nat.le_succ _))⟩
def sortedF : List PyData → Option (List PyData)
  | [.list ds] => if okSort ds = true ∧ ds.length ≤ sizeLine then some (sortD ds) else none
  | _ => none
theorem callf_sort : CallF X (rSortDat X.K) sortedF := by
  intro ph am H xs ds c Q hn dx q k
  cases dx with
  | nil => cases q
  | cons h t =>
    cases t with
    | cons _ _ => cases h <;> cases q
    | nil =>
      cases h with
      | lst h1 a1 =>
        obtain ⟨⟨h2, h3⟩, rfl⟩ := if_some q
        obtain ⟨g1, g2, g3⟩ := okSort_is h2
        refine ⟨_, _, _, rfl, rd_hid h1, (dps_mono hid_sub a1).dp, g1, g2, g3, fun p np => k p _ np a1.sort (by rw [sortV_length a1.length]; exact h3)⟩
      | _ => cases q
end PD
end

section
set_option Elab.async false
set_option linter.all false
set_option maxRecDepth 100000
set_option maxHeartbeats 1000000
namespace PD
open PySem PySem.Spec PyProof.Rows L2
variable {X : Cx} {W : WX} {pos : Pos} {e e1 e2 e3 : Expr} {es : List Expr} {f g h : M PyData} {fs : M (List PyData)} {fb gb : M Bool}
variable {K : PySem.W.Frag} {ph : Fx} {am am' am1 : Am} {H H' H1 : Hp} {σ σ' : L2.St} {δ δ' δ1 : Sg} {a p p1 p2 : Addr} {v : V} {vs : List V} {d : PyData} {ds : List PyData} {i : Nat}

/-! ### sorted(d), d a dict whose keys are tuples -/
def keyDat : Key → PyData
  | .inl i => .int i
  | .inr s => .str s
def keyD (k : List Key) : PyData := .tuple (k.map keyDat)
theorem keyDat_q {H : Hp} : ∀ k : Key, Dq K H (kV k) (keyDat k)
  | .inl i => .int i
  | .inr s => .str s
theorem keysDat_q {H : Hp} : ∀ k : List Key, DqAll K H (k.map kV) (k.map keyDat)
  | [] => .nil
  | k :: ks => .cons (keyDat_q k) (keysDat_q ks)
theorem readsAll_flat {h : Heap} : ∀ {ks : List Key} {us : List Value} {as : List Addr}, ReadsAll h us (ks.map keyDat) as → as = []
  | [], _, _, r => by cases r; rfl
  | k :: ks, _, _, r => by
    rw [List.map_cons] at r
    cases r with
    | cons h1 h2 =>
      rw [readsAll_flat h2]
      cases k <;> cases h1 <;> rfl
theorem reads_flat {h : Heap} {k : List Key} {u : Value} {as : List Addr} (r : Reads h u (keyD k) as) : as = [] := by
  unfold keyD at r
  cases r with
  | tuple h1 h2 h3 h4 => exact readsAll_flat h4
abbrev TupsAt (H : Hp) (qs : List (Addr × List Key)) : Prop := ∀ q, q ∈ qs → H q.1 = some (.tup (q.2.map kV))
def rSortDi : List V → Hp → VK → Prop := fun xs H Q => ∃ (a : Addr) (kvs : List (List Key × V)), xs = [.ref a] ∧ H a = some (.dT kvs) ∧ PySem.W.AllAlike ((kvs.map (·.1)).map keyD) ∧ (PySem.W.Sortable ((kvs.map (·.1)).map keyD) ∨ (kvs.map (·.1)).map keyD = [.tuple []]) ∧ (∀ k, k ∈ kvs.map (·.1) → (keyD k).depth ≤ 40) ∧
  ∀ qs : List (Addr × List Key), TupsAt H qs → qs.map (·.2) = (kvs.map (·.1)).mergeSort (PySem.W.dataLe false keyD) → ∀ p, H p = none → Q (.ref p) (upd H p (.lst (qs.map fun q => .ref q.1)))
theorem kt_tups {kvs : List (List Key × V)} {xs : List (List Key × Addr × Value)} (r : KT H kvs xs) : TupsAt H (xs.map fun x => (x.2.1, x.1)) ∧ xs.map (·.1) = kvs.map (·.1) := by
  induction r with
  | nil => exact ⟨fun q hq => by simp at hq, rfl⟩
  | @cons p q ps qs h t ih =>
    refine ⟨fun b hb => ?_, ?_⟩
    · rw [List.map_cons] at hb
      rcases List.mem_cons.mp hb with rfl | hb
      · show H q.2.1 = some (.tup (q.1.map kV))
        rw [← h.1]
        exact h.2.1
      · exact ih.1 b hb
    · rw [List.map_cons, List.map_cons, ih.2, h.1]
theorem each_of {α β : Type} {R : α → β → Prop} : ∀ {us : List α} {qs : List β}, us.length = qs.length → (∀ (j : Nat) (u : α) (q : β), us[j]? = some u → qs[j]? = some q → R u q) → PySem.W.EachIs R us qs
  | [], [], _, _ => .nil
  | u :: us, q :: qs, hl, k => .cons (k 0 u q rfl rfl) (each_of (by simpa using hl) fun j u q h1 h2 => k (j + 1) u q (by simpa using h1) (by simpa using h2))
  | [], _ :: _, hl, _ => by simp at hl
  | _ :: _, [], hl, _ => by simp at hl
theorem each_refs : ∀ {us : List Value} {qs : List (Addr × List Key)}, PySem.W.EachIs (fun (u : Value) (q : Addr × List Key) => u = .ref q.1) us qs → Vals (qs.map fun q => V.ref q.1) us
  | _, _, .nil => .nil
  | _, _, .cons h t => .cons h (each_refs t)
theorem EachIs_and {α β : Type} {R S : α → β → Prop} : ∀ {us : List α} {qs : List β}, PySem.W.EachIs R us qs → (∀ u q, q ∈ qs → R u q → S u q) → PySem.W.EachIs S us qs
  | _, _, .nil, _ => .nil
  | _, _, .cons h t, k => .cons (k _ _ (List.mem_cons_self ..) h) (EachIs_and t fun u q hq r => k u q (List.mem_cons_of_mem _ hq) r)
/-! ### a list that holds () alone -/
theorem sorts_unit {prog : Program} {w : World} {A : Around} {s : Shared} {vs : List Value} {ds : List PyData} (e : PySem.W.EachIs (fun v d => ∃ as, Reads s.heap v d as) vs ds) (hd0 : ds = [.tuple []]) (hu : A.units + 1 < cLine) : PySem.W.SortsAt prog w A s (PySem.W.dataKind s.heap ds) vs := by
  have hal : PySem.W.AllAlike ds := fun d hd d' hd' => by
    subst hd0
    rw [List.mem_singleton.mp hd, List.mem_singleton.mp hd']
    simp [PySem.W.alike, PySem.W.alikeAll]
  refine ⟨fun v hv => ?_, PyProof.Rows.tuples' true, ?_, fun h2 => ?_⟩
  · obtain ⟨d, hd, as, r⟩ := e.left v hv
    exact ⟨_, PySem.W.dataKind_some hal hd r⟩
  · intro E x y a b Q ha hb hq
    obtain ⟨d, as, hd, ra, rfl⟩ := PySem.W.dataKind_inv ha
    obtain ⟨d', as', hd', rb, rfl⟩ := PySem.W.dataKind_inv hb
    subst hd0
    cases List.mem_singleton.mp hd
    cases List.mem_singleton.mp hd'
    have hq' : Q (PySem.W.dataLt (.tuple []) (.tuple [])) s := hq
    rw [PySem.W.dataLt_tuple] at hq'
    cases ra with
    | @tuple l o xs n _ _ h1 h2 h3 h4 =>
      cases rb with
      | @tuple l' o' xs' n' _ _ k1 k2 k3 k4 =>
        have n1 : xs.size = ([] : List PyData).length := by simpa using SeqAt.ReadsAll.length _ _ _ h4
        have n2 : xs'.size = ([] : List PyData).length := by simpa using SeqAt.ReadsAll.length _ _ _ k4
        exact PySem.W.kat_lt h1 h3 k1 k3 (PySem.W.katLex_alike [] [] 0 _ _ _ _ h4 k4 (by simp [PySem.W.alikeAll]) (by simp [PyData.depthAll]; omega) (fun _ _ x r t ex => by cases ex) (by rw [n1, n2]) hq')
  · have := PySem.W.EachIs.length e
    subst hd0
    simp at this
    omega
theorem list_sort_any {β : Type} {prog : Program} {w : World} {A : Around} {E : Value → Shared → Prop} {s : Shared} {vs : List Value} {bs : List β} {enc : β → PyData} {R : Value → β → Prop} {a : Addr} {n : Nat} {Q : Value → Shared → Prop} (ho : s.heap.get? a = some (seqObj "list" vs.toArray n)) (e : PySem.W.EachIs R vs bs) (er : PySem.W.EachIs (fun v b => ∃ as, Reads s.heap v (enc b) as ∧ a ∉ as) vs bs) (hal : PySem.W.AllAlike (bs.map enc)) (hk : PySem.W.Sortable (bs.map enc) ∨ bs.map enc = [.tuple []]) (hL : bs.length ≤ sizeLine)
    (hu : ∀ b, b ∈ bs → A.units + 1 + (enc b).depth < cLine) (h : ∀ out, out.length = bs.length → PySem.W.EachIs R out (bs.mergeSort (PySem.W.dataLe false enc)) → Q .none { s with heap := sortedHeap s.heap a vs (List.toArray out) }) :
    wpAny (model prog w) A (call (.builtin "list.sort") [.ref a]) Q E s := by
  rcases hk with hk | hk
  · exact PySem.W.list_sort_data ho e er hal hk hL hu h
  · have er' : PySem.W.EachIs (fun v b => ∃ as, Reads (PySem.W.sortingHeap s.heap a vs) v (enc b) as) vs bs := PySem.W.each_keepBut (h' := PySem.W.sortingHeap s.heap a vs) (fun _ _ hb q => PySem.W.sortingHeap_old hb q) (fun o q => by rw [ho] at q; rw [← Option.some.inj q]) hal er
    have hb1 : ∃ b, b ∈ bs := by
      cases bs with
      | nil => simp at hk
      | cons b bs => exact ⟨b, List.mem_cons_self ..⟩
    obtain ⟨b, hb⟩ := hb1
    have hu1 := hu b hb
    have hbe : enc b = .tuple [] := by
      have : enc b ∈ bs.map enc := List.mem_map_of_mem hb
      rw [hk] at this
      exact List.mem_singleton.mp this
    rw [hbe, show (PyData.tuple []).depth = 1 by simp [PyData.depth, PyData.depthAll]] at hu1
    refine wpAny_call_entry PyProof.Rows.slot_list_sort ⟨_, ho, rfl⟩ PyProof.Rows.entry_list_sort (PySem.W.list_sort_vals (κ := PySem.W.dataKind (PySem.W.sortingHeap s.heap a vs) (bs.map enc)) ho (sorts_unit (s := { s with heap := PySem.W.sortingHeap s.heap a vs }) (PySem.W.each_map (R := fun v d => ∃ as, Reads (PySem.W.sortingHeap s.heap a vs) v d as) enc er') hk ?_) ?_ ?_)
    · first | omega | (show A.units + 1 + 1 < cLine; omega)
    · rw [PySem.W.EachIs.length e]; exact hL
    · exact ⟨_, rfl, h _ (by rw [PySem.W.sortVals_length false rfl]; exact PySem.W.EachIs.length e) (PySem.W.sortVals_data false e er' hal)⟩
theorem cr_sortDi (hcalm : X.calm = true) (hu : X.A.units + 65 < cLine) : CallR X (.builtin "sorted") rSortDi := by
  intro pins s σ H vs us Q I r h
  obtain ⟨a, kvs, rfl, hd, hal, hk, hdep, q⟩ := h
  rw [Vals.ref1 r]
  obtain ⟨z, lo, xs, rel, o, es, ep, h1, h2, h3, h4, h5, h6⟩ := dt_of I.hok hd
  have hraw : s.heap.DictRaw a es ep := ⟨o, h1, h2, h3⟩
  obtain ⟨tq, ek⟩ := kt_tups rel
  have hes : es.size = xs.length := size_of_entries h4
  have hxl : xs.length = kvs.length := by
    have := congrArg List.length ek
    simpa using this
  let qs0 : List (Addr × List Key) := xs.map fun x => (x.2.1, x.1)
  have hq0 : qs0.length = kvs.length := by show (xs.map _).length = _; rw [List.length_map, hxl]
  have hqk : qs0.map (·.2) = kvs.map (·.1) := by
    show (xs.map fun x => (x.2.1, x.1)).map (·.2) = _
    rw [List.map_map, ← ek]
    rfl
  have henc : qs0.map (fun q => keyD q.2) = (kvs.map (·.1)).map keyD := by
    rw [← hqk]
    exact (List.map_map (f := fun q : Addr × List Key => q.2) (g := keyD) (l := qs0)).symm
  refine Calls.call_function_entry PyProof.Rows.kind_sorted PyProof.Rows.plain_sorted PyProof.Rows.entry_sorted (PyProof.Rows.args_sorted1 _) ?_
  unfold Builtin.«sorted»
  refine wpAny_bind (m := checkCount "sorted" 1 1 _) (wpAny_pure ?_)
  refine wpAny_bind (PySem.W.kdu_collect (A := X.A.in1) (KdlSrc.rawDict (es := es) (ep := ep) lo) (I.ok.hd hcalm) hraw (by rw [hes, hxl]; exact z) fun h' tk acc hk' hacc => ?_)
  have hal2 : acc.toList.length = qs0.length := by rw [Array.length_toList, hacc.1, hes, hq0, hxl]
  have I1 : Inv X pins σ H { s with heap := h', toks := tk } := I.kept hk'
  have hE : PySem.W.EachIs (fun (u : Value) (q : Addr × List Key) => u = .ref q.1) acc.toList qs0 := each_of hal2 fun j u q' e1 e2 => by
    obtain ⟨hi, e3⟩ := hacc.2 j u (by rw [← Array.getElem?_toList]; exact e1)
    rw [e3]
    have e4 := entry_at h4 j
    rw [Array.getElem?_eq_getElem hi] at e4
    have e5 : (xs.map fun x => (x.2.1, x.1))[j]? = some q' := e2
    rw [List.getElem?_map] at e5
    cases e6 : xs[j]? with
    | none => rw [e6] at e5; cases e5
    | some x =>
      rw [e6] at e4 e5
      cases e5
      rw [Option.some.inj e4]
      rfl
  refine wpAny_bind (wpAny_newList ?_ (by rw [hal2, hq0]; exact z))
  have hoL : (h'.push (seqObj "list" acc.toList.toArray 0)).get? h'.objs.size = some (seqObj "list" acc.toList.toArray 0) := Heap.get?_push_size _ rfl
  have I2 : Inv X pins σ H { s with heap := h'.push (seqObj "list" acc.toList.toArray 0), toks := tk } := I1.kept (s := { s with heap := h', toks := tk }) fun b u e => Heap.get?_push_of_some _ e
  have hEr : PySem.W.EachIs (fun (u : Value) (q : Addr × List Key) => ∃ as, Reads (h'.push (seqObj "list" acc.toList.toArray 0)) u (keyD q.2) as ∧ h'.objs.size ∉ as) acc.toList qs0 := EachIs_and hE fun u q hq eu => by
    subst eu
    have ht := tq q hq
    obtain ⟨as, hr⟩ := Dp.reads I2 (keyD q.2) (.ref q.1) (.ref q.1) (.tup (.inl (.inl ht)) (keysDat_q q.2).dp) rfl
    refine ⟨as, hr, ?_⟩
    rw [reads_flat hr]
    simp
  show wpAny _ _ _ _ _ { s with heap := h'.push (seqObj "list" acc.toList.toArray 0), toks := tk }
  refine wpAny_bind (wpAny_holding (list_sort_any (s := { s with heap := h'.push (seqObj "list" acc.toList.toArray 0), toks := tk }) (enc := fun q : Addr × List Key => keyD q.2) hoL hE hEr (by rw [henc]; exact hal) (by rw [henc]; exact hk) (by rw [hq0]; exact z) (fun b hb => ?_) fun out ho eo => ?_))
  · have e1 : b.2 ∈ kvs.map (·.1) := by rw [← hqk]; exact List.mem_map_of_mem hb
    have := hdep b.2 e1
    show X.A.units + 1 + 1 + (keyD b.2).depth < cLine
    omega
  · obtain ⟨e', he'⟩ := PyProof.Rows.sortedHeap_at (vs := acc.toList) (out := out.toArray) hoL
    have hlen : ((qs0.mergeSort (PySem.W.dataLe false fun q : Addr × List Key => keyD q.2)).map fun q => V.ref q.1).length ≤ sizeLine := by
      rw [List.length_map, List.length_mergeSort, hq0]; exact z
    refine wpAny_pure ⟨_, rfl, .ref h'.objs.size, upd H h'.objs.size (.lst ((qs0.mergeSort (PySem.W.dataLe false fun q : Addr × List Key => keyD q.2)).map fun q => V.ref q.1)), I1.laid (t' := tk) (fun b u e => ?_) (Nat.le_refl _)
      (show ObjOk X.prog X.w _ _ _ (.lst _) from ⟨hlen, out, e', each_refs eo, he'⟩), rfl, q _ (fun b hb => tq b (List.mem_mergeSort.mp hb)) ?_ _ (I1.hok.fresh (Nat.le_refl _))⟩
    · have hb : b < h'.objs.size := Heap.lt_size e
      rw [PyProof.Rows.sortedHeap_old (Nat.ne_of_lt hb) (by rw [size_push']; exact Nat.lt_succ_of_lt hb)]
      exact Heap.get?_push_of_some _ e
    · have e1 := PySem.W.sort_maps (r := PySem.W.dataLe false fun q : Addr × List Key => keyD q.2) (s := PySem.W.dataLe false keyD) (fun q : Addr × List Key => q.2) (l := qs0) (fun _ _ _ _ => rfl)
      exact e1.trans (by rw [hqk])
end PD
end

section
set_option Elab.async false
set_option linter.all false
set_option maxRecDepth 100000
set_option maxHeartbeats 1000000
namespace PD
open PySem PySem.Spec PyProof.Rows L2
variable {X : Cx} {W : WX} {pos : Pos} {e e1 e2 e3 : Expr} {es : List Expr} {f g h : M PyData} {fs : M (List PyData)} {fb gb : M Bool}
variable {K : PySem.W.Frag} {ph : Fx} {am am' am1 : Am} {H H' H1 : Hp} {σ σ' : L2.St} {δ δ' δ1 : Sg} {a p p1 p2 : Addr} {v : V} {vs : List V} {d : PyData} {ds : List PyData} {i : Nat}
theorem df_callB {id : String} {x : Str} {pf : Pos} {r : List V → Hp → VK → Prop} {F : List PyData → Option (List PyData)} (hr : CallF X r F) (hc : CallR X (.builtin id) r) (hm : X.mg x = none) (hv : bootBuiltins x = some (.builtin id)) (h : DA X W (e :: es) fs)
    (hg : Gl X x := by rfl) (hn : x ≠ "__name__" := by decide) (hdb : (x == ("__debug__" : Str)) = false := by decide)
    (he : starEach (e :: es) X.env = (false, eval e X.env) :: starEach es X.env := by rfl) (hpl : (backTo pos (starEach es X.env)).any (·.1) = false := by rfl) : DF X W (.Call (.Name x pf) (e :: es) [] pos) (xCallF F fs) :=
  callF_core hr h fun t pa => pe_callB hc hg hm hv pa hn hdb he hpl
/-- sorted(xs), xs any list -/
theorem df_sorted {pf : Pos} (hu : X.A.units + 65 < cLine) (hm : X.mg "sorted" = none) (h : DA X W [e] fs) (hg : Gl X "sorted" := by rfl)
    (he : starEach [e] X.env = (false, eval e X.env) :: starEach [] X.env := by rfl) (hpl : (backTo pos (starEach [] X.env)).any (·.1) = false := by rfl) : DF X W (.Call (.Name "sorted" pf) [e] [] pos) (xCallF sortedF fs) :=
  df_callB callf_sort (cr_sortDat hu) hm (by decide +kernel) h hg (by decide) (by decide) he hpl
/-- a list that holds () alone -/
def isUnit : List PyData → Bool
  | [.tuple []] => true
  | _ => false
theorem isUnit_is {ds : List PyData} (h : isUnit ds = true) : ds = [.tuple []] := by
  unfold isUnit at h
  split at h
  · rfl
  · cases h
theorem okUnit {ds : List PyData} (h : (okSort ds || isUnit ds) = true) : PySem.W.AllAlike ds ∧ (PySem.W.Sortable ds ∨ ds = [.tuple []]) ∧ ∀ d, d ∈ ds → d.depth ≤ 40 := by
  rcases Bool.or_eq_true _ _ ▸ h with h | h
  · obtain ⟨g1, g2, g3⟩ := okSort_is h
    exact ⟨g1, .inl g2, g3⟩
  · have := isUnit_is h
    subst this
    refine ⟨fun d hd d' hd' => ?_, .inr rfl, fun d hd => ?_⟩
    · rw [List.mem_singleton.mp hd, List.mem_singleton.mp hd']
      simp [PySem.W.alike, PySem.W.alikeAll]
    · rw [List.mem_singleton.mp hd]
      simp [PyData.depth, PyData.depthAll]
/-- sorted(x), x a dict of one's own whose keys are tuples -/
def xSortDi (i : Nat) : M (List PyData) := fun δ => match δ[i]? with
  | some (.od (.t kvs)) => if (okSort ((kvs.map (·.1)).map keyD) || isUnit ((kvs.map (·.1)).map keyD)) = true ∧ kvs.length ≤ sizeLine then some (.ok (sortD ((kvs.map (·.1)).map keyD)), δ) else none
  | _ => none
theorem tups_q (s : SR K ph am σ H δ) : ∀ {qs : List (Addr × List Key)}, TupsAt H qs → DqAll K (hid ph am H) (qs.map fun q => V.ref q.1) (qs.map fun q => keyD q.2)
  | [], _ => .nil
  | q :: qs, h => .cons (.tup (s.tup_seen (h q (List.mem_cons_self ..))) (keysDat_q q.2)) (tups_q s fun r hr => h r (List.mem_cons_of_mem _ hr))
theorem df_sortDi {x : Str} {pn pf : Pos} (hc : X.calm = true) (hu : X.A.units + 65 < cLine) (hm : X.mg "sorted" = none) (hN : X.N[i]? = some x := by rfl) (hv : Vis X.env.scope x := by first | exact Or.inl rfl | exact Or.inr (Or.inl rfl) | exact Or.inr (Or.inr rfl)) (hd : (x == ("__debug__" : Str)) = false := by decide) (hcd : (x == ("__classdict__" : Str)) = false := by decide) (hg : Gl X "sorted" := by rfl)
    (he : starEach [.Name x pn] X.env = (false, eval (.Name x pn) X.env) :: starEach [] X.env := by rfl) (hpl : (backTo pos (starEach [] X.env)).any (·.1) = false := by rfl) : DF X W (.Call (.Name "sorted" pf) [.Name x pn] [] pos) (xSortDi i) := by
  refine ⟨⟨_, pe_callB (cr_sortDi hc hu) hg hm (by decide +kernel) (pa_cons (pe_var hN hv hd hcd) pa_nil he) (by decide) (by decide) he hpl, fun ph am σ H δ Q ans δ' s z k kx => ?_⟩⟩
  unfold xSortDi at z
  split at z
  · rename_i kvs e3
    obtain ⟨⟨z1, z2⟩, e4⟩ := if_some z
    cases e4
    obtain ⟨a0, u0, o1, o2, o3, o4, o5⟩ := s.od i _ e3
    refine ⟨.ref a0, o2, ?_⟩
    cases u0 with
    | dT us =>
      obtain ⟨k1, k2⟩ := o4
      obtain ⟨g1, g2, g3⟩ := okUnit z1
      refine ⟨a0, us, rfl, o3, by rw [k1]; exact g1, by rw [k1]; exact g2, fun k hk => g3 _ (List.mem_map_of_mem (by rw [← k1]; exact hk)), fun qs t eq p np => ?_⟩
      have e5 : qs.map (fun q => keyD q.2) = sortD ((kvs.map (·.1)).map keyD) := by
        have e6 := PySem.W.sort_maps (r := PySem.W.dataLe false keyD) (s := PySem.W.dataLe false fun d => d) keyD (l := kvs.map (·.1)) (fun _ _ _ _ => rfl)
        rw [sortD_eq, ← e6, ← k1, ← eq]
        exact (List.map_map (f := fun q : Addr × List Key => q.2) (g := keyD) (l := qs)).symm
      have e7 : qs.length = kvs.length := by
        have := congrArg List.length eq
        rw [k1, List.length_map, List.length_mergeSort, List.length_map] at this
        exact this
      refine k _ rfl am p _ H np np Step.refl s ?_ (by rw [List.length_map, e7]; exact z2)
      rw [← e5]
      exact tups_q s t
    | _ => exact o4.elim
  · cases z
end PD
end

section
set_option Elab.async false
set_option linter.all false
set_option maxRecDepth 100000
set_option maxHeartbeats 1000000
namespace PD
open PySem PySem.Spec PyProof.Rows L2
variable {X : Cx} {W : WX} {pos : Pos} {e e1 e2 e3 : Expr} {es : List Expr} {f g h : M PyData} {fs : M (List PyData)} {fb gb : M Bool}
variable {K : PySem.W.Frag} {ph : Fx} {am am' am1 : Am} {H H' H1 : Hp} {σ σ' : L2.St} {δ δ' δ1 : Sg} {a p p1 p2 : Addr} {v : V} {vs : List V} {d : PyData} {ds : List PyData} {i : Nat}
theorem hu1 {A : Around} {k : Nat} (hr : Room k A) : A.units + 1 < cLine := by have := hr.un; omega
theorem hu65 {A : Around} {k : Nat} (hr : Room k A) : A.units + 65 < cLine := by have := hr.un; omega
/-! ### x, y = a new list, {} -/
def sPar2D (fs : M (List PyData)) (o : DiO) (i j : Nat) : MS := bnd fs fun ds => fun δ => match δ[i]? with
  | some c => if c.free = true then (match (δ.set i (.ow false ds))[j]? with
    | some c2 => if c2.free = true then some (.ok .nx, (δ.set i (.ow false ds)).set j (.od o)) else none
    | none => none) else none
  | none => none
theorem par2D_core {x y : Str} {px py pt pd : Pos} {kt k2 pt2} {o : DiO} {u0 : HO} {t2 : TE} (p2 : PE X (.Dict [] [] pd) t2) (ht : t2 = fun _ H Q => ∀ p, H p = none → Q (.ref p) (upd H p u0)) (hu : ∀ H, DOR X.K H u0 o)
    (hc : X.calm = true) (hN : X.N.Nodup) (he1 : DF X W e1 fs) (hi : X.N[i]? = some x := by rfl) {j : Nat} (hj : X.N[j]? = some y := by rfl) (hij : i ≠ j := by decide)
    (hx : X.env.scope.names.lookup x = some .local := by rfl) (hy : X.env.scope.names.lookup y = some .local := by rfl)
    (hw : swappedStores [.Tuple [.Name x px, .Name y py] kt pt] (.Tuple [e1, .Dict [] [] pd] k2 pt2) X.env = pure (some [x, y]) := by rfl)
    (hs : swapsWithSole [.Tuple [.Name x px, .Name y py] kt pt] (.Tuple [e1, .Dict [] [] pd] k2 pt2) pos.line X.env = pure false := by rfl)
    (hs1 : starEach [e1, .Dict [] [] pd] X.env = (false, eval e1 X.env) :: starEach [.Dict [] [] pd] X.env := by rfl) (hs2 : starEach [.Dict [] [] pd] X.env = (false, eval (.Dict [] [] pd) X.env) :: starEach [] X.env := by rfl) :
    DS X W (.Assign [.Tuple [.Name x px, .Name y py] kt pt] (.Tuple [e1, .Dict [] [] pd] k2 pt2) pos) (sPar2D fs o i j) := by
  subst ht
  obtain ⟨t1, p1, q1⟩ := he1.ex
  refine ⟨⟨_, ps_par hc hN hi hj hij hx hy (pa_cons p1 (pa_cons p2 pa_nil hs2) hs1) hw hs, fun ph am σ H δ D ans δ' s z k kx => ?_⟩⟩
  rcases bnd_some z with ⟨ds, δ1, e1, e2⟩ | ⟨c, fs, e1, e2⟩
  · refine q1 ph am σ H δ _ _ _ s e1 (fun d' ed am1 p vs H1 n0 n1 st1 s1 dv hz => ?_) (fun c fs z => by cases z)
    cases ed
    intro q nq
    split at e2
    · rename_i c e3
      split at e2
      · rename_i h1
        split at e2
        · rename_i c2 e4
          obtain ⟨h2, e5⟩ := if_some e2
          cases e5
          have s2 := s1.putOwn e3 h1 n1 dv hz
          have s3 := s2.putDi (u := u0) (o := o) e4 h2 nq (hu _)
          exact ⟨_, _, rfl, k _ rfl _ _ _ ((st1.trans (step_put n1)).trans (step_putU nq)) s3⟩
        · cases e2
      · cases e2
    · cases e2
  · subst e2
    exact q1 ph am σ H δ _ _ _ s e1 (fun d ed => by cases ed) (fun c' fs' z => by cases z; exact (kx _ _ rfl).at)
theorem ds_par2K {x y : Str} {px py pt pd : Pos} {kt k2 pt2} (hc : X.calm = true) (hN : X.N.Nodup) (he1 : DF X W e1 fs) (hi : X.N[i]? = some x := by rfl) {j : Nat} (hj : X.N[j]? = some y := by rfl) (hij : i ≠ j := by decide)
    (hx : X.env.scope.names.lookup x = some .local := by rfl) (hy : X.env.scope.names.lookup y = some .local := by rfl)
    (hw : swappedStores [.Tuple [.Name x px, .Name y py] kt pt] (.Tuple [e1, .Dict [] [] pd] k2 pt2) X.env = pure (some [x, y]) := by rfl)
    (hs : swapsWithSole [.Tuple [.Name x px, .Name y py] kt pt] (.Tuple [e1, .Dict [] [] pd] k2 pt2) pos.line X.env = pure false := by rfl)
    (hs1 : starEach [e1, .Dict [] [] pd] X.env = (false, eval e1 X.env) :: starEach [.Dict [] [] pd] X.env := by rfl) (hs2 : starEach [.Dict [] [] pd] X.env = (false, eval (.Dict [] [] pd) X.env) :: starEach [] X.env := by rfl) :
    DS X W (.Assign [.Tuple [.Name x px, .Name y py] kt pt] (.Tuple [e1, .Dict [] [] pd] k2 pt2) pos) (sPar2D fs (.k []) i j) :=
  par2D_core (o := .k []) (u0 := .dK []) pe_dnewK rfl (fun _ => ⟨rfl, .nil⟩) hc hN he1 hi hj hij hx hy hw hs hs1 hs2
theorem ds_par2T {x y : Str} {px py pt pd : Pos} {kt k2 pt2} (hc : X.calm = true) (hN : X.N.Nodup) (he1 : DF X W e1 fs) (hi : X.N[i]? = some x := by rfl) {j : Nat} (hj : X.N[j]? = some y := by rfl) (hij : i ≠ j := by decide)
    (hx : X.env.scope.names.lookup x = some .local := by rfl) (hy : X.env.scope.names.lookup y = some .local := by rfl)
    (hw : swappedStores [.Tuple [.Name x px, .Name y py] kt pt] (.Tuple [e1, .Dict [] [] pd] k2 pt2) X.env = pure (some [x, y]) := by rfl)
    (hs : swapsWithSole [.Tuple [.Name x px, .Name y py] kt pt] (.Tuple [e1, .Dict [] [] pd] k2 pt2) pos.line X.env = pure false := by rfl)
    (hs1 : starEach [e1, .Dict [] [] pd] X.env = (false, eval e1 X.env) :: starEach [.Dict [] [] pd] X.env := by rfl) (hs2 : starEach [.Dict [] [] pd] X.env = (false, eval (.Dict [] [] pd) X.env) :: starEach [] X.env := by rfl) :
    DS X W (.Assign [.Tuple [.Name x px, .Name y py] kt pt] (.Tuple [e1, .Dict [] [] pd] k2 pt2) pos) (sPar2D fs (.t []) i j) :=
  par2D_core (o := .t []) (u0 := .dT []) pe_dnewT rfl (fun _ => ⟨rfl, .nil⟩) hc hN he1 hi hj hij hx hy hw hs hs1 hs2
/-! ### sorted(set(xs)), xs a list of ints: what it gives -/
def intsOf : List PyData → Option (List Int)
  | [] => some []
  | .int i :: ds => (intsOf ds).map (i :: ·)
  | _ => none
def insI (x : Int) : List Int → List Int
  | [] => [x]
  | y :: ys => cond (decide (x < y)) (x :: y :: ys) (cond (decide (x = y)) (y :: ys) (y :: insI x ys))
def setI : List Int → List Int
  | [] => []
  | x :: xs => insI x (setI xs)
def sortSetF : List PyData → Option (List PyData)
  | [.list ds] => match intsOf ds with
    | some ns => if ns.length < 64 then some ((setI ns).map .int) else none
    | none => none
  | _ => none
theorem insI_mem {x y : Int} : ∀ {l : List Int}, y ∈ insI x l ↔ y = x ∨ y ∈ l
  | [] => by simp [insI]
  | z :: l => by
    unfold insI
    by_cases h1 : x < z
    · rw [decide_eq_true h1, cond_true, List.mem_cons]
    · rw [decide_eq_false h1, cond_false]
      by_cases h2 : x = z
      · rw [decide_eq_true h2, cond_true, h2]
        simp
      · rw [decide_eq_false h2, cond_false, List.mem_cons, insI_mem (l := l), List.mem_cons]
        constructor
        · rintro (h | h | h)
          · exact .inr (.inl h)
          · exact .inl h
          · exact .inr (.inr h)
        · rintro (h | h | h)
          · exact .inr (.inl h)
          · exact .inl h
          · exact .inr (.inr h)
theorem insI_sorted {x : Int} : ∀ {l : List Int}, l.Pairwise (· < ·) → (insI x l).Pairwise (· < ·)
  | [], _ => by simp [insI]
  | y :: l, hs => by
    obtain ⟨h1, h2⟩ := List.pairwise_cons.mp hs
    unfold insI
    by_cases g1 : x < y
    · rw [decide_eq_true g1, cond_true]
      refine List.pairwise_cons.mpr ⟨fun z hz => ?_, hs⟩
      rcases List.mem_cons.mp hz with rfl | hz
      · exact g1
      · have := h1 z hz; omega
    · rw [decide_eq_false g1, cond_false]
      by_cases g2 : x = y
      · rw [decide_eq_true g2, cond_true]; exact hs
      · rw [decide_eq_false g2, cond_false]
        refine List.pairwise_cons.mpr ⟨fun z hz => ?_, insI_sorted h2⟩
        rcases insI_mem.mp hz with rfl | hz
        · omega
        · exact h1 z hz
theorem setI_sorted : ∀ l : List Int, (setI l).Pairwise (· < ·)
  | [] => .nil
  | _ :: l => insI_sorted (setI_sorted l)
theorem setI_mem {y : Int} : ∀ {l : List Int}, y ∈ setI l ↔ y ∈ l
  | [] => by simp [setI]
  | x :: l => by rw [setI, insI_mem, setI_mem (l := l), List.mem_cons]
/-- a list in order without repeats is known by its members -/
theorem lt_unique : ∀ {l m : List Int}, l.Pairwise (· < ·) → m.Pairwise (· < ·) → (∀ y, y ∈ l ↔ y ∈ m) → l = m
  | [], [], _, _, _ => rfl
  | [], b :: m, _, _, h => by have := (h b).mpr (List.mem_cons_self ..); simp at this
  | a :: l, [], _, _, h => by have := (h a).mp (List.mem_cons_self ..); simp at this
  | a :: l, b :: m, hl, hm, h => by
    obtain ⟨l1, l2⟩ := List.pairwise_cons.mp hl
    obtain ⟨m1, m2⟩ := List.pairwise_cons.mp hm
    have e : a = b := by
      rcases List.mem_cons.mp ((h a).mp (List.mem_cons_self ..)) with e | q
      · exact e
      · rcases List.mem_cons.mp ((h b).mpr (List.mem_cons_self ..)) with e | r
        · exact e.symm
        · have := l1 b r; have := m1 a q; omega
    subst e
    rw [lt_unique l2 m2 fun y => ?_]
    have hy := h y
    rw [List.mem_cons, List.mem_cons] at hy
    constructor
    · intro q
      rcases hy.mp (.inr q) with e | r
      · have := l1 y q; omega
      · exact r
    · intro q
      rcases hy.mpr (.inr q) with e | r
      · have := m1 y q; omega
      · exact r
end PD
end

section
set_option Elab.async false
set_option linter.all false
set_option maxRecDepth 100000
set_option maxHeartbeats 3200000
namespace PD
open PySem PySem.Spec PyProof.Rows L2
section
variable {P : Program} {w : World} {A : Around} {E : Value → Shared → Prop} {s : Shared}
/-- a new set -/
abbrev setNew (w : World) : Obj := { cls := .type "set", dict := none, data := .set #[] 0 (.fresh 0 0 (!w.params.followText "set-order")) }
/-- what is known behind set(xs): the set, all else as it was -/
def MadeSet (w : World) (s : Shared) (ns : List Int) (s' : Shared) : Prop := ∃ h' tk c, s' = { s with heap := h', toks := tk } ∧ SetR w h' s.heap.objs.size (fun j => decide (j ∈ ns)) c ∧ c ≤ ns.length ∧ ∀ b o, s.heap.get? b = some o → h'.get? b = some o
/-- the loop that takes the items up -/
theorem take_up {l : Addr} {items : Array Value} {ns : List Int} (hh : A.handled = none) (hl : s.heap.IsList l items) (hit : IntsAre items.toList ns) (hb : ns.length + 1 < scanBound) :
    wpAny (model P w) A (pyIter (.ref l)) (fun it s1 => wpAny (model P w) A (runValue (.builtin "set.update.loop" ⟨[.ref s.heap.objs.size, it], []⟩)) (fun r s' => r = .none ∧ MadeSet w s ns s') E s1) E { s with heap := s.heap.push (setNew w) } := by
  have hisz : items.size = ns.length := by
    have q := IntsAre.length hit
    rwa [Array.length_toList] at q
  have hl1 : (s.heap.push (setNew w)).IsList l items := by
    obtain ⟨o, ho, r⟩ := hl
    exact ⟨o, Heap.get?_push_of_some _ ho, r⟩
  have hlS : l < s.heap.objs.size := by
    obtain ⟨o, ho, _⟩ := hl
    exact Heap.lt_size ho
  have z1 : (s.heap.push (setNew w)).objs.size = s.heap.objs.size + 1 := Heap.size_push ..
  have n1 : l ≠ (s.heap.push (setNew w)).objs.size := by
    rw [z1]; exact Nat.ne_of_lt (Nat.lt_succ_of_lt hlS)
  have n2 : s.heap.objs.size ∉ [(s.heap.push (setNew w)).objs.size, l] := by
    rw [z1]
    simp only [List.mem_cons, List.not_mem_nil, or_false, not_or]
    exact ⟨Nat.ne_of_lt (Nat.lt_succ_self _), Nat.ne_of_gt hlS⟩
  refine wpAny_pyIter_list hl1 ?_
  refine wpAny_runValue ?_
  refine set_update_ints ((Walks.list (A := A.in1) (by simpa using hh) (s.heap.push (setNew w)).objs.size l n1 items).toS) s.heap.objs.size n2 ns hisz hb (fun i v hv => ?_)
    (items.size - 0) 0 _ (by omega) (Nat.zero_le _) ⟨⟨_, Heap.get?_push_size _ rfl, rfl, rfl⟩, ?_⟩ ⟨0, Nat.le_refl 0, setR_new_at (Heap.get?_push_of_some _ (Heap.get?_push_size _ rfl))⟩ fun s' c hm hc hS => ?_
  · have hi : i < ns.length := by rw [← hisz]; exact (Array.getElem?_eq_some_iff.mp hv).1
    obtain ⟨t, e⟩ := PyProof.Rows.IntsAre.int_at hit i v (by rw [Array.getElem?_toList]; exact hv)
    exact ⟨ns[i], t, List.getElem?_eq_getElem hi, by rw [e, List.getD_eq_getElem?_getD, List.getElem?_eq_getElem hi]; rfl⟩
  · obtain ⟨o, ho, r⟩ := hl1
    exact ⟨o, Heap.get?_push_of_some _ ho, r⟩
  · obtain ⟨h', g2, d', tk', os'⟩ := s'
    have eg : g2 = s.gens := hm.gens
    have ed : d' = s.drawn := hm.drawn
    have eo : os' = s.os := hm.os
    subst eg; subst ed; subst eo
    refine ⟨rfl, h', tk', c, rfl, hS, by rw [← hisz]; exact hc, fun b o e => ?_⟩
    have hb0 : b < s.heap.objs.size := Heap.lt_size e
    refine hm.heap b o ?_ (Heap.get?_push_of_some _ (Heap.get?_push_of_some _ e))
    rw [z1]
    simp only [List.mem_cons, List.not_mem_nil, or_false, not_or]
    exact ⟨Nat.ne_of_lt hb0, Nat.ne_of_lt (Nat.lt_succ_of_lt hb0)⟩
/-- set(xs), xs a list of ints -/
theorem set_ints {l : Addr} {items : Array Value} {ns : List Int} {Q : Value → Shared → Prop} (hh : A.handled = none) (hl : s.heap.IsList l items) (hit : IntsAre items.toList ns) (hb : ns.length + 1 < scanBound)
    (h : ∀ s', MadeSet w s ns s' → Q (.ref s.heap.objs.size) s') : wpAny (model P w) A (call (.type "set") [.ref l]) Q E s := by
  obtain ⟨c, tl, hmro⟩ := F.called_set.mro
  have hmade := F.called_set.made
  have hsub := F.called_set.sub
  have h1 := F.called_set.notType
  have h2 := F.called_set.canCreate
  have hct := F.typeCall_set_1 (.ref l)
  refine wpAny_call (codeAny_of_tree (wpAny_pure ⟨Code.quiet_builtin _ (by decide +kernel), codeAny_builtin F.entry_type_call ?_⟩))
  rw [Around.under_plain (weight_type_call_type "set" [.ref l] []) rfl]
  repeat (any_goals (first | assumption | wp_step))
  refine codeAny_mono (code_set_led1 (.ref l) (E := E) (Q₁ := fun obj s₁ => obj = .ref s.heap.objs.size ∧ s₁ = { s with heap := s.heap.push (setNew w) }) ⟨rfl, rfl⟩) fun r s₁ hr => ?_
  match r, hr with
  | .error e, hr => exact hr
  | .ok (.ret obj), hr =>
    obtain ⟨rfl, rfl⟩ := hr
    have hT : Shared.TypeIs { s with heap := s.heap.push (setNew w) } (.ref s.heap.objs.size) "set" := ⟨_, Heap.get?_push_size _ rfl, rfl⟩
    have hli := F.called_set.init.lookup
    have hbi := F.called_set.init.bind (.ref s.heap.objs.size)
    repeat (any_goals (first | assumption | wp_step))
    refine codeAny_mono (codeAny_call_builtin (R := wants (fun r s' => r = .none ∧ MadeSet w s ns s') E) F.called_set.init.plain F.entry_set_init (check_set_init_1 hT ?_)) fun r₂ s₂ hr₂ => ?_
    · have ht := fun (A' : Around) (hA : A'.handled = none) => take_up (P := P) (w := w) (A := A') (E := E) (s := s) hA hl hit hb
      obtain ⟨⟨ocls, odict, odata, oslots⟩, hol, hcl, nl, hdl⟩ := hl
      simp only at hcl hdl
      subst hcl; subst hdl
      have hol' : (s.heap.push (setNew w)).get? l = some { cls := .type "list", dict := odict, data := .seq items nl, slots := oslots } := Heap.get?_push_of_some _ hol
      have f1 := F.sub_list_set
      have f2 := F.sub_list_frozenset
      have f3 : (Value.type "list" == Value.type "dict") = false := by decide
      unfold Builtin.«set.__init__» noKeywords Builtin.Frozenset.updateFrom
      generalize hPI : pyIter = PI at ht ⊢
      wp_walk
      refine wpAny_mono (ht _ (by simpa using hh)) (fun a s1 q => ?_) (fun _ _ e => e)
      refine wpAny_bind (wpAny_mono q (fun r s2 m => ?_) (fun _ _ e => e))
      refine wpAny_pure ?_
      show wpAny _ _ (PySem.ret Value.none) _ _ _
      exact wpAny_pure ⟨rfl, m.2⟩
    · match r₂, hr₂ with
      | .error e, hr₂ => exact hr₂
      | .ok (.ret r), hr₂ =>
        obtain ⟨rfl, hm⟩ := hr₂
        repeat (any_goals (first | assumption | wp_step))
        exact h _ hm
end
variable {X : Cx} {W : WX} {pos : Pos} {e : Expr} {es : List Expr} {fs : M (List PyData)}
variable {K : PySem.W.Frag} {ph : Fx} {am : Am} {H : Hp} {vs : List V} {ds : List PyData}
def rSetI (K : PySem.W.Frag) (w : World) : List V → Hp → VK → Prop := fun xs H Q => ∃ (l : Addr) (ns : List Int), xs = [V.ref l] ∧ SqL K H l (ns.map V.int) ∧ ns.length < 64 ∧
  ∀ a c, H a = none → c ≤ ns.length → Q (.ref a) (upd H a (SetO w a (fun j => decide (j ∈ ns)) c))
theorem cr_setI (hc : X.calm = true) : CallR X (.type "set") (rSetI X.K X.w) := by
  intro pins s σ H xs us Q I r h
  obtain ⟨l, ns, rfl, hl, hf, q⟩ := h
  rw [Vals.ref1 r]
  obtain ⟨its, rv, pl, hz⟩ := I.list hl
  refine set_ints (I.ok.hd hc) pl.isList (ns := ns) (by simpa using rv.ints) (by unfold scanBound; omega) fun s' m => ?_
  obtain ⟨h', tk, c, rfl, R, hle, k⟩ := m
  exact ⟨.ref s.heap.objs.size, upd H s.heap.objs.size (SetO X.w s.heap.objs.size _ c), I.laid (t' := tk) k (Nat.le_refl _) (setO_new R), rfl, q _ c (I.hok.fresh (Nat.le_refl _)) hle⟩
theorem intsOf_q : ∀ {vs : List V} {ds : List PyData} {ns : List Int}, DqAll K H vs ds → intsOf ds = some ns → vs = ns.map V.int
  | _, _, _, .nil, e => by cases e; rfl
  | _, _, _, .cons h t, e => by
    cases h with
    | int i =>
      obtain ⟨ns, e1, rfl⟩ := Option.map_eq_some_iff.mp e
      rw [intsOf_q t e1]
      rfl
    | _ => cases e
theorem ints_q : ∀ ns : List Int, DqAll K H (ns.map V.int) (ns.map .int)
  | [] => .nil
  | n :: ns => .cons (.int n) (ints_q ns)
theorem setI_length : ∀ l : List Int, (setI l).length ≤ l.length := by
  have h : ∀ (x : Int) (l : List Int), (insI x l).length ≤ l.length + 1 := by
    intro x l
    induction l with
    | nil => simp [insI]
    | cons y l ih =>
      unfold insI
      cases decide (x < y) with
      | true => simp
      | false =>
        cases decide (x = y) with
        | true => simp
        | false => simpa using ih
  intro l
  induction l with
  | nil => simp [setI]
  | cons x l ih =>
    have := h x (setI l)
    rw [setI, List.length_cons]
    omega
/-- sorted(set(xs)), xs a list of fewer than 64 ints -/
theorem df_sortSet {pf ps p2 : Pos} (hc : X.calm = true) (hu : X.A.units + 65 < cLine) (hm : X.mg "sorted" = none) (hm2 : X.mg "set" = none) (h : DA X W [e] fs) (hg : Gl X "sorted" := by rfl) (hg2 : Gl X "set" := by rfl)
    (he : starEach [e] X.env = (false, eval e X.env) :: starEach [] X.env := by rfl) (hpl : (backTo p2 (starEach [] X.env)).any (·.1) = false := by rfl)
    (he2 : starEach [.Call (.Name "set" ps) [e] [] p2] X.env = (false, eval (.Call (.Name "set" ps) [e] [] p2) X.env) :: starEach [] X.env := by rfl) (hpl2 : (backTo pos (starEach [] X.env)).any (·.1) = false := by rfl) :
    DF X W (.Call (.Name "sorted" pf) [.Call (.Name "set" ps) [e] [] p2] [] pos) (xCallF sortSetF fs) := by
  obtain ⟨t, pt, qt⟩ := h.ex
  refine ⟨⟨_, pe_callB (cr_sortedSet hc) hg hm (by decide +kernel) (pa_cons (pe_callTy (cr_setI hc) hg2 hm2 (by decide +kernel) pt (by decide) (by decide) he hpl) pa_nil he2) (by decide) (by decide) he2 hpl2, fun ph am σ H δ Q ans δ' s z k kx => ?_⟩⟩
  rcases bnd_some z with ⟨xs, δ1, e1, e2⟩ | ⟨c, fs, e1, e2⟩
  · refine qt ph am σ H δ _ _ _ s e1 (fun d' ed am1 us H1 st1 s1 dv => ?_) (fun c fs z => by cases z)
    cases ed
    obtain ⟨rs, e3, rfl, rfl⟩ := lif_some e2
    cases dv with
    | nil => cases e3
    | cons g t =>
      cases t with
      | cons _ _ => cases g <;> cases e3
      | nil =>
        cases g with
        | lst h1 a1 =>
          unfold sortSetF at e3
          simp only at e3
          split at e3
          · rename_i ns e4
            obtain ⟨hz, rfl⟩ := if_some e3
            have ev := intsOf_q a1 e4
            subst ev
            refine ⟨_, ns, rfl, rd_hid h1, hz, fun a c na hle => ?_⟩
            have sm : Same H1 (upd H1 a (SetO X.w a (fun j => decide (j ∈ ns)) c)) := same_new na
            refine ⟨a, _, c, rfl, upd_same, by omega, fun ms p hs hms hl np => ?_⟩
            have em : ms = setI ns := lt_unique hs (setI_sorted ns) fun y => by rw [hms y, setI_mem]; simp
            subst em
            have st := st1.trans (Step.of (am := am1) sm)
            exact k _ rfl am1 p _ _ (st.none np) np st (s1.same sm) (ints_q _) (by rw [List.length_map, sizeLine_eq]; have := setI_length ns; omega)
          · cases e3
        | _ => cases e3
  · subst e2
    exact qt ph am σ H δ _ _ _ s e1 (fun d ed => by cases ed) (fun c' fs' z => by cases z; exact kx _ _ rfl)
/-! ### x, y = e, a new list that y is to own -/
def sPar2E (f : M PyData) (fs : M (List PyData)) (i j : Nat) : MS := bnd f fun d => bnd fs fun ds => fun δ => match sName i d δ with
  | some δ1 => (match δ1[j]? with
    | some c => if c.free = true then some (.ok .nx, δ1.set j (.ow false ds)) else none
    | none => none)
  | none => none
theorem ds_par2E {e1 e2 : Expr} {f : M PyData} {i : Nat} {x y : Str} {px py pt : Pos} {kt k2 pt2} (hc : X.calm = true) (hN : X.N.Nodup) (he1 : DE X W e1 f) (he2 : DF X W e2 fs) (hi : X.N[i]? = some x := by rfl) {j : Nat} (hj : X.N[j]? = some y := by rfl) (hij : i ≠ j := by decide)
    (hx : X.env.scope.names.lookup x = some .local := by rfl) (hy : X.env.scope.names.lookup y = some .local := by rfl)
    (hw : swappedStores [.Tuple [.Name x px, .Name y py] kt pt] (.Tuple [e1, e2] k2 pt2) X.env = pure (some [x, y]) := by rfl)
    (hs : swapsWithSole [.Tuple [.Name x px, .Name y py] kt pt] (.Tuple [e1, e2] k2 pt2) pos.line X.env = pure false := by rfl)
    (hs1 : starEach [e1, e2] X.env = (false, eval e1 X.env) :: starEach [e2] X.env := by rfl) (hs2 : starEach [e2] X.env = (false, eval e2 X.env) :: starEach [] X.env := by rfl) : DS X W (.Assign [.Tuple [.Name x px, .Name y py] kt pt] (.Tuple [e1, e2] k2 pt2) pos) (sPar2E f fs i j) := by
  obtain ⟨t1, p1, q1⟩ := he1.ex
  obtain ⟨t2, p2, q2⟩ := he2.ex
  refine ⟨⟨_, ps_par hc hN hi hj hij hx hy (pa_cons p1 (pa_cons p2 pa_nil hs2) hs1) hw hs, fun ph am σ H δ D ans δ' s z k kx => ?_⟩⟩
  rcases bnd_some z with ⟨d, δ1, e1, e2⟩ | ⟨c, fs, e1, e2⟩
  · refine q1 ph am σ H δ _ _ _ s e1 (fun d' ed am1 v H1 st1 s1 dv => ?_) (fun c fs z => by cases z)
    cases ed
    rcases bnd_some e2 with ⟨ds, δ2, e3, e4⟩ | ⟨c, fs, e3, e4⟩
    · refine q2 ph am1 σ H1 δ1 _ _ _ s1 e3 (fun d' ed am2 p vs H2 n0 n1 st2 s2 dvs hz => ?_) (fun c fs z => by cases z)
      cases ed
      split at e4
      · rename_i δ3 n3
        obtain ⟨c1, f1, f2, rfl⟩ := sName_some n3
        split at e4
        · rename_i c e5
          obtain ⟨h1, e6⟩ := if_some e4
          cases e6
          have s3 := s2.put f1 f2 (dp_mono st2.hid dv)
          have st3 : Step am2 H2 (amDrop am2 i) H2 := step_drop
          have s4 := s3.putOwn e5 h1 n1 (dps_mono st3.hid dvs) hz
          exact ⟨_, _, rfl, k _ rfl _ _ _ (((st1.trans st2).trans st3).trans (step_put n1)) s4⟩
        · cases e4
      · cases e4
    · subst e4
      exact q2 ph am1 σ H1 δ1 _ _ _ s1 e3 (fun d ed => by cases ed) (fun c' fs' z => by cases z; exact ((kx _ _ rfl).step st1).at)
  · subst e2
    exact q1 ph am σ H δ _ _ _ s e1 (fun d ed => by cases ed) (fun c' fs' z => by cases z; exact (kx _ _ rfl).at)
end PD
end

section
set_option Elab.async false
set_option linter.all false
set_option maxRecDepth 100000
set_option maxHeartbeats 2000000
namespace PD
open PySem PySem.Spec PyProof.Rows L2
variable {X : Cx} {W : WX} {pos : Pos} {e e1 e2 e3 : Expr} {es : List Expr} {f g h : M PyData} {fs : M (List PyData)} {fb gb : M Bool}
variable {K : PySem.W.Frag} {ph : Fx} {am am' am1 : Am} {H H' H1 : Hp} {σ σ' : L2.St} {δ δ' δ1 : Sg} {a p p1 p2 D : Addr} {v : V} {vs : List V} {d : PyData} {ds : List PyData} {i : Nat}

/-! ### [e for x in xs if t for y in ys if s] -/
theorem walk_it {J : It} {n : Nat} {G : Hp → Prop} {Y : Nat → Hp → V → Hp → Prop} (w : Walk J n G Y) {H0 : Hp} {Qd : Hp → Prop} (B : (Hp → Prop) → V → Hp → Prop) (Pv : Nat → Hp → Prop) (h0 : Pv 0 H0) (hG : ∀ i H, i ≤ n → Pv i H → G H)
    (hs : ∀ i x H H', i < n → Pv i H → Y i H x H' → B (Pv (i + 1)) x H') (hd : ∀ H, Pv n H → Qd H) :
    ∃ W : Nat → Nat → Hp → Prop, (∃ m, W 0 m H0) ∧ ∀ i m H, W i m H → (J.stop i H ∧ Qd H) ∨ (J.go i H ∧ ∃ Nx : Hp → Prop, (∀ H', Nx H' → ∃ m', m' < m ∧ W (i + 1) m' H') ∧ ∀ x H', J.yld i H x H' → B Nx x H') := by
  refine ⟨fun i m H => m = n - i ∧ i ≤ n ∧ Pv i H, ⟨n, by simp, Nat.zero_le _, h0⟩, ?_⟩
  rintro i m H ⟨rfl, hi, p⟩
  have q := hG i H hi p
  by_cases hlt : i < n
  · refine .inr ⟨w.goes i H hlt q, Pv (i + 1), fun H' p' => ⟨n - (i + 1), by omega, rfl, hlt, p'⟩, fun x H' y => hs i x H H' hlt p (w.yields i H x H' hlt q y)⟩
  · have e : i = n := by omega
    subst e
    exact .inl ⟨w.stops H q, hd H p⟩
def tiOf (K : PySem.W.Frag) (mg : Str → Option Value) (W : WX) (f : M (List PyData)) : TI := fun σ H R => ∃ ph am δ ans δ', SR K ph am σ H δ ∧ f δ = some (ans, δ') ∧
  (∀ ds, ans = .ok ds → ∀ am' H' J, Step am H am' H' → SR K ph am' σ H' δ' → WalkD K ph am' H' J ds → R J H') ∧ (∀ c fs, ans = .ex c fs → XPm K mg W ph am σ H δ' c fs)
theorem DI.can {tg iter : Expr} (d : DI X W tg iter fs) : PI X tg iter (tiOf X.K X.mg W fs) := by
  obtain ⟨t, p, q⟩ := d.ex
  exact ⟨fun pins s σ H R I ⟨ph, am, δ, ans, δ', s1, e, k, kx⟩ => p.run pins s σ H R I (q ph am σ H δ R ans δ' s1 e k kx)⟩
def comp2D (is vs1 : List Nat) (set : Tg) (t : M Bool) (it1 : M (List PyData)) (set1 : Tg) (t1 : M Bool) (el : M PyData) : List PyData → List PyData → Sg → Option (List PyData × Sg)
  | [], acc, δ => some (acc, δ)
  | d :: ds, acc, δ => match set d δ with
    | none => none
    | some δ1 => match t δ1 with
      | some (.ok true, δ2) => match it1 δ2 with
        | some (.ok ds1, δ3) => if noOw δ3 vs1 = true then match compD vs1 set1 t1 el ds1 acc (wipeD δ3 vs1) with
            | some (acc', δ4) => if noOw δ4 is = true then comp2D is vs1 set t it1 set1 t1 el ds acc' (wipeD δ4 is) else none
            | none => none
          else none
        | _ => none
      | some (.ok false, δ2) => if noOw δ2 is = true then comp2D is vs1 set t it1 set1 t1 el ds acc (wipeD δ2 is) else none
      | _ => none
def xComp2 (it : M (List PyData)) (is vs1 : List Nat) (set : Tg) (t : M Bool) (it1 : M (List PyData)) (set1 : Tg) (t1 : M Bool) (el : M PyData) : M (List PyData) := bnd it fun ds => fun δ =>
  if noOw δ is = true then match comp2D is vs1 set t it1 set1 t1 el ds [] (wipeD δ is) with
    | some (acc, δ') => some (.ok acc, backD δ δ' is)
    | none => none
  else none
theorem wipe_sub {is vs1 : List Nat} (hv : ∀ i ∈ vs1, i ∈ is) : L2.wipe (L2.wipe σ vs1) is = L2.wipe σ is := by
  apply List.ext_getElem?
  intro j
  have h1 := wipe_get (is := is) (σ := L2.wipe σ vs1) (j := j)
  have h2 := wipe_get (is := is) (σ := σ) (j := j)
  have h3 := wipe_get (is := vs1) (σ := σ) (j := j)
  rw [h1, h2, h3]
  by_cases hj : j ∈ is
  · rw [if_pos hj, if_pos hj]
    split <;> cases σ[j]? <;> rfl
  · rw [if_neg hj, if_neg hj, if_neg fun z => hj (hv j z)]
theorem comp2_read {ti : TI} {is vs1 : List Nat} {set set1 : Tg} {t t1 : M Bool} {it1 : M (List PyData)} {el : M PyData} (hv : ∀ i ∈ vs1, i ∈ is) (qi : ReadI X W ti fs) :
    ReadF X W (tLc2 ti (tgcOf X.K is set) (ttOf X.K X.mg E00 t) (tiOf X.K X.mg E00 it1) (tgcOf X.K vs1 set1) (ttOf X.K X.mg E00 t1) (tOf X.K X.mg E00 el) is vs1) (xComp2 fs is vs1 set t it1 set1 t1 el) := by
  intro ph am σ H δ Q ans δ' s z k kx
  rcases bnd_some z with ⟨ds, δ1, e1, e2⟩ | ⟨c, fs, e1, e2⟩
  · refine qi ph am σ H δ _ _ _ s e1 (fun d' ed am1 H1 J st1 s1 wd => ?_) (fun c fs z => by cases z)
    cases ed
    split at e2
    · rename_i hno
      split at e2
      · rename_i acc δ2 ec
        cases e2
        intro D hD
        obtain ⟨G, Y, w, hG, hY⟩ := wd
        have nD : ¬ ph.ph D := fun z => by
          obtain ⟨o, h, _⟩ := s1.phs D z
          rw [hD] at h
          cases h
        refine walk_it w _ (fun i H' => ∃ am2 δ3 av ad, Step am1 H1 am2 (del D H') ∧ SR X.K ph am2 (L2.wipe σ is) (del D H') δ3 ∧ H' D = some (.lst av) ∧ DqAll X.K (hid ph am2 (del D H')) av ad ∧ av.length ≤ sizeLine ∧ (∀ i ∈ is, ∀ c, δ3[i]? = some c → c = .un) ∧ comp2D is vs1 set t it1 set1 t1 el (ds.drop i) ad δ3 = some (acc, δ2)) ?_ (fun i H' _ ⟨am2, δ3, av, ad, st, s2, hl, dq, hz, hu, el⟩ => hG (ph.also D) am2 H' (by rw [hid_also]; exact st.hid)) (fun i x H2 H3 hi ⟨am2, δ3, av, ad, st, s2, hl, dq, hz, hu, ee⟩ y => ?_) (fun H' ⟨am2, δ3, av, ad, st, s2, hl, dq, hz, hu, ee⟩ => ?_)
        · rw [del_new hD]
          exact ⟨am1, wipeD δ1 is, [], [], Step.refl, s1.wipe hno, upd_same, .nil, Nat.zero_le _, fun i hi c q => wipeD_in hi q, ec⟩
        · have sA : SR X.K (ph.also D) am2 (L2.wipe σ is) H2 δ3 := s2.also hl
          obtain ⟨d, hd, sm, dqx⟩ := hY i x H2 H3 (ph.also D) am2 hi (by rw [hid_also]; exact st.hid) (fun b h => sA.hidden h) y
          have hdr : ds.drop i = d :: ds.drop (i + 1) := by
            obtain ⟨h1, h2⟩ := List.getElem?_eq_some_iff.mp hd
            rw [List.drop_eq_getElem_cons h1, h2]
          rw [hdr] at ee
          unfold comp2D at ee
          split at ee
          · cases ee
          · rename_i δ4 es
            refine ⟨ph.also D, am2, δ3, δ4, d, sA.same sm, dqx, es, fun am4 σ4 st4 s4 w4 => ?_⟩
            rw [wipe_wipe] at w4
            -- the state at the start of a turn of the outer walk
            have fin : ∀ {am6 : Am} {H6 : Hp} {δ6 : Sg} {av6 : List V} {ad6 : List PyData}, Step am2 (del D H2) am6 (del D H6) → SR X.K ph am6 (L2.wipe σ is) (del D H6) δ6 → H6 D = some (.lst av6) → DqAll X.K (hid ph am6 (del D H6)) av6 ad6 → av6.length ≤ sizeLine → (∀ i ∈ is, ∀ c, δ6[i]? = some c → c = .un) →
                comp2D is vs1 set t it1 set1 t1 el (ds.drop (i + 1)) ad6 δ6 = some (acc, δ2) →
                ∃ am2 δ3 av ad, Step am1 H1 am2 (del D H6) ∧ SR X.K ph am2 (L2.wipe σ is) (del D H6) δ3 ∧ H6 D = some (.lst av) ∧ DqAll X.K (hid ph am2 (del D H6)) av ad ∧ av.length ≤ sizeLine ∧ (∀ i ∈ is, ∀ c, δ3[i]? = some c → c = .un) ∧ comp2D is vs1 set t it1 set1 t1 el (ds.drop (i + 1)) ad δ3 = some (acc, δ2) :=
              fun {am6 H6 δ6 av6 ad6} a1 a2 a3 a4 a5 a6 a7 => ⟨am6, δ6, av6, ad6, st.trans a1, a2, a3, a4, a5, a6, a7⟩
            refine ⟨w4, ?_⟩
            split at ee
            · rename_i δ5 et
              split at ee
              · rename_i ds1 δ6 ei
                split at ee
                · rename_i no6
                  split at ee
                  · rename_i acc' δ9 e9
                    split at ee
                    · rename_i no9
                      refine ⟨ph.also D, am4, δ4, _, δ5, s4, et, fun b eb am5 H5 st5 s5 => ?_, fun c fs z => by cases z⟩
                      cases eb
                      refine iteT ⟨ph.also D, am5, δ5, _, δ6, s5, ei, fun d1 ed1 am6 H6 J1 st6 s6 wd1 => ?_, fun c fs z => by cases z⟩
                      cases ed1
                      obtain ⟨G1, Y1, w1, hG1, hY1⟩ := wd1
                      have stT : Step am2 H2 am6 H6 := ((Step.of sm).trans st4).trans (st5.trans st6)
                      have hD6 : ∀ i, am6 i ≠ some D := fun i e => (s6.amf i D e).1 (.inr rfl)
                      have hl6 : H6 D = some (.lst av) := stT.keep D _ hl fun i e => (sA.amf i D e).1 (.inr rfl)
                      refine walk_it w1 _ (fun j H' => ∃ am7 δ7 av2 ad2, Step am6 (del D H6) am7 (del D H') ∧ SR X.K ph am7 (L2.wipe σ4 vs1) (del D H') δ7 ∧ H' D = some (.lst av2) ∧ DqAll X.K (hid ph am7 (del D H')) av2 ad2 ∧ av2.length ≤ sizeLine ∧ (∀ i ∈ vs1, ∀ c, δ7[i]? = some c → c = .un) ∧ compD vs1 set1 t1 el (ds1.drop j) ad2 δ7 = some (acc', δ9))
                        ?_ (fun j H' _ ⟨am7, δ7, av2, ad2, st7, s7, hl7, dq7, hz7, hu7, el7⟩ => hG1 (ph.also D) am7 H' (by rw [hid_also, hid_also]; exact st7.hid)) (fun j x1 H7 H8 hj ⟨am7, δ7, av2, ad2, st7, s7, hl7, dq7, hz7, hu7, ee7⟩ y1 => ?_) (fun H' ⟨am7, δ7, av2, ad2, st7, s7, hl7, dq7, hz7, hu7, ee7⟩ => ?_)
                      · refine ⟨am6, wipeD δ6 vs1, av, ad, Step.refl, (s6.wipe no6).unalso nD, hl6, dps_mono (stT.del hD6).hid dq, hz, fun i hi c q => wipeD_in hi q, e9⟩
                      · have sB : SR X.K (ph.also D) am7 (L2.wipe σ4 vs1) H7 δ7 := s7.also hl7
                        obtain ⟨d1, hd1, sm1, dqx1⟩ := hY1 j x1 H7 H8 (ph.also D) am7 hj (by rw [hid_also, hid_also]; exact st7.hid) (fun b h => sB.hidden h) y1
                        have hdr1 : ds1.drop j = d1 :: ds1.drop (j + 1) := by
                          obtain ⟨h1, h2⟩ := List.getElem?_eq_some_iff.mp hd1
                          rw [List.drop_eq_getElem_cons h1, h2]
                        rw [hdr1] at ee7
                        unfold compD at ee7
                        split at ee7
                        · cases ee7
                        · rename_i δa ea
                          refine ⟨ph.also D, am7, δ7, δa, d1, sB.same sm1, dqx1, ea, fun ama σa sta sa wa => ?_⟩
                          rw [wipe_wipe] at wa
                          have fin1 : ∀ {amb : Am} {Hb : Hp} {δb : Sg} {ov : List V} {od : List PyData}, Step ama H8 amb Hb → SR X.K (ph.also D) amb σa Hb δb → noOw δb vs1 = true → DqAll X.K (hid (ph.also D) amb Hb) ov od → (av2 ++ ov).length ≤ sizeLine →
                              compD vs1 set1 t1 el (ds1.drop (j + 1)) (ad2 ++ od) (wipeD δb vs1) = some (acc', δ9) → Hb D = some (.lst av2) ∧ ∀ Hc, Hc D = some (.lst (av2 ++ ov)) → del D Hc = del D Hb →
                              ∃ am7 δ7 av2 ad2, Step am6 (del D H6) am7 (del D Hc) ∧ SR X.K ph am7 (L2.wipe σ4 vs1) (del D Hc) δ7 ∧ Hc D = some (.lst av2) ∧ DqAll X.K (hid ph am7 (del D Hc)) av2 ad2 ∧ av2.length ≤ sizeLine ∧ (∀ i ∈ vs1, ∀ c, δ7[i]? = some c → c = .un) ∧ compD vs1 set1 t1 el (ds1.drop (j + 1)) ad2 δ7 = some (acc', δ9) := by
                            intro amb Hb δb ov od stb sb nob dvb hzb eb
                            have stU : Step am7 H7 amb Hb := ((Step.of sm1).trans sta).trans stb
                            have hDb : ∀ i, amb i ≠ some D := fun i e => (sb.amf i D e).1 (.inr rfl)
                            refine ⟨stU.keep D _ hl7 fun i e => (sB.amf i D e).1 (.inr rfl), fun Hc h7 e7 => ?_⟩
                            rw [e7]
                            refine ⟨amb, wipeD δb vs1, av2 ++ ov, ad2 ++ od, st7.trans (stU.del hDb), ?_, h7, ?_, hzb, fun i hi c q => wipeD_in hi q, eb⟩
                            · have := (sb.wipe nob).unalso nD
                              rw [wa] at this
                              exact this
                            · rw [hid_also] at dvb
                              exact (dps_mono (stU.del hDb).hid dq7).append dvb
                          refine ⟨wa, ?_⟩
                          split at ee7
                          · rename_i δb etb
                            split at ee7
                            · rename_i yy δc ey
                              split at ee7
                              · rename_i hc
                                refine ⟨ph.also D, ama, δa, _, δb, sa, etb, fun b eb amb Hb stb sb => ?_, fun c fs z => by cases z⟩
                                cases eb
                                refine iteT ⟨ph.also D, amb, δb, _, δc, sb, ey, fun d ed amc v Hc stc sc dc => ?_, fun c fs z => by cases z⟩
                                cases ed
                                have hl2 : av2.length < sizeLine := by rw [dq7.length]; exact hc.1
                                obtain ⟨g1, g2⟩ := fin1 (stb.trans stc) sc hc.2 (.cons dc .nil) (by rw [List.length_append]; exact hl2) ee7
                                exact ⟨av2, g1, hl2, g2 _ upd_same del_upd⟩
                              · cases ee7
                            · cases ee7
                          · rename_i δb etb
                            split at ee7
                            · rename_i hc
                              refine ⟨ph.also D, ama, δa, _, δb, sa, etb, fun b eb amb Hb stb sb => ?_, fun c fs z => by cases z⟩
                              cases eb
                              refine iteF ?_
                              obtain ⟨g1, g2⟩ := fin1 (ov := []) (od := []) stb sb hc .nil (by rw [List.append_nil]; exact hz7) (by rw [List.append_nil]; exact ee7)
                              exact g2 Hb (by rw [List.append_nil]; exact g1) rfl
                            · cases ee7
                          · cases ee7
                      · rw [List.drop_length] at ee7
                        cases ee7
                        refine fin ((stT.del hD6).trans st7) ?_ hl7 dq7 hz7 (fun i hi c q => wipeD_in hi q) ee
                        have := s7.wipe no9
                        rw [wipe_sub hv, w4] at this
                        exact this
                    · cases ee
                  · cases ee
                · cases ee
              · cases ee
            · rename_i δ5 et
              split at ee
              · rename_i hc
                refine ⟨ph.also D, am4, δ4, _, δ5, s4, et, fun b eb am5 H5 st5 s5 => ?_, fun c fs z => by cases z⟩
                cases eb
                refine iteF ?_
                have stT : Step am2 H2 am5 H5 := ((Step.of sm).trans st4).trans st5
                have hD5 : ∀ i, am5 i ≠ some D := fun i e => (s5.amf i D e).1 (.inr rfl)
                refine fin (stT.del hD5) ?_ (stT.keep D _ hl fun i e => (sA.amf i D e).1 (.inr rfl)) (dps_mono (stT.del hD5).hid dq) hz (fun i hi c q => wipeD_in hi q) ee
                have := (s5.wipe hc).unalso nD
                rw [w4] at this
                exact this
              · cases ee
            · cases ee
        · rw [List.drop_length] at ee
          cases ee
          have := k _ rfl am2 D av (del D H') (st1.none hD) del_same (st1.trans st) (SR.back s1 st hno s2 hu) dq hz
          rw [upd_del hl] at this
          exact this
      · cases e2
    · cases e2
  · subst e2
    exact qi ph am σ H δ _ _ _ s e1 (fun d ed => by cases ed) (fun c' fs' z => by cases z; exact kx _ _ rfl)
theorem df_lc2 {elt tg iter tg1 iter1 : Expr} {ifs ifs1 : List Expr} {scope : Scope} {own : List (Str × Nat)} {vs1 : List Nat} {set set1 : Tg} {t t1 : M Bool} {it1 : M (List PyData)} {el : M PyData} (hc : X.calm = true) (hN : X.N.Nodup) (hi : DI X W tg iter fs) (ok : BlkOk X.N X.env.scope scope own) (hv : ∀ i ∈ vs1, i ∈ own.map (·.2))
    (hg : ∀ (s : Shared) (H : Hp) (C : Addr) (cl : List (Str × Addr)) (fp : List Addr), DGc (Blk X scope s H C cl fp) tg (own.map (·.2)) set) (ht : ∀ (s : Shared) (H : Hp) (C : Addr) (cl : List (Str × Addr)) (fp : List Addr), DTs (Blk X scope s H C cl fp) E00 ifs t)
    (hi1 : ∀ (s : Shared) (H : Hp) (C : Addr) (cl : List (Str × Addr)) (fp : List Addr), DI (Blk X scope s H C cl fp) E00 tg1 iter1 it1)
    (hg1 : ∀ (s : Shared) (H : Hp) (C : Addr) (cl : List (Str × Addr)) (fp : List Addr), DGc (Blk X scope s H C cl fp) tg1 vs1 set1) (ht1 : ∀ (s : Shared) (H : Hp) (C : Addr) (cl : List (Str × Addr)) (fp : List Addr), DTs (Blk X scope s H C cl fp) E00 ifs1 t1)
    (he : ∀ (s : Shared) (H : Hp) (C : Addr) (cl : List (Str × Addr)) (fp : List Addr), DE (Blk X scope s H C cl fp) E00 elt el) (hs : ∀ x, foldedSetIterable iter X.env x = pure x := by intro _; rfl) (hs1 : ∀ env x, foldedSetIterable iter1 env x = pure x := by intro _ _; rfl) :
    DF X W (.ListComp elt [⟨tg, iter, ifs, 0⟩, ⟨tg1, iter1, ifs1, 0⟩] scope pos) (xComp2 fs (own.map (·.2)) vs1 set t it1 set1 t1 el) := by
  obtain ⟨ti, pi, qi⟩ := hi.ex
  exact ⟨⟨_, pe_lc2 hc hN pi ok hv (fun s H C cl fp => (hg s H C cl fp).can) (fun s H C cl fp => (ht s H C cl fp).can) (fun s H C cl fp => (hi1 s H C cl fp).can) (fun s H C cl fp => (hg1 s H C cl fp).can) (fun s H C cl fp => (ht1 s H C cl fp).can) (fun s H C cl fp => (he s H C cl fp).can) hs hs1, comp2_read hv qi⟩⟩
theorem ds_setLc2F {i : Nat} {y : Str} {py spos : Pos} {elt tg iter tg1 iter1 : Expr} {ifs ifs1 : List Expr} {scope : Scope} {own : List (Str × Nat)} {vs1 : List Nat} {set set1 : Tg} {t t1 : M Bool} {it1 : M (List PyData)} {el : M PyData} (hc : X.calm = true) (hN : X.N.Nodup) (hi : DI X W tg iter fs) (ok : BlkOk X.N X.env.scope scope own) (hv : ∀ i ∈ vs1, i ∈ own.map (·.2))
    (hg : ∀ (s : Shared) (H : Hp) (C : Addr) (cl : List (Str × Addr)) (fp : List Addr), DGc (Blk X scope s H C cl fp) tg (own.map (·.2)) set) (ht : ∀ (s : Shared) (H : Hp) (C : Addr) (cl : List (Str × Addr)) (fp : List Addr), DTs (Blk X scope s H C cl fp) E00 ifs t)
    (hi1 : ∀ (s : Shared) (H : Hp) (C : Addr) (cl : List (Str × Addr)) (fp : List Addr), DI (Blk X scope s H C cl fp) E00 tg1 iter1 it1)
    (hg1 : ∀ (s : Shared) (H : Hp) (C : Addr) (cl : List (Str × Addr)) (fp : List Addr), DGc (Blk X scope s H C cl fp) tg1 vs1 set1) (ht1 : ∀ (s : Shared) (H : Hp) (C : Addr) (cl : List (Str × Addr)) (fp : List Addr), DTs (Blk X scope s H C cl fp) E00 ifs1 t1)
    (he : ∀ (s : Shared) (H : Hp) (C : Addr) (cl : List (Str × Addr)) (fp : List Addr), DE (Blk X scope s H C cl fp) E00 elt el)
    (hsw : swapsWith (.ListComp elt [⟨tg, iter, ifs, 0⟩, ⟨tg1, iter1, ifs1, 0⟩] scope pos) (some (.Name y py)) spos.line X.env = pure true)
    (hy : X.N[i]? = some y := by rfl) (hyl : X.env.scope.names.lookup y = some .local := by rfl) (hs : ∀ x, foldedSetIterable iter X.env x = pure x := by intro _; rfl) (hs1 : ∀ env x, foldedSetIterable iter1 env x = pure x := by intro _ _; rfl) :
    DS X W (.Assign [.Name y py] (.ListComp elt [⟨tg, iter, ifs, 0⟩, ⟨tg1, iter1, ifs1, 0⟩] scope pos) spos) (sAsg (bnd (xComp2 fs (own.map (·.2)) vs1 set t it1 set1 t1 el) fun ds => ret (.list ds)) (sName i)) := by
  obtain ⟨ti, pi, qi⟩ := hi.ex
  exact ⟨⟨_, ps_setLc2 hc hN hy hyl hsw pi ok hv (fun s H C cl fp => (hg s H C cl fp).can) (fun s H C cl fp => (ht s H C cl fp).can) (fun s H C cl fp => (hi1 s H C cl fp).can) (fun s H C cl fp => (hg1 s H C cl fp).can) (fun s H C cl fp => (ht1 s H C cl fp).can) (fun s H C cl fp => (he s H C cl fp).can) hs hs1, setf_read (comp2_read hv qi)⟩⟩
end PD
end

section
set_option Elab.async false
set_option linter.all false
set_option maxRecDepth 100000
set_option maxHeartbeats 2000000
namespace PD
open PySem PySem.Spec PyProof.Rows L2
variable {X : Cx} {W : WX} {pos : Pos} {e e1 e2 e3 : Expr} {es : List Expr} {f g h : M PyData} {fs : M (List PyData)} {fb gb : M Bool}
variable {K : PySem.W.Frag} {ph : Fx} {am am' am1 : Am} {H H' H1 : Hp} {σ σ' : L2.St} {δ δ' δ1 : Sg} {a p p1 p2 D : Addr} {v : V} {vs : List V} {d : PyData} {ds : List PyData} {i : Nat}

/-! ### a star in a display -/
theorem da_star {sp : Pos} (h : DE X W e f) (t : DA X W es fs) (hs : starEach (.Starred e sp :: es) X.env = (true, eval e X.env) :: starEach es X.env := by rfl) :
    DA X W (.Starred e sp :: es) (bnd f fun d => bnd (lif (seqD d)) fun xs => bnd fs fun ds => ret (xs ++ ds)) := by
  obtain ⟨ta, pa, qa⟩ := h.ex
  obtain ⟨tb, pb, qb⟩ := t.ex
  refine ⟨⟨_, StX.pa_star pa pb hs, fun ph am σ H δ Q ans δ' s q k kx => ?_⟩⟩
  rcases bnd_some q with ⟨a, δ1, e1, q1⟩ | ⟨c, fs, e1, q1⟩
  · refine qa ph am σ H δ _ _ _ s e1 (fun d ed am1 x H1 st1 s1 d1 => ?_) (fun c fs z => by cases z)
    cases ed
    rcases bnd_some q1 with ⟨xs, δ0, e0, q2⟩ | ⟨c, fs, e0, q2⟩
    · obtain ⟨ys, e4, e5, rfl⟩ := lif_some e0
      cases e5
      obtain ⟨kk, pp, us, rfl, hq, hdq⟩ := seq_rd d1 e4
      refine ⟨pp, us, rfl, ?_, ?_⟩
      · cases kk with
        | true => exact .inr (by rcases hq with (hq | ⟨o, hq⟩) | hq
                                 · exact .inl (.inl (hid_sub _ _ hq))
                                 · exact .inl (.inr ⟨o, hid_sub _ _ hq⟩)
                                 · exact .inr hq)
        | false => exact .inl (by rcases hq with (hq | ⟨o, hq⟩) | hq
                                  · exact .inl (.inl (hid_sub _ _ hq))
                                  · exact .inl (.inr ⟨o, hid_sub _ _ hq⟩)
                                  · exact .inr hq)
      · rcases bnd_some q2 with ⟨b, δ2, e2, q3⟩ | ⟨c, fs, e2, q3⟩
        · cases q3
          refine qb ph am1 σ H1 _ _ _ _ s1 e2 (fun d ed am2 y H2 st2 s2 d2 => ?_) (fun c fs z => by cases z)
          cases ed
          exact k _ rfl am2 _ H2 (st1.trans st2) s2 ((dps_mono st2.hid hdq).append d2)
        · subst q3
          exact qb ph am1 σ H1 _ _ _ _ s1 e2 (fun d ed => by cases ed) (fun c' fs' z => by cases z; exact (kx _ _ rfl).step st1)
    · unfold lif at e0
      split at e0 <;> cases e0
  · subst q1
    exact qa ph am σ H δ _ _ _ s e1 (fun d ed => by cases ed) (fun c' fs' z => by cases z; exact kx _ _ rfl)

/-! ### x op= e, x a name -/
def sAug (F : PyData → PyData → Option PyData) (i : Nat) (f : M PyData) : MS := fun δ => match δ[i]? with
  | some (.fz x) => (bnd f fun y => bnd (lif (F x y)) fun z => fun δ1 => match sName i z δ1 with
    | some δ2 => some (.ok .nx, δ2)
    | none => none) δ
  | _ => none
theorem ds_aug {op : Operator} {r : R2} {F : PyData → PyData → Option PyData} {x : Str} {pn : Pos} (hr : OpD X r F) (ho : OpR X (inplaceOp op) r) (hN : X.N.Nodup) (he : DE X W e f) (hi : X.N[i]? = some x := by rfl) (hx : Loc X.env.scope x := by first | exact Or.inl rfl | exact Or.inr rfl)
    (hf : X.fn x = true ∨ X.env.scope.names.lookup x = some .local := by first | exact .inl rfl | exact .inr rfl) : DS X W (.AugAssign (.Name x pn) op e pos) (sAug F i f) := by
  obtain ⟨t, pt, q1⟩ := he.ex
  refine ⟨⟨_, ps_aug hN hi hx pt (ti := r) ho hf, fun ph am σ H δ D ans δ' sr z k kx => ?_⟩⟩
  unfold sAug at z
  split at z
  · rename_i x0 e0
    obtain ⟨v0, h1, h2⟩ := sr.fz i x0 e0
    refine ⟨v0, h1, ?_⟩
    rcases bnd_some z with ⟨y, δ1, e1, z1⟩ | ⟨c, fs, e1, z1⟩
    · refine q1 ph am σ H δ _ _ _ sr e1 (fun d ed am1 w H1 st1 s1 d1 => ?_) (fun c fs z => by cases z)
      cases ed
      rcases bnd_some z1 with ⟨zz, δ3, e3, z2⟩ | ⟨c, fs, e3, z2⟩
      · obtain ⟨z3, e4, e5, rfl⟩ := lif_some e3
        cases e5
        refine hr ph am1 H1 v0 w x0 y _ _ (fun b h => s1.hidden h) (dp_mono st1.hid h2) d1 e4 fun v H2 sm dv => ?_
        split at z2
        · rename_i δ4 e6
          cases z2
          obtain ⟨c, e7, e8, rfl⟩ := sName_some e6
          have st2 := st1.trans (Step.of (am := am1) sm)
          exact k _ rfl _ _ _ (st2.trans step_drop) ((s1.same sm).put e7 e8 dv)
        · cases z2
      · unfold lif at e3
        split at e3 <;> cases e3
    · subst z1
      exact q1 ph am σ H δ _ _ _ sr e1 (fun d ed => by cases ed) (fun c' fs' z => by cases z; exact (kx _ _ rfl).at)
  · cases z
theorem iop_addI : OpR X (inplaceOp .Add) (ipI fun i j => i + j) := ip_add
theorem iop_subI : OpR X (inplaceOp .Sub) (ipI fun i j => i - j) := ip_sub
def ipMul : R2 := fun x y H Q => ∃ i j, x = .int i ∧ y = .int j ∧ mulOk i j = true ∧ Q (.int (i * j)) H
theorem iop_mulI : OpR X (inplaceOp .Mult) ipMul := by
  intro pins s σ H x y v u Q I r1 r2 h
  obtain ⟨i, j, e1, e2, hm, q⟩ := h
  subst e1; subst e2
  obtain ⟨t, rfl⟩ := r1
  obtain ⟨t', rfl⟩ := r2
  have hc : CMul i j := by
    unfold mulOk small64 at hm
    simp only [Bool.or_eq_true, Bool.and_eq_true, decide_eq_true_eq] at hm
    exact hm
  exact imul_int ⟨.int _, H, I.tok _, ⟨_, rfl⟩, q⟩ hc.ok
def addII : PyData → PyData → Option PyData := intsD fun i j => some (.int (i + j))
def subII : PyData → PyData → Option PyData := intsD fun i j => some (.int (i - j))
theorem opd_addII : OpD X (ipI fun i j => i + j) addII := by
  intro ph am H x y d e c Q hn dx dy q k
  unfold addII intsD at q
  split at q
  · cases dx; cases dy; cases q
    exact ⟨_, _, rfl, rfl, k _ H (Same.refl H) (.int _)⟩
  · cases q
theorem opd_subII : OpD X (ipI fun i j => i - j) subII := by
  intro ph am H x y d e c Q hn dx dy q k
  unfold subII intsD at q
  split at q
  · cases dx; cases dy; cases q
    exact ⟨_, _, rfl, rfl, k _ H (Same.refl H) (.int _)⟩
  · cases q
theorem opd_mulII : OpD X ipMul mulI := by
  intro ph am H x y d e c Q hn dx dy q k
  unfold mulI intsD at q
  split at q
  · cases dx; cases dy
    obtain ⟨h1, rfl⟩ := if_some q
    exact ⟨_, _, rfl, rfl, h1, k _ H (Same.refl H) (.int _)⟩
  · cases q
theorem ds_augAdd {x : Str} {pn : Pos} (hN : X.N.Nodup) (he : DE X W e f) (hi : X.N[i]? = some x := by rfl) (hx : Loc X.env.scope x := by first | exact Or.inl rfl | exact Or.inr rfl)
    (hf : X.fn x = true ∨ X.env.scope.names.lookup x = some .local := by first | exact .inl rfl | exact .inr rfl) : DS X W (.AugAssign (.Name x pn) .Add e pos) (sAug addII i f) := ds_aug opd_addII iop_addI hN he hi hx hf
theorem ds_augSub {x : Str} {pn : Pos} (hN : X.N.Nodup) (he : DE X W e f) (hi : X.N[i]? = some x := by rfl) (hx : Loc X.env.scope x := by first | exact Or.inl rfl | exact Or.inr rfl)
    (hf : X.fn x = true ∨ X.env.scope.names.lookup x = some .local := by first | exact .inl rfl | exact .inr rfl) : DS X W (.AugAssign (.Name x pn) .Sub e pos) (sAug subII i f) := ds_aug opd_subII iop_subI hN he hi hx hf
theorem ds_augMul {x : Str} {pn : Pos} (hN : X.N.Nodup) (he : DE X W e f) (hi : X.N[i]? = some x := by rfl) (hx : Loc X.env.scope x := by first | exact Or.inl rfl | exact Or.inr rfl)
    (hf : X.fn x = true ∨ X.env.scope.names.lookup x = some .local := by first | exact .inl rfl | exact .inr rfl) : DS X W (.AugAssign (.Name x pn) .Mult e pos) (sAug mulI i f) := ds_aug opd_mulII iop_mulI hN he hi hx hf
end PD
end

section
set_option Elab.async false
set_option linter.all false
set_option maxRecDepth 100000
set_option maxHeartbeats 2000000
namespace PD
open PySem PySem.Spec PyProof.Rows L2
variable {X : Cx} {W : WX} {pos : Pos} {e e1 e2 e3 : Expr} {es : List Expr} {f g h : M PyData} {fs : M (List PyData)} {fb gb : M Bool}
variable {K : PySem.W.Frag} {ph : Fx} {am am' am1 : Am} {H H' H1 : Hp} {σ σ' : L2.St} {δ δ' δ1 : Sg} {a p p1 p2 D : Addr} {v : V} {vs : List V} {d : PyData} {ds : List PyData} {i : Nat}

/-! ### t[::-1], t a tuple -/
theorem filterMap_all {α β : Type} {f : α → Option β} {g : α → β} : ∀ {l : List α}, (∀ x ∈ l, f x = some (g x)) → l.filterMap f = l.map g
  | [], _ => rfl
  | x :: l, h => by
    rw [List.filterMap_cons, h x (List.mem_cons_self ..)]
    show g x :: l.filterMap f = _
    rw [filterMap_all fun y hy => h y (List.mem_cons_of_mem _ hy)]
    rfl
theorem rev_pick (xs : Array Value) : ((List.range xs.size).filterMap fun (k : Nat) => xs[(((xs.size : Int) - 1) + (k : Int) * (-1)).toNat]?).toArray = xs.toList.reverse.toArray := by
  congr 1
  apply List.ext_getElem?
  intro j
  have e : (List.range xs.size).filterMap (fun (k : Nat) => xs[(((xs.size : Int) - 1) + (k : Int) * (-1)).toNat]?) = (List.range xs.size).map fun k => xs.toList.getD (xs.size - 1 - k) .none := by
    refine filterMap_all fun k hk => ?_
    have hk := List.mem_range.mp hk
    have h1 : ((((xs.size : Int) - 1) + (k : Int) * (-1)).toNat) = xs.size - 1 - k := by omega
    rw [h1]
    show xs[xs.size - 1 - k]? = some _
    rw [List.getD_eq_getElem?_getD, Array.getElem?_toList, Array.getElem?_eq_getElem (by omega)]
    rfl
  rw [e, List.getElem?_map]
  by_cases hj : j < xs.size
  · rw [List.getElem?_range hj, List.getElem?_reverse (by simpa using hj)]
    show some (xs.toList.getD (xs.size - 1 - j) .none) = _
    rw [List.getD_eq_getElem?_getD, Array.length_toList, List.getElem?_eq_getElem (by rw [Array.length_toList]; omega)]
    rfl
  · rw [List.getElem?_eq_none (by simpa using hj), List.getElem?_eq_none (by simpa using hj)]
    rfl
theorem getItem_tuple_rev {prog : Program} {w : World} {A : Around} {E : Value → Shared → Prop} {s : Shared} {t sl : Addr} {items : Array Value} {u : Tok} {Q : Value → Shared → Prop} (ht : IsTup s.heap t items) (hs : s.heap.IsSliceOf sl .none .none (.int (-1) u))
    (h : Q (.ref s.heap.objs.size) { s with heap := s.heap.push { cls := .type "tuple", data := .seq items.toList.reverse.toArray } })
    (hsz : items.size ≤ sizeLine) : wpAny (model prog w) A (getItem (.ref t) (.ref sl)) Q E s := by
  have htake : sizeOk (.seq items.toList.reverse.toArray) := by
    show items.toList.reverse.toArray.size ≤ sizeLine
    rw [List.size_toArray, List.length_reverse, Array.length_toList]
    exact hsz
  obtain ⟨os, hos, hcs, hds⟩ := id hs
  have hTs : s.TypeIs (.ref sl) "slice" := ⟨os, hos, hcs⟩
  unfold getItem
  try with_reducible refine wpAny_holding ?_
  first | refine wpAny_bind (wpAny_pure ?_) | skip
  refine wpAny_bind (wpAny_sequenceKey ht.typeIs (by decide) ?_)
  refine wpAny_bind (wpAny_callSpecial?_slot (name := Str.ofString "__getitem__") ht.typeIs PyProof.Rows.slot_tuple_getitem
    (wpAny_call_entry PyProof.Rows.slot_tuple_getitem ht.typeIs entry_tuple_getitem ?_ (args_tuple_getitem _ _)))
  show wpAny _ _ (Builtin.Tuple.tupleItemsOf (.ref t) >>= _) _ _ s
  refine wpAny_bind (tupleItemsOf_ ht ?_)
  refine wpAny_bind (wpAny_typeOf hTs ?_)
  rw [if_pos (by decide)]
  have happ : ∀ {Q2 : Int × Int × Nat → Shared → Prop}, Q2 (((items.size : Int) - 1), -1, items.size) s → wpAny (model prog w) (A.under (.call (.builtin "tuple.__getitem__") ⟨[.ref t, .ref sl], []⟩)) (Builtin.Slice.sliceApplied (.ref sl) (pure (items.size : Int))) Q2 E s → True := fun _ _ => trivial
  refine wpAny_bind ?_
  unfold Builtin.Slice.sliceApplied Builtin.Slice.sliceFields
  refine wpAny_bind (wpAny_bind (wpAny_field hos hds (x := .none) rfl (wpAny_bind (wpAny_field hos hds (x := .none) rfl (wpAny_bind (wpAny_field hos hds (x := .int (-1) u) rfl (wpAny_pure ?_)))))))
  refine wpAny_bind (slicePart_int ?_)
  show wpAny _ _ (if ((-1 : Int) == 0) = true then _ else _) _ _ s
  rw [if_neg (by decide)]
  refine wpAny_bind (slicePart_none (wpAny_bind (slicePart_none (wpAny_bind (wpAny_pure ?_)))))
  show wpAny _ _ (pure (((items.size : Int) - 1), (-1 : Int), Builtin.Slice.slicePlaces ((items.size : Int) - 1) (-1) (-1))) _ _ s
  have hpl : Builtin.Slice.slicePlaces ((items.size : Int) - 1) (-1) (-1) = items.size := by
    unfold Builtin.Slice.slicePlaces
    rw [if_neg (by decide)]
    by_cases h0 : items.size = 0
    · rw [if_neg (by omega)]; simp [h0]
    · rw [if_pos (by omega)]
      have : ((items.size : Int) - 1 - -1 - 1) / - -1 + 1 = (items.size : Int) := by
        rw [show (- -1 : Int) = 1 from rfl, Int.ediv_one]
        omega
      rw [this]
      simp
  rw [hpl]
  refine wpAny_pure ?_
  have hno : ¬ ((((items.size : Int) - 1) == 0 && (-1 : Int) == 1 && items.size == items.size) = true) := by
    rw [show ((-1 : Int) == 1) = false from rfl]
    simp
  show wpAny _ _ (if (((items.size : Int) - 1) == 0 && (-1 : Int) == 1 && items.size == items.size) = true then _ else _) _ _ s
  rw [if_neg hno, rev_pick]
  first
    | exact wpAny_bind (m := Builtin.Tuple.tupleExact _) (wpAny_newObj_type (wpAny_pure ⟨_, rfl, wpAny_pure h⟩) htake)
    | exact wpAny_bind (m := Builtin.Tuple.tupleExact _) (wpAny_newObj_type (wpAny_bind (wpAny_pure (wpAny_pure ⟨_, rfl, wpAny_pure h⟩))) htake)
    | exact wpAny_bind (wpAny_bind (m := Builtin.Tuple.tupleExact _) (wpAny_newObj_type (wpAny_pure (wpAny_pure ⟨_, rfl, wpAny_pure h⟩)) htake))
    | exact wpAny_bind (wpAny_bind (m := Builtin.Tuple.tupleExact _) (wpAny_newObj_type (wpAny_pure ⟨_, rfl, wpAny_pure h⟩) htake))
def tRevT (K : PySem.W.Frag) (te : TE) : TE := fun σ H Q => te σ H fun x H1 => ∃ a xs, x = .ref a ∧ SqT K H1 a xs ∧ ∀ p, H1 p = none → Q (.ref p) (upd H1 p (.tup xs.reverse))
theorem pe_revT {e : Expr} {te : TE} {k : Nat} {p1 p2 p3 pos : Pos} (he : PE X e te) : PE X (.Subscript e (.Slice none none (some (.UnaryOp .USub (.Constant (.int 1) k p1) p2)) p3) pos) (tRevT X.K te) := by
  refine ⟨fun pins s σ H Q I h => ?_⟩
  refine Subscript_ (thn (he.run pins s σ H _ I h) fun v s1 ⟨x, H1, I1, r1, q1⟩ => ?_)
  obtain ⟨a, xs, ex, hx, q⟩ := q1
  subst ex
  cases r1
  have hst : PO X (some (.UnaryOp .USub (.Constant (.int 1) k p1) p2)) (tPart (tUn (rU fun i => .int (-i)) (tC (.int 1)))) := po_some (pe_un un_neg pe_int)
  refine wpAny_Slice (thn (po_none.run pins s1 σ H1 (fun o H2 => o = none ∧ H2 = H1) I1 ⟨rfl, rfl⟩) fun vl s2 ⟨l, H2, I2, pl, el, e2⟩ => ?_)
  subst el e2
  refine thn (po_none.run pins s2 σ H2 (fun o H3 => o = none ∧ H3 = H2) I2 ⟨rfl, rfl⟩) fun vu s3 ⟨u, H3, I3, pu, eu, e3⟩ => ?_
  subst eu e3
  refine thn (hst.run pins s3 σ H3 (fun o H4 => o = some (-1) ∧ H4 = H3) I3 ⟨1, rfl, -1, rfl, rfl, rfl⟩) fun vs s4 ⟨o, H4, I4, ps, eo, e4⟩ => ?_
  subst eo e4
  have I5 : Inv X pins σ H4 { s4 with heap := s4.heap.push { cls := .type "slice", data := .fields #[vl, vu, vs] } } := I4.kept (t' := s4.toks) fun b ob q => Heap.get?_push_of_some _ q
  obtain ⟨its, r, ht, hz⟩ := I5.tuple hx
  have hlen : its.toArray.size = xs.length := by rw [List.size_toArray]; exact r.length.symm
  show wpAny (model X.prog X.w) X.A (subscriptTail e (.Slice none none (some (.UnaryOp .USub (.Constant (.int 1) k p1) p2)) p3) (.ref a) (.ref s4.heap.objs.size)) (EP X pins σ Q) X.xe { s4 with heap := s4.heap.push { cls := .type "slice", data := .fields #[vl, vu, vs] } }
  refine tail_any (ops := [.ref a, .ref s4.heap.objs.size]) ht.typeIs PyProof.Rows.slot_tuple_getitem.lookup ?_ (by with_unfolding_all rfl)
  cases pl
  cases pu
  cases ps
  refine getItem_tuple_rev ht (Heap.IsSliceOf.new _ _ _ _) ?_ (by rw [hlen]; exact hz)
  refine ⟨.ref _, _, I5.laid (t' := s4.toks) (o := .tup xs.reverse) (fun b ob q => Heap.get?_push_of_some _ q) (Nat.le_refl _) ?_, rfl, q _ (I5.hok.fresh (Nat.le_refl _))⟩
  exact ⟨by rw [List.length_reverse]; exact hz, _, r.reverse, IsTup.new _ _⟩
def xRevT (f : M PyData) : M PyData := bnd f fun d => lif (match d with | .tuple ds => some (.tuple ds.reverse) | _ => none)
theorem de_revT {k : Nat} {p1 p2 p3 : Pos} (he : DE X W e f) : DE X W (.Subscript e (.Slice none none (some (.UnaryOp .USub (.Constant (.int 1) k p1) p2)) p3) pos) (xRevT f) := by
  obtain ⟨t, pt, qa⟩ := he.ex
  refine ⟨⟨_, pe_revT pt, fun ph am σ H δ Q ans δ' s q k kx => ?_⟩⟩
  rcases bnd_some q with ⟨a, δ1, e1, q1⟩ | ⟨c, fs, e1, q1⟩
  · refine qa ph am σ H δ _ _ _ s e1 (fun d ed am1 x H1 st1 s1 d1 => ?_) (fun c fs z => by cases z)
    cases ed
    obtain ⟨z, e3, rfl, rfl⟩ := lif_some q1
    cases d1 with
    | @tup a0 xs0 ds0 h1 a1 =>
      cases e3
      refine ⟨_, _, rfl, seqT_hid h1, fun p np => ?_⟩
      have sm : Same H1 (upd H1 p (.tup xs0.reverse)) := same_new np
      exact k _ rfl am1 _ _ (st1.trans (Step.of sm)) (s1.same sm) (.tup (hid_some.mpr ⟨s1.new np, upd_same⟩) (dps_mono (hid_same sm) a1.rev))
    | _ => cases e3
  · subst q1
    exact qa ph am σ H δ _ _ _ s e1 (fun d ed => by cases ed) (fun c' fs' z => by cases z; exact kx _ _ rfl)

/-! ### n not in range(p) -/
theorem cr_range1 : CallR X (.type "range") (fun vs H Q => ∃ j, vs = [V.int j] ∧ ∀ p, H p = none → Q (.ref p) (upd H p (.rng 0 j))) := by
  intro pins s σ H vs us Q I r h
  obtain ⟨j, rfl, q⟩ := h
  obtain ⟨u, rfl, ru⟩ : ∃ u, us = [u] ∧ RelV (V.int j) u := by
    cases r with
    | cons p q => cases q; exact ⟨_, rfl, p⟩
  obtain ⟨t, rfl⟩ := ru
  refine call_range_1 ⟨.ref s.heap.objs.size, upd H s.heap.objs.size (.rng 0 j), I.laid (t' := s.toks + 1 + 1) (fun b o e => Heap.get?_push_of_some _ e) (Nat.le_refl _) ?_, rfl, q _ (I.hok.fresh (Nat.le_refl _))⟩
  exact ⟨s.toks, t, s.toks + 1, Heap.get?_push_size _ rfl⟩
theorem op_notin_rng : OpR X (compareOp .NotIn) (fun x y H Q => ∃ i a lo hi, x = V.int i ∧ y = V.ref a ∧ H a = some (.rng lo hi) ∧ Q (.bl (!decide (lo ≤ i ∧ i < hi))) H) := by
  intro pins s σ H x y v u Q I rx ry h
  obtain ⟨i, a, lo, hi, rfl, rfl, ha, q⟩ := h
  obtain ⟨k, rfl⟩ := rx
  obtain rfl : u = Value.ref a := ry
  obtain ⟨t1, t2, t3, ho⟩ := I.hok a _ ha
  show wpAny _ _ (do return Value.bool (!(← contains (Value.ref a) (Value.int i k)))) _ _ s
  refine wpAny_bind (wpAny_contains_slot (T := "range") ⟨_, ho, rfl⟩ F.slot_range_contains (call_meets F.slot_range_contains ⟨_, ho, rfl⟩ F.entry_range_contains (F.args_range_contains_2 _ _) (q_contains a lo hi i t1 t2 t3 k)
    ⟨ho, wpAny_truthy_bool (wpAny_pure ⟨.bl _, H, I, rfl, ?_⟩)⟩))
  rw [place1]
  exact q
def ninRD : PyData → PyData → Option PyData := intsD fun i j => some (.bool (!decide (0 ≤ i ∧ i < j)))
theorem dt_ninRange {pn pc : Pos} (hg : Gl X "range") (hm : X.mg "range" = none) (ha : DE X W e1 f) (hb : DE X W e2 g) (hs : starEach [e2] X.env = (false, eval e2 X.env) :: starEach [] X.env := by rfl) (hpl : (backTo pc (starEach [] X.env)).any (·.1) = false := by rfl) (hmm : behindInMarks .NotIn (.Call (.Name "range" pn) [e2] [] pc) = false := by rfl) :
    DT X W (.Compare e1 [.NotIn] [.Call (.Name "range" pn) [e2] [] pc] pos) (xBool (xBin ninRD f g)) := by
  obtain ⟨ta, pa, qa⟩ := ha.ex
  obtain ⟨tb, pb, qb⟩ := hb.ex
  refine ⟨⟨_, pt_cmpR op_notin_rng pa (pe_callTy (e := e2) (es := []) cr_range1 hg hm (by decide +kernel) (pa_cons pb pa_nil hs) (by decide) (by decide) hs hpl) hmm, ?_⟩⟩
  refine bool_read fun ph am σ H δ Q ans δ' s q k kx => ?_
  rcases bnd_some q with ⟨a, δ1, e1, q1⟩ | ⟨c, fs, e1, q1⟩
  · refine qa ph am σ H δ _ _ _ s e1 (fun d ed am1 x H1 st1 s1 d1 => ?_) (fun c fs z => by cases z)
    cases ed
    rcases bnd_some q1 with ⟨b, δ2, e2, q2⟩ | ⟨c, fs, e2, q2⟩
    · refine qb ph am1 σ H1 δ1 _ _ _ s1 e2 (fun d ed am2 y H2 st2 s2 d2 => ?_) (fun c fs z => by cases z)
      cases ed
      obtain ⟨z, e3, rfl, rfl⟩ := lif_some q2
      unfold ninRD intsD at e3
      split at e3
      · cases d1
        cases d2
        cases e3
        rename_i i0 j0
        refine ⟨j0, rfl, fun p np => ?_⟩
        have sm : Same H2 (upd H2 p (.rng 0 j0)) := same_new np
        exact ⟨i0, p, 0, j0, rfl, rfl, upd_same, k _ rfl am2 _ _ ((st1.trans st2).trans (Step.of sm)) (s2.same sm) (.bl _)⟩
      · cases e3
    · subst q2
      exact qb ph am1 σ H1 δ1 _ _ _ s1 e2 (fun d ed => by cases ed) (fun c' fs' z => by cases z; exact (kx _ _ rfl).step st1)
  · subst q1
    exact qa ph am σ H δ _ _ _ s e1 (fun d ed => by cases ed) (fun c' fs' z => by cases z; exact kx _ _ rfl)
end PD
end

section
set_option Elab.async false
set_option linter.all false
set_option maxRecDepth 100000
set_option maxHeartbeats 1000000
namespace PD
open PySem PySem.Spec PyProof.Rows L2
variable {X : Cx} {W : WX} {pos : Pos} {e e1 e2 : Expr} {f g h : M PyData} {fs : M (List PyData)}
variable {K : PySem.W.Frag}
theorem de_in (hu : X.A.units + 65 < cLine) (ha : DE X W e1 f) (hb : DE X W e2 g) (hm : behindInMarks .In e2 = false := by rfl) : DE X W (.Compare e1 [.In] [e2] pos) (xBin inD f g) := de_cmp opd_in (op_inD hu) hm ha hb

/-! ### sorted(xs), xs a list, also one that holds () alone -/
theorem sorted_any {β : Type} {prog : Program} {w : World} {A : Around} {E : Value → Shared → Prop} {s : Shared} {vs : List Value} {bs : List β} {enc : β → PyData} {R : Value → β → Prop} {l : Addr} {Q : Value → Shared → Prop} (hl : s.heap.IsList l vs.toArray) (e : PySem.W.EachIs R vs bs) (er : PySem.W.EachIs (fun v b => ∃ as, Reads s.heap v (enc b) as) vs bs) (hal : PySem.W.AllAlike (bs.map enc)) (hk : PySem.W.Sortable (bs.map enc) ∨ bs.map enc = [.tuple []]) (hL : bs.length ≤ sizeLine)
    (hu : ∀ b, b ∈ bs → A.units + 2 + (enc b).depth < cLine) (h : ∀ out, out.length = bs.length → PySem.W.EachIs R out (bs.mergeSort (PySem.W.dataLe false enc)) → Q (.ref (s.heap.objs.size + 1)) { s with heap := sortedAll s.heap vs (List.toArray out) }) :
    wpAny (model prog w) A (call (.builtin "sorted") [.ref l]) Q E s := by
  rcases hk with hk | hk
  · exact PySem.W.sorted_data hl e er hal hk hL hu h
  · have er' : PySem.W.EachIs (fun v b => ∃ as, Reads (PySem.W.sortingHeap (PySem.W.copyHeap s.heap vs) (s.heap.objs.size + 1) vs) v (enc b) as) vs bs := er.mono fun _ _ ⟨as, r⟩ => ⟨as, PyProof.Rows.Reads.keeps (fun _ _ => PySem.W.sorting_copy_old) r⟩
    have hb1 : ∃ b, b ∈ bs := by
      cases bs with
      | nil => simp at hk
      | cons b bs => exact ⟨b, List.mem_cons_self ..⟩
    obtain ⟨b, hb⟩ := hb1
    have hu1 := hu b hb
    have hbe : enc b = .tuple [] := by
      have : enc b ∈ bs.map enc := List.mem_map_of_mem hb
      rw [hk] at this
      exact List.mem_singleton.mp this
    rw [hbe, show (PyData.tuple []).depth = 1 by simp [PyData.depth, PyData.depthAll]] at hu1
    refine PySem.W.sorted_vals hl (sorts_unit (s := { s with heap := PySem.W.sortingHeap (PySem.W.copyHeap s.heap vs) (s.heap.objs.size + 1) vs }) (PySem.W.each_map (R := fun v d => ∃ as, Reads (PySem.W.sortingHeap (PySem.W.copyHeap s.heap vs) (s.heap.objs.size + 1) vs) v d as) enc er') hk ?_) (by rw [PySem.W.EachIs.length e]; exact hL)
      (h _ (by rw [PySem.W.sortVals_length false rfl]; exact PySem.W.EachIs.length e) (PySem.W.sortVals_data false e er' hal))
    first | omega | (show A.units + 2 + 1 < cLine; omega)
def rSortDu (K : PySem.W.Frag) : List V → Hp → VK → Prop := fun xs H Q => ∃ a vs ds, xs = [V.ref a] ∧ SqL K H a vs ∧ L2.DpAll K H vs ds ∧ PySem.W.AllAlike ds ∧ (PySem.W.Sortable ds ∨ ds = [.tuple []]) ∧ (∀ d, d ∈ ds → d.depth ≤ 40) ∧
  ∀ p, H p = none → Q (.ref p) (upd H p (.lst (sortV vs ds)))
theorem cr_sortDu (hu : X.A.units + 65 < cLine) : CallR X (.builtin "sorted") (rSortDu X.K) := by
  intro pins s σ H vs us Q I r h
  obtain ⟨a, ws, ds, rfl, hs, hd, hal, hk, hdep, q⟩ := h
  obtain ⟨its, rv, hl, hz⟩ := I.list hs
  rw [Vals.ref1 r]
  obtain ⟨as, hr⟩ := Dp.readsAll I ds ws its hd rv
  have hlen : its.length = ds.length := SeqAt.ReadsAll.length ds its as hr
  have hwl : ws.length = its.length := rv.length
  have hz2 : (ws.zip ds).length = ds.length := by rw [List.length_zip, hwl, hlen, Nat.min_self]
  have hm : (ws.zip ds).map (·.2) = ds := zip_snd (by rw [hwl, hlen])
  refine sorted_any (β := V × PyData) (enc := (·.2)) (R := fun u q => RelV q.1 u) hl.isList (each_zip rv hr fun _ _ _ _ h _ => h) (each_zip rv hr fun _ _ _ bs _ h => ⟨bs, h⟩) (by rw [hm]; exact hal) (by rw [hm]; exact hk) (by rw [hz2, ← hlen, ← hwl]; exact hz) (fun b hb => ?_) fun out ho eo => ?_
  · have := hdep b.2 (by rw [← hm]; exact List.mem_map_of_mem hb)
    omega
  · obtain ⟨ep, he'⟩ := PyProof.Rows.sortedAll_at s.heap its out.toArray
    have hlen2 : (sortV ws ds).length ≤ sizeLine := by rw [sortV_length (by rw [hwl, hlen]), ← hlen, ← hwl]; exact hz
    exact ⟨.ref _, upd H (s.heap.objs.size + 1) (.lst (sortV ws ds)), I.laid (t' := s.toks) (fun _ _ => PyProof.Rows.sortedAll_old) (Nat.le_succ _) ⟨hlen2, out, ep, each_vals (fun _ _ h => h) eo, he'⟩, rfl, q _ (I.hok.fresh (Nat.le_succ _))⟩
def sortedU : List PyData → Option (List PyData)
  | [.list ds] => if (okSort ds || isUnit ds) = true ∧ ds.length ≤ sizeLine then some (sortD ds) else none
  | _ => none
theorem callf_sortU : CallF X (rSortDu X.K) sortedU := by
  intro ph am H xs ds c Q hn dx q k
  cases dx with
  | nil => cases q
  | cons h t =>
    cases t with
    | cons _ _ => cases h <;> cases q
    | nil =>
      cases h with
      | lst h1 a1 =>
        obtain ⟨⟨h2, h3⟩, rfl⟩ := if_some q
        obtain ⟨g1, g2, g3⟩ := okUnit h2
        refine ⟨_, _, _, rfl, rd_hid h1, (dps_mono hid_sub a1).dp, g1, g2, g3, fun p np => k p _ np a1.sort (by rw [sortV_length a1.length]; exact h3)⟩
      | _ => cases q
theorem df_sortedU {pf : Pos} (hu : X.A.units + 65 < cLine) (hm : X.mg "sorted" = none) (h : DA X W [e] fs) (hg : Gl X "sorted" := by rfl)
    (he : starEach [e] X.env = (false, eval e X.env) :: starEach [] X.env := by rfl) (hpl : (backTo pos (starEach [] X.env)).any (·.1) = false := by rfl) : DF X W (.Call (.Name "sorted" pf) [e] [] pos) (xCallF sortedU fs) :=
  df_callB callf_sortU (cr_sortDu hu) hm (by decide +kernel) h hg (by decide) (by decide) he hpl
end PD
end

section
set_option Elab.async false
set_option linter.all false
set_option maxRecDepth 100000
namespace PD
open PySem
/-! ### loops and comprehensions by what holds behind j turns -/
theorem loop_inv {set : Tg} {b : MS} {ds : List PyData} {δ : Sg} (I : Nat → Sg → Prop) (h0 : I 0 δ)
    (step : ∀ (j : Nat) (d : PyData), ds[j]? = some d → ∀ δ, I j δ → ∃ δ1 δ2, set d δ = some δ1 ∧ b δ1 = some (.ok .nx, δ2) ∧ I (j + 1) δ2) :
    ∃ δ', loopD set b ds δ = some (.ok .nx, δ') ∧ I ds.length δ' := by
  induction ds generalizing δ I with
  | nil => exact ⟨δ, rfl, h0⟩
  | cons d ds ih =>
    obtain ⟨δ1, δ2, e1, e2, h1⟩ := step 0 d rfl δ h0
    obtain ⟨δ', e3, h2⟩ := ih (δ := δ2) (fun j => I (j + 1)) h1 fun j d' q δ hi => step (j + 1) d' q δ hi
    exact ⟨δ', by unfold loopD; rw [e1]; show (match b δ1 with | some (.ok .nx, δ2) => loopD set b ds δ2 | some (.ok .ct, δ2) => loopD set b ds δ2 | some (.ok .bk, δ2) => some (.ok .nx, δ2) | r => r) = _; rw [e2]; exact e3, h2⟩
/-- .. of a comprehension without tests: the j-th element is made in a state with I j -/
theorem comp_inv {is : List Nat} {set : Tg} {el : M PyData} {ds : List PyData} {acc : List PyData} {δ : Sg} (I : Nat → List PyData → Sg → Prop) (h0 : I 0 acc δ) (hl : acc.length + ds.length ≤ 1000000)
    (step : ∀ (j : Nat) (d : PyData), ds[j]? = some d → ∀ acc δ, I j acc δ → ∃ δ1 y δ3, set d δ = some δ1 ∧ el δ1 = some (.ok y, δ3) ∧ noOw δ3 is = true ∧ I (j + 1) (acc ++ [y]) (wipeD δ3 is)) :
    ∃ acc' δ', compD is set (PD.ret true) el ds acc δ = some (acc', δ') ∧ I ds.length acc' δ' := by
  induction ds generalizing δ acc I with
  | nil => exact ⟨acc, δ, rfl, h0⟩
  | cons d ds ih =>
    obtain ⟨δ1, y, δ3, e1, e2, n, h1⟩ := step 0 d rfl acc δ h0
    have hl' : (acc ++ [y]).length + ds.length ≤ 1000000 := by simp at hl ⊢; omega
    obtain ⟨acc', δ', e3, h2⟩ := ih (δ := wipeD δ3 is) (acc := acc ++ [y]) (fun j => I (j + 1)) h1 hl' fun j d' q a δ hi => step (j + 1) d' q a δ hi
    refine ⟨acc', δ', ?_, h2⟩
    have hs : acc.length < sizeLine := by rw [sizeLine_eq]; simp at hl; omega
    unfold compD
    simp only [e1, e2, PD.ret, hs, n, and_self, if_true, e3]
/-- .. whose elements leave the state as it was -/
theorem comp_map {is : List Nat} {set : Tg} {el : M PyData} {ds : List PyData} {acc : List PyData} {δ : Sg} (f : PyData → PyData) (hl : acc.length + ds.length ≤ 1000000)
    (step : ∀ d, d ∈ ds → ∃ δ1 δ3, set d δ = some δ1 ∧ el δ1 = some (.ok (f d), δ3) ∧ noOw δ3 is = true ∧ wipeD δ3 is = δ) :
    compD is set (PD.ret true) el ds acc δ = some (acc ++ ds.map f, δ) := by
  induction ds generalizing acc with
  | nil => simp [compD]
  | cons d ds ih =>
    obtain ⟨δ1, δ3, e1, e2, n, h1⟩ := step d (List.mem_cons_self ..)
    have hs : acc.length < sizeLine := by rw [sizeLine_eq]; simp at hl; omega
    unfold compD
    simp only [e1, e2, PD.ret, hs, n, and_self, if_true, h1]
    have q := ih (acc := acc ++ [f d]) (by simp at hl ⊢; omega) fun d' h => step d' (List.mem_cons_of_mem _ h)
    unfold PD.ret at q
    rw [q]
    simp
theorem pairL_ints : ∀ l m : List Int, pairL (l.map .int) (m.map .int) = List.zipWith (fun x y => PyData.tuple [.int x, .int y]) l m
  | [], _ => by simp [pairL]
  | _ :: _, [] => by simp [pairL]
  | x :: l, y :: m => by simp [pairL, pairL_ints l m]
theorem xComp_eq {it : M (List PyData)} {is : List Nat} {set : Tg} {t : M Bool} {el : M PyData} {δ δ1 δ' : Sg} {ds acc : List PyData} (h : it δ = some (.ok ds, δ1)) (n : noOw δ1 is = true) (hc : compD is set t el ds [] (wipeD δ1 is) = some (acc, δ')) :
    xComp it is set t el δ = some (.ok acc, backD δ1 δ' is) := by
  unfold xComp bnd
  rw [h]
  simp only [n, if_true, hc]
theorem bnd_eq {α β : Type} {f : M α} {g : α → M β} {δ δ1 : Sg} {a : α} (h : f δ = some (.ok a, δ1)) : bnd f g δ = g a δ1 := by
  unfold bnd
  rw [h]
theorem sSeq_eq {f g : MS} {δ δ1 : Sg} (h : f δ = some (.ok .nx, δ1)) : sSeq f g δ = g δ1 := by
  unfold sSeq
  rw [h]
end PD
end

section
set_option Elab.async false
set_option linter.all false
set_option maxRecDepth 100000
namespace PD
open PySem
/-! ### what holds behind a run of a plain function: rules by the head of the term -/
def Gd {α : Type} (f : M α) (δ : Sg) (Q : α → Sg → Prop) : Prop := ∃ a δ', f δ = some (.ok a, δ') ∧ Q a δ'
inductive At : Sg → Nat → Cell → Prop
  | z {c : Cell} {δ : Sg} : At (c :: δ) 0 c
  | s {c d : Cell} {δ : Sg} {i : Nat} : At δ i c → At (d :: δ) (i + 1) c
inductive Put : Sg → Nat → Cell → Sg → Prop
  | z {c d : Cell} {δ : Sg} : Put (d :: δ) 0 c (c :: δ)
  | s {c d : Cell} {δ δ' : Sg} {i : Nat} : Put δ i c δ' → Put (d :: δ) (i + 1) c (d :: δ')
theorem At.get {δ : Sg} {i : Nat} {c : Cell} (h : At δ i c) : δ[i]? = some c := by
  induction h with
  | z => rfl
  | s _ ih => simpa using ih
theorem Put.set {δ δ' : Sg} {i : Nat} {c : Cell} (h : Put δ i c δ') : δ.set i c = δ' := by
  induction h with
  | z => rfl
  | s _ ih => simp [ih]
variable {α β : Type} {δ δ' δ1 : Sg} {i : Nat} {d : PyData} {ds os : List PyData}
theorem Gd.imp {f : M α} {Q R : α → Sg → Prop} (h : Gd f δ Q) (q : ∀ a δ', Q a δ' → R a δ') : Gd f δ R :=
  let ⟨a, δ', e, h⟩ := h
  ⟨a, δ', e, q a δ' h⟩
theorem w_eq {f : M α} {Q : α → Sg → Prop} {a : α} (e : f δ = some (.ok a, δ')) (h : Q a δ') : Gd f δ Q := ⟨a, δ', e, h⟩
theorem Gd.eq {f : M α} {a : α} (h : Gd f δ fun x y => x = a ∧ y = δ') : f δ = some (.ok a, δ') := by
  obtain ⟨x, y, e, rfl, rfl⟩ := h
  exact e
theorem w_ret {a : α} {Q : α → Sg → Prop} (h : Q a δ) : Gd (ret a) δ Q := ⟨a, δ, rfl, h⟩
theorem w_bnd {f : M α} {g : α → M β} {Q : β → Sg → Prop} (h : Gd f δ fun a δ1 => Gd (g a) δ1 Q) : Gd (bnd f g) δ Q := by
  obtain ⟨a, δ1, e, b, δ2, e2, h⟩ := h
  exact ⟨b, δ2, by rw [bnd_eq e, e2], h⟩
theorem w_lif {o : Option α} {a : α} {Q : α → Sg → Prop} (e : o = some a) (h : Q a δ) : Gd (lif o) δ Q := ⟨a, δ, by rw [e]; rfl, h⟩
theorem w_var {Q : PyData → Sg → Prop} (a : At δ i (.fz d)) (h : Q d δ) : Gd (xVar i) δ Q := ⟨d, δ, by unfold xVar; rw [a.get], h⟩
theorem w_varO {Q : PyData → Sg → Prop} (a : At δ i (.ow false ds)) (p : Put δ i (.fz (.list ds)) δ') (h : Q (.list ds) δ') : Gd (xVar i) δ Q := ⟨.list ds, δ', by unfold xVar; rw [a.get]; dsimp only; rw [p.set], h⟩
theorem w_bin {F : PyData → PyData → Option PyData} {f g : M PyData} {Q : PyData → Sg → Prop} (h : Gd f δ fun a δ1 => Gd g δ1 fun b δ2 => Gd (lif (F a b)) δ2 Q) : Gd (xBin F f g) δ Q := w_bnd (h.imp fun _ _ h => w_bnd h)
theorem w_un {F : PyData → Option PyData} {f : M PyData} {Q : PyData → Sg → Prop} (h : Gd f δ fun a δ1 => Gd (lif (F a)) δ1 Q) : Gd (xUn F f) δ Q := w_bnd h
theorem w_binF {F : PyData → PyData → Option (List PyData)} {f g : M PyData} {Q : List PyData → Sg → Prop} (h : Gd f δ fun a δ1 => Gd g δ1 fun b δ2 => Gd (lif (F a b)) δ2 Q) : Gd (xBinF F f g) δ Q := w_bnd (h.imp fun _ _ h => w_bnd h)
theorem w_tup {fs : M (List PyData)} {Q : PyData → Sg → Prop} (h : Gd fs δ fun ds δ1 => ds.length ≤ 1000000 ∧ Q (.tuple ds) δ1) : Gd (xTup fs) δ Q :=
  w_bnd (h.imp fun ds _ h => w_lif (if_pos (Nat.le_trans h.1 (by rw [sizeLine_eq]; decide))) h.2)
theorem w_lst {fs : M (List PyData)} {Q : List PyData → Sg → Prop} (h : Gd fs δ fun ds δ1 => ds.length ≤ 1000000 ∧ Q ds δ1) : Gd (xLst fs) δ Q :=
  w_bnd (h.imp fun ds _ h => w_lif (if_pos (Nat.le_trans h.1 (by rw [sizeLine_eq]; decide))) h.2)
theorem w_call {F : List PyData → Option PyData} {fs : M (List PyData)} {Q : PyData → Sg → Prop} (h : Gd fs δ fun ds δ1 => Gd (lif (F ds)) δ1 Q) : Gd (xCall F fs) δ Q := w_bnd h
theorem w_callF {F : List PyData → Option (List PyData)} {fs : M (List PyData)} {Q : List PyData → Sg → Prop} (h : Gd fs δ fun ds δ1 => Gd (lif (F ds)) δ1 Q) : Gd (xCallF F fs) δ Q := w_bnd h
theorem w_callF' {F : List PyData → Option (List PyData)} {fs : M (List PyData)} {Q : List PyData → Sg → Prop} (h : Gd fs δ fun ds δ1 => Gd (lif (F ds)) δ1 Q) : Gd (xCallF' F fs) δ Q := w_bnd h
theorem w_seqv {f : M PyData} {Q : List PyData → Sg → Prop} (h : Gd f δ fun d δ1 => Gd (lif (seqD d)) δ1 Q) : Gd (xSeq f) δ Q := w_bnd h
theorem w_tru {f : M PyData} {Q : Bool → Sg → Prop} (h : Gd f δ fun d δ1 => Gd (lif (truthD d)) δ1 Q) : Gd (xTru f) δ Q := w_bnd h
theorem w_bool {f : M PyData} {Q : Bool → Sg → Prop} (h : Gd f δ fun d δ1 => Gd (lif (boolD d)) δ1 Q) : Gd (xBool f) δ Q := w_bnd h
theorem w_cond {b : Bool} {f g : M α} {Q : α → Sg → Prop} (h : Gd (cond b f g) δ Q) : Gd (if b = true then f else g) δ Q := by cases b <;> exact h
theorem w_andT {f g : M Bool} {Q : Bool → Sg → Prop} (h : Gd f δ fun b δ1 => Gd (cond b g (ret false)) δ1 Q) : Gd (xAndT f g) δ Q := w_bnd (h.imp fun _ _ h => w_cond h)
theorem w_orT {f g : M Bool} {Q : Bool → Sg → Prop} (h : Gd f δ fun b δ1 => Gd (cond b (ret true) g) δ1 Q) : Gd (xOrT f g) δ Q := w_bnd (h.imp fun _ _ h => w_cond h)
theorem w_notT {f : M Bool} {Q : Bool → Sg → Prop} (h : Gd f δ fun b δ1 => Q (!b) δ1) : Gd (xNotT f) δ Q := w_bnd (h.imp fun _ _ h => w_ret h)
/-- `and` by what the left side is -/
theorem w_and {f g : M PyData} {Q : PyData → Sg → Prop} (h : Gd f δ fun d δ1 => ∃ b, d = .bool b ∧ Gd (cond b g (ret (.bool false))) δ1 Q) : Gd (xAnd f g) δ Q :=
  w_bnd (h.imp fun d _ h => by
    obtain ⟨b, rfl, h⟩ := h
    cases b
    · exact h
    · exact h)
theorem w_or {f g : M PyData} {Q : PyData → Sg → Prop} (h : Gd f δ fun d δ1 => ∃ b, d = .bool b ∧ Gd (cond b (ret (.bool true)) g) δ1 Q) : Gd (xOr f g) δ Q :=
  w_bnd (h.imp fun d _ h => by
    obtain ⟨b, rfl, h⟩ := h
    cases b
    · exact h
    · exact h)
theorem w_not {f : M PyData} {Q : PyData → Sg → Prop} (h : Gd f δ fun d δ1 => ∃ b, d = .bool b ∧ Q (.bool (!b)) δ1) : Gd (xNot f) δ Q :=
  w_bnd (h.imp fun d _ h => by
    obtain ⟨b, rfl, h⟩ := h
    exact w_ret h)
theorem w_if {c : M Bool} {f g : M α} {Q : α → Sg → Prop} (h : Gd c δ fun b δ1 => Gd (cond b f g) δ1 Q) : Gd (xIf c f g) δ Q := w_bnd (h.imp fun _ _ h => w_cond h)
theorem w_it {f g : M α} {Q : α → Sg → Prop} (h : Gd f δ Q) : Gd (cond true f g) δ Q := h
theorem w_ie {f g : M α} {Q : α → Sg → Prop} (h : Gd g δ Q) : Gd (cond false f g) δ Q := h
theorem w_by {b : Bool} {f g : M α} {Q : α → Sg → Prop} (h : b = true → Gd f δ Q) (k : b = false → Gd g δ Q) : Gd (cond b f g) δ Q := by
  cases b
  · exact k rfl
  · exact h rfl
theorem w_chain {F G : PyData → PyData → Option PyData} {f g h : M PyData} {Q : PyData → Sg → Prop} (q : Gd f δ fun a δ1 => Gd g δ1 fun b δ2 => ∃ z, F a b = some (.bool z) ∧ Gd (cond z (bnd h fun c => lif (G b c)) (ret (.bool false))) δ2 Q) : Gd (xChain F G f g h) δ Q :=
  w_bnd (q.imp fun a _ q => w_bnd (q.imp fun b δ2 q => by
    obtain ⟨z, e, q⟩ := q
    refine w_bnd (w_lif e ?_)
    cases z
    · exact q
    · exact q))
/-! statements -/
def Nx (h : MS) (Q : Flo → Sg → Prop) (fl : Flo) (δ : Sg) : Prop := match fl with
  | .nx => Gd h δ Q
  | fl => Q fl δ
theorem nx_nx {h : MS} {Q : Flo → Sg → Prop} (q : Gd h δ Q) : Nx h Q .nx δ := q
theorem nx_rt {h : MS} {Q : Flo → Sg → Prop} (q : Q (.rt d) δ) : Nx h Q (.rt d) δ := q
theorem nx_rf {h : MS} {Q : Flo → Sg → Prop} (q : Q (.rf ds) δ) : Nx h Q (.rf ds) δ := q
theorem nx_bk {h : MS} {Q : Flo → Sg → Prop} (q : Q .bk δ) : Nx h Q .bk δ := q
theorem nx_ct {h : MS} {Q : Flo → Sg → Prop} (q : Q .ct δ) : Nx h Q .ct δ := q
theorem w_seq {g h : MS} {Q : Flo → Sg → Prop} (q : Gd g δ (Nx h Q)) : Gd (sSeq g h) δ Q := by
  obtain ⟨fl, δ1, e, q⟩ := q
  cases fl with
  | nx =>
    obtain ⟨a, δ2, e2, q⟩ := (q : Gd h δ1 Q)
    exact ⟨a, δ2, by rw [sSeq_eq e, e2], q⟩
  | bk => exact ⟨_, _, by unfold sSeq; rw [e], q⟩
  | ct => exact ⟨_, _, by unfold sSeq; rw [e], q⟩
  | rt d => exact ⟨_, _, by unfold sSeq; rw [e], q⟩
  | rf d => exact ⟨_, _, by unfold sSeq; rw [e], q⟩
theorem w_skip {Q : Flo → Sg → Prop} (h : Q .nx δ) : Gd sSkip δ Q := w_ret h
theorem w_sret {f : M PyData} {Q : Flo → Sg → Prop} (h : Gd f δ fun d δ1 => Q (.rt d) δ1) : Gd (sRet f) δ Q := w_bnd (h.imp fun _ _ h => w_ret h)
theorem w_sretF {f : M (List PyData)} {Q : Flo → Sg → Prop} (h : Gd f δ fun d δ1 => Q (.rf d) δ1) : Gd (sRetF f) δ Q := w_bnd (h.imp fun _ _ h => w_ret h)
theorem w_sif {c : M Bool} {g h : MS} {Q : Flo → Sg → Prop} (q : Gd c δ fun b δ1 => Gd (cond b g h) δ1 Q) : Gd (sIf c g h) δ Q := w_bnd (q.imp fun _ _ h => w_cond h)
def Gs (s : Tg) (d : PyData) (δ : Sg) (Q : Sg → Prop) : Prop := ∃ δ', s d δ = some δ' ∧ Q δ'
def Gss (s : Tgs) (ds : List PyData) (δ : Sg) (Q : Sg → Prop) : Prop := ∃ δ', s ds δ = some δ' ∧ Q δ'
theorem w_name {Q : Sg → Prop} {c : Cell} (a : At δ i c) (f : c.free = true) (p : Put δ i (.fz d) δ') (h : Q δ') : Gs (sName i) d δ Q := ⟨δ', by unfold sName; rw [a.get]; dsimp only; rw [if_pos f, p.set], h⟩
theorem w_snil {Q : Sg → Prop} (h : Q δ) : Gss sNil [] δ Q := ⟨δ, rfl, h⟩
theorem w_scons {s : Tg} {r : Tgs} {Q : Sg → Prop} (h : Gs s d δ fun δ1 => Gss r ds δ1 Q) : Gss (sCons s r) (d :: ds) δ Q := by
  obtain ⟨δ1, e, δ2, e2, h⟩ := h
  exact ⟨δ2, by unfold sCons; dsimp only; rw [e]; exact e2, h⟩
theorem w_stup {n : Nat} {r : Tgs} {Q : Sg → Prop} (l : ds.length = n) (h : Gss r ds δ Q) : Gs (sTup n r) (.tuple ds) δ Q := by
  obtain ⟨δ1, e, h⟩ := h
  exact ⟨δ1, by unfold sTup; dsimp only; rw [if_pos l]; exact e, h⟩
theorem w_asg {f : M PyData} {s : Tg} {Q : Flo → Sg → Prop} (h : Gd f δ fun d δ1 => Gs s d δ1 (Q .nx)) : Gd (sAsg f s) δ Q := w_bnd (h.imp fun d δ1 h => by
  obtain ⟨δ2, e, h⟩ := h
  exact ⟨.nx, δ2, by dsimp only; rw [e], h⟩)
theorem w_own {f : M (List PyData)} {Q : Flo → Sg → Prop} (h : Gd f δ fun ds δ1 => ∃ c δ2, At δ1 i c ∧ c.free = true ∧ Put δ1 i (.ow false ds) δ2 ∧ Q .nx δ2) : Gd (sOwn f i) δ Q := w_bnd (h.imp fun ds δ1 h => by
  obtain ⟨c, δ2, a, f, p, h⟩ := h
  exact ⟨.nx, δ2, by dsimp only; rw [a.get]; dsimp only; rw [if_pos f, p.set], h⟩)
theorem w_ixO {g : M PyData} {b : Bool} {Q : PyData → Sg → Prop} (a : At δ i (.ow b ds)) (h : Gd g δ fun k δ1 => ∃ b' ds', At δ1 i (.ow b' ds') ∧ Gd (lif (ixD (.list ds') k)) δ1 Q) : Gd (xIxO i g) δ Q := by
  obtain ⟨k, δ1, e, b', ds', a', h⟩ := h
  obtain ⟨v, δ2, e2, h⟩ := h
  exact ⟨v, δ2, by unfold xIxO; rw [a.get]; try dsimp only; rw [bnd_eq e]; (try dsimp only); rw [a'.get]; exact e2, h⟩
theorem w_lenO {b : Bool} {Q : PyData → Sg → Prop} (a : At δ i (.ow b ds)) (h : Q (.int ds.length) δ) : Gd (xLenO i) δ Q := ⟨_, _, by unfold xLenO; rw [a.get], h⟩
theorem w_app {f : M PyData} {b : Bool} {Q : Flo → Sg → Prop} (a : At δ i (.ow b ds)) (h : Gd f δ fun d δ1 => ∃ b' ds' δ2, At δ1 i (.ow b' ds') ∧ ds'.length < 1000000 ∧ Put δ1 i (.ow b' (ds' ++ [d])) δ2 ∧ Q .nx δ2) : Gd (sApp i f) δ Q := by
  obtain ⟨k, δ1, e, b', ds', δ2, a', l, p, h⟩ := h
  exact ⟨.nx, δ2, by unfold sApp; rw [a.get]; dsimp only; rw [bnd_eq e]; (try dsimp only); rw [a'.get]; dsimp only; rw [if_pos (Nat.lt_of_lt_of_le l (by rw [sizeLine_eq]; decide)), p.set], h⟩
theorem w_sub {f g : M PyData} {Q : Flo → Sg → Prop} (h : Gd f δ fun d δ1 => ∃ b ds, At δ1 i (.ow b ds) ∧ Gd g δ1 fun k δ2 => ∃ b' ds' n j δ3, k = .int n ∧ At δ2 i (.ow b' ds') ∧ L2.ixN ds'.length n = some j ∧ Put δ2 i (.ow b' (ds'.set j d)) δ3 ∧ Q .nx δ3) : Gd (sSub f i g) δ Q := w_bnd (h.imp fun d δ1 h => by
  obtain ⟨b, ds, a, k, δ2, e, b', ds', n, j, δ3, rfl, a', ej, p, h⟩ := h
  exact ⟨.nx, δ3, by dsimp only; rw [a.get]; dsimp only; rw [bnd_eq e]; (try dsimp only); rw [a'.get]; dsimp only; rw [ej]; dsimp only; rw [p.set], h⟩)
theorem w_cmpO {F : PyData → PyData → Option PyData} {g : M PyData} {b : Bool} {Q : PyData → Sg → Prop} (a : At δ i (.ow b ds)) (h : Gd g δ fun k δ1 => ∃ b' ds' c, At δ1 i (.ow b' ds') ∧ F (.list ds') k = some (.bool c) ∧ Q (.bool c) δ1) : Gd (xCmpO F i g) δ Q := by
  obtain ⟨k, δ1, e, b', ds', c, a', e2, h⟩ := h
  exact ⟨_, δ1, by unfold xCmpO; rw [a.get]; dsimp only; rw [bnd_eq e]; (try dsimp only); rw [a'.get]; dsimp only; rw [e2], h⟩
/-! calls -/
theorem w_def {G : Sg → Option (Ans PyData × Sg)} {fs : M (List PyData)} {Q : PyData → Sg → Prop} (h : Gd fs δ fun ds δ1 => ∃ d o, G (ds.map .fz) = some (.ok d, o) ∧ Q d δ1) : Gd (xDef G fs) δ Q := w_bnd (h.imp fun ds δ1 h => by
  obtain ⟨d, o, e, h⟩ := h
  exact ⟨d, δ1, by dsimp only; rw [e], h⟩)
theorem w_defF {G : Sg → Option (Ans (List PyData) × Sg)} {fs : M (List PyData)} {Q : List PyData → Sg → Prop} (h : Gd fs δ fun ds δ1 => ∃ d o, G (ds.map .fz) = some (.ok d, o) ∧ Q d δ1) : Gd (xDefF G fs) δ Q := w_bnd (h.imp fun ds δ1 h => by
  obtain ⟨d, o, e, h⟩ := h
  exact ⟨d, δ1, by dsimp only; rw [e], h⟩)
theorem w_defT {G : Sg → Option (Ans PyData × Sg)} {fs : M (List PyData)} {Q : PyData → Sg → Prop} (h : Gd fs δ fun ds δ1 => ∃ d o, G [.ow true ds] = some (.ok d, o) ∧ Q d δ1) : Gd (xDefT G fs) δ Q := w_bnd (h.imp fun ds δ1 h => by
  obtain ⟨d, o, e, h⟩ := h
  exact ⟨d, δ1, by dsimp only; rw [e], h⟩)
theorem w_defO {G : Sg → Option (Ans PyData × Sg)} {fs : M (List PyData)} {b : Bool} {Q : PyData → Sg → Prop} (a : At δ i (.ow b os)) (h : Gd fs δ fun ds δ1 => ∃ b' os' b'' os'' d o δ2, At δ1 i (.ow b' os') ∧ G (.ow true os' :: ds.map .fz) = some (.ok d, .ow b'' os'' :: o) ∧ Put δ1 i (.ow b' os'') δ2 ∧ Q d δ2) : Gd (xDefO G i fs) δ Q := by
  obtain ⟨ds, δ1, e, b', os', b'', os'', d, o, δ2, a', e2, p, h⟩ := h
  exact ⟨d, δ2, by unfold xDefO; rw [a.get]; dsimp only; rw [bnd_eq e]; (try dsimp only); rw [a'.get]; dsimp only; rw [e2]; dsimp only; rw [p.set], h⟩
theorem w_def2 {G : Sg → Option (Ans PyData × Sg)} {j : Nat} {b c b1 b2 : Bool} {os us os' us' : List PyData} {δ1 δ2 : Sg} {Q : PyData → Sg → Prop} (a : At δ i (.ow b os)) (a2 : At δ j (.ow c us)) (n : i ≠ j)
    (e : G [.ow true os, .ow true us] = some (.ok d, [.ow b1 os', .ow b2 us'])) (p : Put δ i (.ow b os') δ1) (p2 : Put δ1 j (.ow c us') δ2) (h : Q d δ2) : Gd (xDef2 G i j) δ Q :=
  ⟨d, δ2, by unfold xDef2; rw [a.get, a2.get]; dsimp only; rw [if_pos n, e]; dsimp only; rw [p.set, p2.set], h⟩
theorem w_orF {f g : M (List PyData)} {Q : List PyData → Sg → Prop} (h : Gd f δ fun ds δ1 => Gd (cond ds.isEmpty g (ret ds)) δ1 Q) : Gd (xOrF f g) δ Q := w_bnd (h.imp fun _ _ h => w_cond h)
theorem w_part {f : M PyData} {Q : Option Int → Sg → Prop} (h : Gd f δ fun d δ1 => ∃ n, d = .int n ∧ Q (some n) δ1) : Gd (xPart f) δ Q := w_bnd (h.imp fun d δ1 h => by
  obtain ⟨n, rfl, h⟩ := h
  exact w_lif rfl h)
theorem w_sl {f : M PyData} {lo hi : M (Option Int)} {Q : PyData → Sg → Prop} (h : Gd f δ fun d δ1 => Gd lo δ1 fun l δ2 => Gd hi δ2 fun u δ3 => Gd (lif (sliceD d l u)) δ3 Q) : Gd (xSl f lo hi) δ Q := w_bnd (h.imp fun _ _ h => w_bnd (h.imp fun _ _ h => w_bnd h))
theorem w_repF {fs : M (List PyData)} {g : M PyData} {Q : List PyData → Sg → Prop} (h : Gd fs δ fun ds δ1 => Gd g δ1 fun b δ2 => ∃ n : Nat, b = .int n ∧ ds.length * n ≤ 1000000 ∧ n ≤ 1000000 ∧ Q (List.replicate n ds).flatten δ2) : Gd (xRepF fs g) δ Q := w_bnd (h.imp fun ds _ h => w_bnd (h.imp fun b _ h => by
  obtain ⟨n, rfl, l, l2, h⟩ := h
  refine w_lif ?_ h
  dsimp only
  rw [if_pos ⟨by omega, by omega, Nat.le_trans (by simpa using l) (by rw [sizeLine_eq]; decide)⟩]
  simp))
/-! loops and comprehensions -/
theorem w_loop {set : Tg} {b : MS} {Q : Flo → Sg → Prop} (I : Nat → Sg → Prop) (h0 : I 0 δ)
    (step : ∀ (j : Nat) (d : PyData), ds[j]? = some d → ∀ δ, I j δ → Gs set d δ fun δ1 => Gd b δ1 fun fl δ2 => fl = .nx ∧ I (j + 1) δ2) (h : ∀ δ', I ds.length δ' → Q .nx δ') : Gd (loopD set b ds) δ Q := by
  obtain ⟨δ', e, q⟩ := loop_inv (set := set) (b := b) I h0 fun j d e δ hi => by
    obtain ⟨δ1, e1, fl, δ2, e2, rfl, h⟩ := step j d e δ hi
    exact ⟨δ1, δ2, e1, e2, h⟩
  exact ⟨.nx, δ', e, h δ' q⟩
theorem w_for {it : M (List PyData)} {set : Tg} {b : MS} {Q : Flo → Sg → Prop} (h : Gd it δ fun ds δ1 => Gd (loopD set b ds) δ1 Q) : Gd (sFor it set b) δ Q := w_bnd h
/-- the names of a comprehension: wiped and given back -/
theorem w_comp {it : M (List PyData)} {is : List Nat} {set : Tg} {t : M Bool} {el : M PyData} {Q : List PyData → Sg → Prop}
    (h : Gd it δ fun ds δ1 => noOw δ1 is = true ∧ ∃ acc δ2, compD is set t el ds [] (wipeD δ1 is) = some (acc, δ2) ∧ Q acc (backD δ1 δ2 is)) : Gd (xComp it is set t el) δ Q := by
  obtain ⟨ds, δ1, e, n, acc, δ2, e2, h⟩ := h
  exact ⟨acc, _, xComp_eq e n e2, h⟩
/-- a comprehension whose elements are made by a plain function and leave the state -/
theorem comp_fun {is : List Nat} {set : Tg} {el : M PyData} (f : PyData → PyData) (hl : ds.length ≤ 1000000)
    (step : ∀ d, d ∈ ds → Gs set d δ fun δ1 => Gd el δ1 fun y δ3 => y = f d ∧ noOw δ3 is = true ∧ wipeD δ3 is = δ) : compD is set (ret true) el ds [] δ = some (ds.map f, δ) := by
  have q := comp_map (is := is) (set := set) (el := el) (ds := ds) (acc := []) (δ := δ) f (by simpa using hl) fun d hd => by
    obtain ⟨δ1, e1, y, δ3, e2, rfl, n, w⟩ := step d hd
    exact ⟨δ1, δ3, e1, e2, n, w⟩
  simpa using q
theorem w_runD {m : Nat} {g : MS} {cells out : Sg} (h : Gd g (cells ++ List.replicate (m - cells.length) .un) fun fl δ' => fl = .rt d ∧ keepO cells δ' = some out) : runD m g cells = some (.ok d, out) := by
  obtain ⟨fl, δ', e, rfl, k⟩ := h
  unfold runD
  rw [e]
  dsimp only
  rw [k]
  rfl
theorem w_runDF {m : Nat} {g : MS} {cells out : Sg} (h : Gd g (cells ++ List.replicate (m - cells.length) .un) fun fl δ' => fl = .rf ds ∧ keepO cells δ' = some out) : runD m g cells = some (.ok (.list ds), out) := by
  obtain ⟨fl, δ', e, rfl, k⟩ := h
  unfold runD
  rw [e]
  dsimp only
  rw [k]
  rfl
theorem w_runF {m : Nat} {g : MS} {cells out : Sg} (h : Gd g (cells ++ List.replicate (m - cells.length) .un) fun fl δ' => fl = .rf ds ∧ keepO cells δ' = some out) : runF m g cells = some (.ok ds, out) := by
  obtain ⟨fl, δ', e, rfl, k⟩ := h
  unfold runF
  rw [e]
  dsimp only
  rw [k]
  rfl
/-! operations at numbers -/
theorem o_add (x y : Int) : addD (.int x) (.int y) = some (.int (x + y)) := rfl
theorem o_sub (x y : Int) : subD (.int x) (.int y) = some (.int (x - y)) := rfl
theorem o_mul {x y : Int} (h : mulOk x y = true) : mulD (.int x) (.int y) = some (.int (x * y)) := by unfold mulD mulI intsD; dsimp only; rw [if_pos h]
theorem o_mod {x y : Int} (h : y ≠ 0) : modD (.int x) (.int y) = some (.int (x.fmod y)) := by unfold modD intsD; dsimp only; rw [if_pos (by simpa using h)]
theorem o_div {x y : Int} (h : divOk y = true) : fdivD (.int x) (.int y) = some (.int (x.fdiv y)) := by unfold fdivD intsD; dsimp only; rw [if_pos h]
theorem o_lt (x y : Int) : ltD (.int x) (.int y) = some (.bool (decide (x < y))) := rfl
theorem o_le (x y : Int) : leD (.int x) (.int y) = some (.bool (decide (x ≤ y))) := rfl
theorem o_gt (x y : Int) : gtD (.int x) (.int y) = some (.bool (decide (y < x))) := rfl
theorem o_ge (x y : Int) : geD (.int x) (.int y) = some (.bool (decide (y ≤ x))) := rfl
theorem o_eqI (x y : Int) : eqD (.int x) (.int y) = some (.bool (decide (x = y))) := by simp [eqD, SeqAt.shaped, PyData.eqv, PyData.canLay0, PyData.depth]; rfl
theorem o_zip {a b : PyData} {xs ys : List PyData} (h : seqD a = some xs) (h2 : seqD b = some ys) : zipD [a, b] = some (pairL xs ys) := by unfold zipD; dsimp only; rw [h, h2]
theorem o_bools (bs : List Bool) : bools? (bs.map .bool) = some bs := by
  induction bs with
  | nil => rfl
  | cons b bs ih => simp [bools?, ih]
theorem o_all (bs : List Bool) : allD [.list (bs.map .bool)] = some (.bool (bs.all id)) := by unfold allD; dsimp only; rw [o_bools]; rfl
theorem o_tup0 (n : Nat) (h : n ≤ 1000) : mulD (.tuple [.int 0]) (.int (n : Int)) = some (.tuple ((List.replicate n (0 : Int)).map .int)) := by
  simp [mulD, mulI, intsD, repT]
  omega
theorem noOw_nil : noOw δ [] = true := rfl
theorem free_un : Cell.free .un = true := rfl
theorem free_fz {d : PyData} : Cell.free (.fz d) = true := rfl
theorem free_ow {ds : List PyData} : Cell.free (.ow false ds) = true := rfl
theorem len1 {a : PyData} : [a].length = 1 := rfl
theorem len2 {a b : PyData} : [a, b].length = 2 := rfl
theorem len3 {a b c : PyData} : [a, b, c].length = 3 := rfl
theorem len_and {ds : List PyData} {R : Prop} (l : ds.length ≤ 1000000) (h : R) : ds.length ≤ 1000000 ∧ R := ⟨l, h⟩
end PD
end

local macro_rules | `(tactic| walk_at "wp") => `(tactic| (repeat' (with_reducible first | apply PD.w_bnd | apply PD.w_ret | (apply PD.w_var; (focus ((repeat (first | exact PD.At.z | apply PD.At.s)); done))) | apply PD.w_bin | apply PD.w_un | apply PD.w_binF | apply PD.w_tup | apply PD.w_lst | apply PD.w_call | apply PD.w_callF' | apply PD.w_callF | apply PD.w_seqv | apply PD.w_tru | apply PD.w_bool | apply PD.w_andT | apply PD.w_orT | apply PD.w_notT | apply PD.w_and | apply PD.w_or | apply PD.w_not | apply PD.w_if | apply PD.w_it | apply PD.w_ie | apply PD.w_chain | apply PD.w_seq | apply PD.nx_nx | apply PD.nx_rt | apply PD.nx_rf | apply PD.w_skip | apply PD.w_sret | apply PD.w_sretF | apply PD.w_sif | apply PD.w_asg | apply PD.w_for | apply PD.w_own | (apply PD.w_name; (focus ((repeat (first | exact PD.At.z | apply PD.At.s)); done)); (first | exact PD.free_fz | exact PD.free_un | exact PD.free_ow | assumption); (focus ((repeat (first | exact PD.Put.z | apply PD.Put.s)); done))) | apply PD.w_snil | apply PD.w_scons | (apply PD.w_stup; first | exact PD.len2 | exact PD.len3 | exact PD.len1) | apply PD.w_def | apply PD.w_defF | apply PD.w_defT | apply PD.w_orF | apply PD.w_part | apply PD.w_sl | apply PD.w_repF | apply PD.w_comp | (apply PD.len_and; (focus (simp only [List.length_cons, List.length_nil, Nat.zero_add, Nat.reduceAdd, Nat.reduceLeDiff]; done))))))
local macro_rules | `(tactic| walk_at "w_run") => `(tactic| ((first | refine PD.w_runD ?_ | refine PD.w_runF ?_) <;> simp only [List.length_cons, List.length_nil, List.replicate, List.cons_append, List.nil_append, Nat.reduceAdd, Nat.reduceSub, List.map_cons, List.map_nil]))
local macro_rules | `(tactic| walk_at "w_at") => `(tactic| (focus ((repeat (first | exact PD.At.z | apply PD.At.s)); done)))
local macro_rules | `(tactic| walk_at "w_put") => `(tactic| (focus ((repeat (first | exact PD.Put.z | apply PD.Put.s)); done)))

section
set_option linter.all false
set_option maxRecDepth 100000
namespace K03
open PySem PD

def B_power : MS :=
  (sSeq (sAsg (ret (.int 1)) (sName 2))
  (sSeq (sFor (xCallF' range1D (bnd (xVar 1) fun d => bnd (ret []) fun ds => ret (d :: ds))) (sName 3) (sAug mulI 2 (xVar 0)))
  (sRet (xVar 2))))
def g_power : Sg → Option (Ans PyData × Sg) := runD 4 B_power
def B_all_rows : MS :=
  (sSeq (sAsg (bnd (xLst (bnd (xTup (ret [])) fun d => bnd (ret []) fun ds => ret (d :: ds))) fun ds => ret (.list ds)) (sName 2))
  (sSeq (sFor (xCallF' range1D (bnd (xVar 1) fun d => bnd (ret []) fun ds => ret (d :: ds))) (sName 3) (sAsg (bnd (xComp2 (xSeq (xVar 2)) [4, 5] [5] (sName 4) (ret true) (xCallF' range1D (bnd (xVar 0) fun d => bnd (ret []) fun ds => ret (d :: ds))) (sName 5) (ret true) (xTup (bnd (xVar 4) fun d => bnd (lif (seqD d)) fun xs => bnd (bnd (xVar 5) fun d => bnd (ret []) fun ds => ret (d :: ds)) fun ds => ret (xs ++ ds)))) fun ds => ret (.list ds)) (sName 2)))
  (sRet (xVar 2))))
def g_all_rows : Sg → Option (Ans PyData × Sg) := runD 6 B_all_rows
def B_inverse : MS :=
  (sSeq (sFor (xCallF' range1D (bnd (xVar 0) fun d => bnd (ret []) fun ds => ret (d :: ds))) (sName 2) (sIf (xBool (xBin eqD (xBin modD (xBin mulD (xVar 2) (xVar 1)) (xVar 0)) (ret (.int 1)))) (sRet (xVar 2)) sSkip))
  (sRaise "Unfit"))
def g_inverse : Sg → Option (Ans PyData × Sg) := runD 3 B_inverse
def B_row_by : MS :=
  (sSeq (sAsg (bnd (xRepF (xLst (bnd (ret (.int 0)) fun d => bnd (ret []) fun ds => ret (d :: ds))) (xVar 3)) fun ds => ret (.list ds)) (sName 4))
  (sSeq (sFor (xCallF' zipD (bnd (xVar 1) fun d => bnd (bnd (xVar 2) fun d => bnd (ret []) fun ds => ret (d :: ds)) fun ds => ret (d :: ds))) (sTup 2 (sCons (sName 5) (sCons (sName 6) sNil))) (sIf (xTru (xVar 6)) (sAsg (bnd (xComp (xCallF' zipD (bnd (xVar 4) fun d => bnd (bnd (xVar 5) fun d => bnd (ret []) fun ds => ret (d :: ds)) fun ds => ret (d :: ds))) [7, 8] (sTup 2 (sCons (sName 7) (sCons (sName 8) sNil))) (ret true) (xBin modD (xBin addD (xVar 7) (xBin mulD (xVar 6) (xVar 8))) (xVar 0))) fun ds => ret (.list ds)) (sName 4)) sSkip))
  (sRet (xCall tupleD (bnd (xVar 4) fun d => bnd (ret []) fun ds => ret (d :: ds))))))
def g_row_by : Sg → Option (Ans PyData × Sg) := runD 9 B_row_by
def B__scaled : MS :=
  (sRet (bnd (xComp (xSeq (xVar 1)) [3] (sName 3) (ret true) (xBin modD (xBin mulD (xVar 3) (xVar 2)) (xVar 0))) fun ds => ret (.list ds)))
def g__scaled : Sg → Option (Ans PyData × Sg) := runD 4 B__scaled
def B__less : MS :=
  (sRet (bnd (xComp (xCallF' zipD (bnd (xVar 1) fun d => bnd (bnd (xVar 2) fun d => bnd (ret []) fun ds => ret (d :: ds)) fun ds => ret (d :: ds))) [4, 5] (sTup 2 (sCons (sName 4) (sCons (sName 5) sNil))) (ret true) (xBin modD (xBin subD (xVar 4) (xBin mulD (xVar 3) (xVar 5))) (xVar 0))) fun ds => ret (.list ds)))
def g__less : Sg → Option (Ans PyData × Sg) := runD 6 B__less
def B__width : MS :=
  (sRet (xIf (xTru (xVar 0)) (xCall lenD (bnd (xBin ixD (xVar 0) (ret (.int 0))) fun d => bnd (ret []) fun ds => ret (d :: ds))) (ret (.int 0))))
def g__width : Sg → Option (Ans PyData × Sg) := runD 1 B__width
def B__lead : MS :=
  (sRet (xBin ixD (bnd (xComp (xCallF' enumD (bnd (xVar 0) fun d => bnd (ret []) fun ds => ret (d :: ds))) [1, 2] (sTup 2 (sCons (sName 1) (sCons (sName 2) sNil))) (xTru (xVar 2)) (xVar 1)) fun ds => ret (.list ds)) (ret (.int 0))))
def g__lead : Sg → Option (Ans PyData × Sg) := runD 3 B__lead
def B__law_box : MS :=
  (sSeq (sAsg (xIf (xBool (xBin ltD (xVar 1) (xCall lenD (bnd (xVar 0) fun d => bnd (ret []) fun ds => ret (d :: ds))))) (xBin ixD (xVar 0) (xVar 1)) (ret (.int 0))) (sName 2))
  (sRetF (xLst (bnd (xBin mulD (xCall absD (bnd (xVar 2) fun d => bnd (ret []) fun ds => ret (d :: ds))) (xCall intD (bnd (xBin geD (xCall absD (bnd (xVar 2) fun d => bnd (ret []) fun ds => ret (d :: ds))) (xBin powD (ret (.int 10)) (ret (.int 18)))) fun d => bnd (ret []) fun ds => ret (d :: ds)))) fun d => bnd (bnd (xBin addD (xBin addD (xBin modD (xCall intD (bnd (xVar 2) fun d => bnd (ret []) fun ds => ret (d :: ds))) (ret (.int 2305843009213693951))) (xBin mulD (ret (.int 39373)) (xVar 1))) (ret (.int 3155003))) fun d => bnd (bnd (ret (.int 0)) fun d => bnd (ret []) fun ds => ret (d :: ds)) fun ds => ret (d :: ds)) fun ds => ret (d :: ds)))))
def g__law_box : Sg → Option (Ans (List PyData) × Sg) := runF 3 B__law_box
def B__law_take : MS :=
  (sSeq (sIf (xBool (xBin gtD (xIxO 0 (ret (.int 0))) (ret (.int 0)))) (sSeq (sAsg (xBin modD (xCall intD (bnd (xIxO 0 (ret (.int 0))) fun d => bnd (ret []) fun ds => ret (d :: ds))) (xVar 1)) (sName 2))
  (sSeq (sSub (xBin fdivD (xIxO 0 (ret (.int 0))) (xVar 1)) 0 (ret (.int 0)))
  (sRet (xVar 2)))) sSkip)
  (sSeq (sSub (xBin addD (xIxO 0 (ret (.int 2))) (ret (.int 1))) 0 (ret (.int 2)))
  (sSeq (sAsg (xBin modD (xCall intD (bnd (xBin mulD (xBin addD (xIxO 0 (ret (.int 1))) (xBin mulD (ret (.int 48271)) (xIxO 0 (ret (.int 2))))) (xBin addD (ret (.int 39373)) (xIxO 0 (ret (.int 2))))) fun d => bnd (ret []) fun ds => ret (d :: ds))) (ret (.int 2147483647))) (sName 3))
  (sSeq (sAsg (xBin addD (xBin modD (xCall intD (bnd (xVar 3) fun d => bnd (ret []) fun ds => ret (d :: ds))) (ret (.int 40009))) (ret (.int 7))) (sName 4))
  (sSeq (sAsg (xBin modD (xCall intD (bnd (xBin mulD (xBin addD (xBin addD (xVar 3) (xIxO 0 (ret (.int 2)))) (xBin fdivD (xIxO 0 (ret (.int 1))) (ret (.int 1000003)))) (xVar 4)) fun d => bnd (ret []) fun ds => ret (d :: ds))) (ret (.int 2147483629))) (sName 5))
  (sRet (xBin modD (xCall intD (bnd (xBin fdivD (xBin modD (xCall intD (bnd (xBin addD (xBin mulD (xVar 5) (ret (.int 48271))) (xVar 3)) fun d => bnd (ret []) fun ds => ret (d :: ds))) (ret (.int 2147483587))) (ret (.int 64))) fun d => bnd (ret []) fun ds => ret (d :: ds))) (xVar 1))))))))
def g__law_take : Sg → Option (Ans PyData × Sg) := runD 6 B__law_take
def B__law_cells : MS :=
  (sSeq (sOwn (xOrF (xCallF listD (bnd (xSl (xVar 0) (ret none) (xPart (xVar 1))) fun d => bnd (ret []) fun ds => ret (d :: ds))) (xLst (bnd (ret (.int 0)) fun d => bnd (ret []) fun ds => ret (d :: ds)))) 2)
  (sSeq (sFor (xCallF' enumD (bnd (xSl (xVar 0) (xPart (xVar 1)) (xPart (ret (.int 63)))) fun d => bnd (ret []) fun ds => ret (d :: ds))) (sTup 2 (sCons (sName 3) (sCons (sName 4) sNil))) (sSeq (sAsg (xBin modD (xCall intD (bnd (xVar 3) fun d => bnd (ret []) fun ds => ret (d :: ds))) (xVar 1)) (sName 5))
  (sSub (xBin addD (xIxO 2 (xVar 5)) (xBin mulD (xVar 4) (xBin addD (xVar 3) (ret (.int 2))))) 2 (xVar 5))))
  (sRet (xVar 2))))
def g__law_cells : Sg → Option (Ans PyData × Sg) := runD 6 B__law_cells
def B__law_plus : MS :=
  (sRet (xCall tupleD (bnd (bnd (xComp (xCallF' zipD (bnd (xVar 1) fun d => bnd (bnd (xVar 2) fun d => bnd (ret []) fun ds => ret (d :: ds)) fun ds => ret (d :: ds))) [4, 5] (sTup 2 (sCons (sName 4) (sCons (sName 5) sNil))) (ret true) (xBin modD (xCall intD (bnd (xBin addD (xVar 4) (xBin mulD (xVar 3) (xVar 5))) fun d => bnd (ret []) fun ds => ret (d :: ds))) (xVar 0))) fun ds => ret (.list ds)) fun d => bnd (ret []) fun ds => ret (d :: ds))))
def g__law_plus : Sg → Option (Ans PyData × Sg) := runD 6 B__law_plus
def B__law_unit : MS :=
  (sRet (xCall tupleD (bnd (bnd (xComp (xCallF' range1D (bnd (xVar 0) fun d => bnd (ret []) fun ds => ret (d :: ds))) [2] (sName 2) (ret true) (xCall intD (bnd (xBin eqD (xVar 2) (xVar 1)) fun d => bnd (ret []) fun ds => ret (d :: ds)))) fun ds => ret (.list ds)) fun d => bnd (ret []) fun ds => ret (d :: ds))))
def g__law_unit : Sg → Option (Ans PyData × Sg) := runD 3 B__law_unit
def B__law_tuples : MS :=
  (sSeq (sAsg (bnd (xLst (bnd (xTup (ret [])) fun d => bnd (ret []) fun ds => ret (d :: ds))) fun ds => ret (.list ds)) (sName 2))
  (sSeq (sFor (xCallF' range1D (bnd (xVar 1) fun d => bnd (ret []) fun ds => ret (d :: ds))) (sName 3) (sSeq (sAsg (bnd (xLst (ret [])) fun ds => ret (.list ds)) (sName 4))
  (sSeq (sFor (xSeq (xVar 2)) (sName 5) (sAsg (bnd (xBinF catL (xVar 4) (bnd (xComp (xCallF' range1D (bnd (xVar 0) fun d => bnd (ret []) fun ds => ret (d :: ds))) [6] (sName 6) (ret true) (xBin addD (xVar 5) (xTup (bnd (xVar 6) fun d => bnd (ret []) fun ds => ret (d :: ds))))) fun ds => ret (.list ds))) fun ds => ret (.list ds)) (sName 4)))
  (sAsg (xVar 4) (sName 2)))))
  (sRet (xVar 2))))
def g__law_tuples : Sg → Option (Ans PyData × Sg) := runD 7 B__law_tuples
def B__law_lead : MS :=
  (sSeq (sAsg (bnd (xComp (xCallF' enumD (bnd (xVar 0) fun d => bnd (ret []) fun ds => ret (d :: ds))) [2, 3] (sTup 2 (sCons (sName 2) (sCons (sName 3) sNil))) (xBool (xBin neD (xVar 3) (ret (.int 0)))) (xVar 2)) fun ds => ret (.list ds)) (sName 1))
  (sRet (xIf (xBool (xBin neD (xVar 1) (bnd (xLst (ret [])) fun ds => ret (.list ds)))) (xBin ixD (xVar 1) (ret (.int 0))) (xUn negD (ret (.int 1))))))
def g__law_lead : Sg → Option (Ans PyData × Sg) := runD 4 B__law_lead
def B__echelon : MS :=
  (sSeq (sOwn (xComp (xSeq (xVar 1)) [9] (sName 9) (ret true) (bnd (xCallF listD (bnd (xVar 9) fun d => bnd (ret []) fun ds => ret (d :: ds))) fun ds => ret (.list ds))) 3)
  (sSeq (sOwn (xLst (ret [])) 4)
  (sSeq (sFor (xCallF' range1D (bnd (xVar 2) fun d => bnd (ret []) fun ds => ret (d :: ds))) (sName 5) (sSeq (sAsg (xLenO 4) (sName 6))
  (sSeq (sAsg (bnd (xComp (xCallF' range2D (bnd (xVar 6) fun d => bnd (bnd (xLenO 3) fun d => bnd (ret []) fun ds => ret (d :: ds)) fun ds => ret (d :: ds))) [10] (sName 10) (xTru (xBin ixD (xIxO 3 (xVar 10)) (xVar 5))) (xVar 10)) fun ds => ret (.list ds)) (sName 7))
  (sSeq (sIf (xNotT (xTru (xVar 7))) (ret .ct) sSkip)
  (sSeq (sAsg (xTup (bnd (xIxO 3 (xBin ixD (xVar 7) (ret (.int 0)))) fun d => bnd (bnd (xIxO 3 (xVar 6)) fun d => bnd (ret []) fun ds => ret (d :: ds)) fun ds => ret (d :: ds))) (sTup 2 (sCons (sSubT 3 (xVar 6)) (sCons (sSubT 3 (xBin ixD (xVar 7) (ret (.int 0)))) sNil))))
  (sSeq (sAsg (xDef g__scaled (bnd (xVar 0) fun d => bnd (bnd (xIxO 3 (xVar 6)) fun d => bnd (bnd (xDef g_inverse (bnd (xVar 0) fun d => bnd (bnd (xBin ixD (xIxO 3 (xVar 6)) (xVar 5)) fun d => bnd (ret []) fun ds => ret (d :: ds)) fun ds => ret (d :: ds))) fun d => bnd (ret []) fun ds => ret (d :: ds)) fun ds => ret (d :: ds)) fun ds => ret (d :: ds))) (sName 8))
  (sSeq (sOwn (xComp (xSeq (xVar 3)) [11] (sName 11) (ret true) (xIf (xTru (xBin ixD (xVar 11) (xVar 5))) (xDef g__less (bnd (xVar 0) fun d => bnd (bnd (xVar 11) fun d => bnd (bnd (xVar 8) fun d => bnd (bnd (xBin ixD (xVar 11) (xVar 5)) fun d => bnd (ret []) fun ds => ret (d :: ds)) fun ds => ret (d :: ds)) fun ds => ret (d :: ds)) fun ds => ret (d :: ds))) (xVar 11))) 3)
  (sSeq (sSub (xVar 8) 3 (xVar 6))
  (sApp 4 (xVar 5))))))))))
  (sRet (xTup (bnd (xVar 3) fun d => bnd (bnd (xVar 4) fun d => bnd (ret []) fun ds => ret (d :: ds)) fun ds => ret (d :: ds)))))))
def g__echelon : Sg → Option (Ans PyData × Sg) := runD 12 B__echelon
def B__reduced : MS :=
  (sSeq (sAsg (bnd (xCallF listD (bnd (xVar 1) fun d => bnd (ret []) fun ds => ret (d :: ds))) fun ds => ret (.list ds)) (sName 3))
  (sSeq (sFor (xSeq (xVar 2)) (sName 4) (sSeq (sAsg (xBin ixD (xVar 3) (xDef g__lead (bnd (xVar 4) fun d => bnd (ret []) fun ds => ret (d :: ds)))) (sName 5))
  (sIf (xTru (xVar 5)) (sAsg (xDef g__less (bnd (xVar 0) fun d => bnd (bnd (xVar 3) fun d => bnd (bnd (xVar 4) fun d => bnd (bnd (xVar 5) fun d => bnd (ret []) fun ds => ret (d :: ds)) fun ds => ret (d :: ds)) fun ds => ret (d :: ds)) fun ds => ret (d :: ds))) (sName 3)) sSkip)))
  (sRet (xCall tupleD (bnd (xVar 3) fun d => bnd (ret []) fun ds => ret (d :: ds))))))
def g__reduced : Sg → Option (Ans PyData × Sg) := runD 6 B__reduced
def B__law_of : MS :=
  (sRet (xBin ixD (xVar 1) (xDefO g__law_take 0 (bnd (xCall lenD (bnd (xVar 1) fun d => bnd (ret []) fun ds => ret (d :: ds))) fun d => bnd (ret []) fun ds => ret (d :: ds)))))
def g__law_of : Sg → Option (Ans PyData × Sg) := runD 2 B__law_of
def B__law_of2 : MS :=
  (sRet (xIxO 1 (xDefO g__law_take 0 (bnd (xLenO 1) fun d => bnd (ret []) fun ds => ret (d :: ds)))))
def g__law_of2 : Sg → Option (Ans PyData × Sg) := runD 2 B__law_of2
def B__law_mixed : MS :=
  (sSeq (sAsg (xBin mulD (xTup (bnd (ret (.int 0)) fun d => bnd (ret []) fun ds => ret (d :: ds))) (xVar 3)) (sName 4))
  (sSeq (sFor (xCallF' zipD (bnd (xVar 1) fun d => bnd (bnd (xVar 2) fun d => bnd (ret []) fun ds => ret (d :: ds)) fun ds => ret (d :: ds))) (sTup 2 (sCons (sName 5) (sCons (sName 6) sNil))) (sAsg (xDef g__law_plus (bnd (xVar 0) fun d => bnd (bnd (xVar 4) fun d => bnd (bnd (xVar 5) fun d => bnd (bnd (xVar 6) fun d => bnd (ret []) fun ds => ret (d :: ds)) fun ds => ret (d :: ds)) fun ds => ret (d :: ds)) fun ds => ret (d :: ds))) (sName 4)))
  (sRet (xVar 4))))
def g__law_mixed : Sg → Option (Ans PyData × Sg) := runD 7 B__law_mixed
def B_basis : MS :=
  (sSeq (sAsg (xDef g__echelon (bnd (xVar 0) fun d => bnd (bnd (xVar 1) fun d => bnd (bnd (xDef g__width (bnd (xVar 1) fun d => bnd (ret []) fun ds => ret (d :: ds))) fun d => bnd (ret []) fun ds => ret (d :: ds)) fun ds => ret (d :: ds)) fun ds => ret (d :: ds))) (sTup 2 (sCons (sName 2) (sCons (sName 3) sNil))))
  (sRet (xCall tupleD (bnd (bnd (xComp (xSeq (xSl (xVar 2) (ret none) (xPart (xCall lenD (bnd (xVar 3) fun d => bnd (ret []) fun ds => ret (d :: ds)))))) [4] (sName 4) (ret true) (xCall tupleD (bnd (xVar 4) fun d => bnd (ret []) fun ds => ret (d :: ds)))) fun ds => ret (.list ds)) fun d => bnd (ret []) fun ds => ret (d :: ds)))))
def g_basis : Sg → Option (Ans PyData × Sg) := runD 5 B_basis
def B_rank : MS :=
  (sRet (xCall lenD (bnd (xBin ixD (xDef g__echelon (bnd (xVar 0) fun d => bnd (bnd (xVar 1) fun d => bnd (bnd (xDef g__width (bnd (xVar 1) fun d => bnd (ret []) fun ds => ret (d :: ds))) fun d => bnd (ret []) fun ds => ret (d :: ds)) fun ds => ret (d :: ds)) fun ds => ret (d :: ds))) (ret (.int 1))) fun d => bnd (ret []) fun ds => ret (d :: ds))))
def g_rank : Sg → Option (Ans PyData × Sg) := runD 2 B_rank
def B__law_sums : MS :=
  (sSeq (sDNew (.t []) 3)
  (sSeq (sFor (xSeq (xDef g__law_tuples (bnd (xVar 0) fun d => bnd (bnd (xCall lenD (bnd (xVar 1) fun d => bnd (ret []) fun ds => ret (d :: ds))) fun d => bnd (ret []) fun ds => ret (d :: ds)) fun ds => ret (d :: ds)))) (sName 4) (sDPut (ret (.bool true)) 3 (xDef g__law_mixed (bnd (xVar 0) fun d => bnd (bnd (xVar 1) fun d => bnd (bnd (xVar 4) fun d => bnd (bnd (xVar 2) fun d => bnd (ret []) fun ds => ret (d :: ds)) fun ds => ret (d :: ds)) fun ds => ret (d :: ds)) fun ds => ret (d :: ds)))))
  (sRet (bnd (xSortDi 3) fun ds => ret (.list ds)))))
def g__law_sums : Sg → Option (Ans PyData × Sg) := runD 5 B__law_sums
def B__law_drawn_vectors : MS :=
  (sSeq (sOwn (xLst (ret [])) 4)
  (sSeq (sFor (xCallF' range1D (bnd (xVar 2) fun d => bnd (ret []) fun ds => ret (d :: ds))) (sName 5) (sSeq (sAsg (xDefO g__law_take 0 (bnd (ret (.int 6)) fun d => bnd (ret []) fun ds => ret (d :: ds))) (sName 6))
  (sIf (xBool (xBin eqD (xVar 6) (ret (.int 0)))) (sApp 4 (xBin mulD (xTup (bnd (ret (.int 0)) fun d => bnd (ret []) fun ds => ret (d :: ds))) (xVar 3))) (sIf (xAndT (xBool (xBin eqD (xVar 6) (ret (.int 1)))) (xBool (xCmpO neD 4 (bnd (xLst (ret [])) fun ds => ret (.list ds))))) (sApp 4 (xDef g__law_plus (bnd (xVar 1) fun d => bnd (bnd (xBin mulD (xTup (bnd (ret (.int 0)) fun d => bnd (ret []) fun ds => ret (d :: ds))) (xVar 3)) fun d => bnd (bnd (xDef2 g__law_of2 0 4) fun d => bnd (bnd (xDefO g__law_take 0 (bnd (xVar 1) fun d => bnd (ret []) fun ds => ret (d :: ds))) fun d => bnd (ret []) fun ds => ret (d :: ds)) fun ds => ret (d :: ds)) fun ds => ret (d :: ds)) fun ds => ret (d :: ds)))) (sApp 4 (xCall tupleD (bnd (bnd (xComp (xCallF' range1D (bnd (xVar 3) fun d => bnd (ret []) fun ds => ret (d :: ds))) [7] (sName 7) (ret true) (xDefO g__law_take 0 (bnd (xVar 1) fun d => bnd (ret []) fun ds => ret (d :: ds)))) fun ds => ret (.list ds)) fun d => bnd (ret []) fun ds => ret (d :: ds))))))))
  (sRet (xCall tupleD (bnd (xVar 4) fun d => bnd (ret []) fun ds => ret (d :: ds))))))
def g__law_drawn_vectors : Sg → Option (Ans PyData × Sg) := runD 8 B__law_drawn_vectors
def B__law_drawn_shape : MS :=
  (sSeq (sAsg (xDefO g__law_of 0 (bnd (bnd (xLst (bnd (ret (.int 2)) fun d => bnd (bnd (ret (.int 2)) fun d => bnd (bnd (ret (.int 3)) fun d => bnd (bnd (ret (.int 3)) fun d => bnd (bnd (ret (.int 5)) fun d => bnd (ret []) fun ds => ret (d :: ds)) fun ds => ret (d :: ds)) fun ds => ret (d :: ds)) fun ds => ret (d :: ds)) fun ds => ret (d :: ds))) fun ds => ret (.list ds)) fun d => bnd (ret []) fun ds => ret (d :: ds))) (sName 1))
  (sSeq (sAsg (xBin ixD (bnd (xLst (bnd (ret (.int 0)) fun d => bnd (bnd (ret (.int 0)) fun d => bnd (bnd (ret (.int 5)) fun d => bnd (bnd (ret (.int 3)) fun d => bnd (bnd (ret (.int 0)) fun d => bnd (bnd (ret (.int 2)) fun d => bnd (ret []) fun ds => ret (d :: ds)) fun ds => ret (d :: ds)) fun ds => ret (d :: ds)) fun ds => ret (d :: ds)) fun ds => ret (d :: ds)) fun ds => ret (d :: ds))) fun ds => ret (.list ds)) (xVar 1)) (sName 2))
  (sSeq (sAsg (xBin addD (xBin mulD (ret (.int 2)) (xVar 2)) (ret (.int 1))) (sName 3))
  (sRet (xTup (bnd (xVar 1) fun d => bnd (bnd (xBin fdivD (xBin addD (ret (.int 1)) (xDefO g__law_take 0 (bnd (xVar 3) fun d => bnd (ret []) fun ds => ret (d :: ds)))) (ret (.int 2))) fun d => bnd (bnd (xBin fdivD (xBin addD (ret (.int 1)) (xDefO g__law_take 0 (bnd (xVar 3) fun d => bnd (ret []) fun ds => ret (d :: ds)))) (ret (.int 2))) fun d => bnd (ret []) fun ds => ret (d :: ds)) fun ds => ret (d :: ds)) fun ds => ret (d :: ds)))))))
def g__law_drawn_shape : Sg → Option (Ans PyData × Sg) := runD 4 B__law_drawn_shape
def B_rest_of : MS :=
  (sRet (xDef g__reduced (bnd (xVar 0) fun d => bnd (bnd (xVar 1) fun d => bnd (bnd (xDef g_basis (bnd (xVar 0) fun d => bnd (bnd (xVar 2) fun d => bnd (ret []) fun ds => ret (d :: ds)) fun ds => ret (d :: ds))) fun d => bnd (ret []) fun ds => ret (d :: ds)) fun ds => ret (d :: ds)) fun ds => ret (d :: ds))))
def g_rest_of : Sg → Option (Ans PyData × Sg) := runD 3 B_rest_of
def B_is_within : MS :=
  (sSeq (sAsg (xDef g_basis (bnd (xVar 0) fun d => bnd (bnd (xVar 2) fun d => bnd (ret []) fun ds => ret (d :: ds)) fun ds => ret (d :: ds))) (sName 3))
  (sRet (xNot (xCall any2D (bnd (bnd (xComp (xSeq (xVar 1)) [4] (sName 4) (ret true) (xCall any2D (bnd (xDef g__reduced (bnd (xVar 0) fun d => bnd (bnd (xVar 4) fun d => bnd (bnd (xVar 3) fun d => bnd (ret []) fun ds => ret (d :: ds)) fun ds => ret (d :: ds)) fun ds => ret (d :: ds))) fun d => bnd (ret []) fun ds => ret (d :: ds)))) fun ds => ret (.list ds)) fun d => bnd (ret []) fun ds => ret (d :: ds))))))
def g_is_within : Sg → Option (Ans PyData × Sg) := runD 5 B_is_within
def B_members : MS :=
  (sSeq (sAsg (xDef g_basis (bnd (xVar 0) fun d => bnd (bnd (xVar 1) fun d => bnd (ret []) fun ds => ret (d :: ds)) fun ds => ret (d :: ds))) (sName 3))
  (sSeq (sIf (xBool (xBin gtD (xDef g_power (bnd (xVar 0) fun d => bnd (bnd (xCall lenD (bnd (xVar 3) fun d => bnd (ret []) fun ds => ret (d :: ds))) fun d => bnd (ret []) fun ds => ret (d :: ds)) fun ds => ret (d :: ds))) (ret (.int 4096)))) (sRaise "TooMany") sSkip)
  (sSeq (sAsg (xDef g_all_rows (bnd (xVar 0) fun d => bnd (bnd (xCall lenD (bnd (xVar 3) fun d => bnd (ret []) fun ds => ret (d :: ds))) fun d => bnd (ret []) fun ds => ret (d :: ds)) fun ds => ret (d :: ds))) (sName 4))
  (sRet (xCall tupleD (bnd (bnd (xCallF sortedU (bnd (bnd (xComp (xSeq (xVar 4)) [5] (sName 5) (ret true) (xDef g_row_by (bnd (xVar 0) fun d => bnd (bnd (xVar 3) fun d => bnd (bnd (xVar 5) fun d => bnd (bnd (xVar 2) fun d => bnd (ret []) fun ds => ret (d :: ds)) fun ds => ret (d :: ds)) fun ds => ret (d :: ds)) fun ds => ret (d :: ds)))) fun ds => ret (.list ds)) fun d => bnd (ret []) fun ds => ret (d :: ds))) fun ds => ret (.list ds)) fun d => bnd (ret []) fun ds => ret (d :: ds)))))))
def g_members : Sg → Option (Ans PyData × Sg) := runD 6 B_members
def B__law_basis : MS :=
  (sSeq (sPar2E (xDef g__law_sums (bnd (xVar 0) fun d => bnd (bnd (xVar 1) fun d => bnd (bnd (xVar 2) fun d => bnd (ret []) fun ds => ret (d :: ds)) fun ds => ret (d :: ds)) fun ds => ret (d :: ds))) (xLst (ret [])) 3 4)
  (sSeq (sAsg (bnd (xCallF sortSetF (bnd (bnd (xComp (xSeq (xVar 3)) [5] (sName 5) (xBool (xBin geD (xDef g__law_lead (bnd (xVar 5) fun d => bnd (ret []) fun ds => ret (d :: ds))) (ret (.int 0)))) (xDef g__law_lead (bnd (xVar 5) fun d => bnd (ret []) fun ds => ret (d :: ds)))) fun ds => ret (.list ds)) fun d => bnd (ret []) fun ds => ret (d :: ds))) fun ds => ret (.list ds)) (sName 6))
  (sSeq (sFor (xSeq (xVar 6)) (sName 7) (sFor (xSeq (xVar 3)) (sName 5) (sIf (xBool (xBin eqD (bnd (xComp (xSeq (xVar 6)) [8] (sName 8) (ret true) (xBin ixD (xVar 5) (xVar 8))) fun ds => ret (.list ds)) (bnd (xComp (xSeq (xVar 6)) [8] (sName 8) (ret true) (xCall intD (bnd (xBin eqD (xVar 8) (xVar 7)) fun d => bnd (ret []) fun ds => ret (d :: ds)))) fun ds => ret (.list ds)))) (sApp 4 (xVar 5)) sSkip)))
  (sRet (xCall tupleD (bnd (xVar 4) fun d => bnd (ret []) fun ds => ret (d :: ds)))))))
def g__law_basis : Sg → Option (Ans PyData × Sg) := runD 9 B__law_basis
def B__law_heard : MS :=
  (sSeq (sAsg (xTup (bnd (ret .none) fun d => bnd (bnd (ret .none) fun d => bnd (ret []) fun ds => ret (d :: ds)) fun ds => ret (d :: ds))) (sTup 2 (sCons (sName 3) (sCons (sName 4) sNil))))
  (sSeq (sTryX "TooMany" 5 3 (gCon (.str (PySem.Str.ofString "many")) (gIs true (fun _ => some []))) (sAsg (xDef g_members (bnd (xVar 0) fun d => bnd (bnd (xVar 1) fun d => bnd (bnd (xVar 2) fun d => bnd (ret []) fun ds => ret (d :: ds)) fun ds => ret (d :: ds)) fun ds => ret (d :: ds))) (sName 4)))
  (sRet (xIf (xBool (xBin isD (xVar 3) (ret .none))) (xVar 4) (xVar 3)))))
def g__law_heard : Sg → Option (Ans PyData × Sg) := runD 6 B__law_heard
def B__law_lists (G : Sg → Option (Ans PyData × Sg)) : MS :=
  (sRet (xIf (xTru (xUn (isiD ["list", "tuple"]) (xVar 0))) (bnd (xComp (xSeq (xVar 0)) [1] (sName 1) (ret true) (xDef G (bnd (xVar 1) fun d => bnd (ret []) fun ds => ret (d :: ds)))) fun ds => ret (.list ds)) (xVar 0)))
def gr__law_lists : Nat → Sg → Option (Ans PyData × Sg)
  | 0 => fun _ => none
  | n + 1 => runD 2 (B__law_lists (gr__law_lists n))
def g__law_lists : Sg → Option (Ans PyData × Sg) := gr__law_lists 8
def B__law_same (G : Sg → Option (Ans PyData × Sg)) : MS :=
  (sSeq (sIf (xTru (xUn (isiD ["list", "tuple"]) (xVar 1))) (sSeq (sIf (xOrT (xBool (xBin neD (xUn (isiD ["list"]) (xVar 0)) (xUn (isiD ["list"]) (xVar 1)))) (xBool (xBin neD (xUn (isiD ["tuple"]) (xVar 0)) (xUn (isiD ["tuple"]) (xVar 1))))) (sRet (ret (.bool false))) sSkip)
  (sRet (xAnd (xBin eqD (xCall lenD (bnd (xVar 0) fun d => bnd (ret []) fun ds => ret (d :: ds))) (xCall lenD (bnd (xVar 1) fun d => bnd (ret []) fun ds => ret (d :: ds)))) (xCall allD (bnd (bnd (xComp (xCallF' zipD (bnd (xVar 0) fun d => bnd (bnd (xVar 1) fun d => bnd (ret []) fun ds => ret (d :: ds)) fun ds => ret (d :: ds))) [2, 3] (sTup 2 (sCons (sName 2) (sCons (sName 3) sNil))) (ret true) (xDef G (bnd (xVar 2) fun d => bnd (bnd (xVar 3) fun d => bnd (ret []) fun ds => ret (d :: ds)) fun ds => ret (d :: ds)))) fun ds => ret (.list ds)) fun d => bnd (ret []) fun ds => ret (d :: ds)))))) sSkip)
  (sSeq (sIf (xOrT (xBool (xBin isD (xVar 1) (ret .none))) (xTru (xUn (isiD ["bool", "str"]) (xVar 1)))) (sRet (xAnd (xBin eqD (xVar 0) (xVar 1)) (xAnd (xBin eqD (xUn (isiD ["bool"]) (xVar 0)) (xUn (isiD ["bool"]) (xVar 1))) (xBin eqD (xBin isD (xVar 0) (ret .none)) (xBin isD (xVar 1) (ret .none)))))) sSkip)
  (sRet (xAnd (xUn (isiD ["int"]) (xVar 0)) (xAnd (xNot (xUn (isiD ["bool"]) (xVar 0))) (xBin eqD (xVar 0) (xVar 1)))))))
def gr__law_same : Nat → Sg → Option (Ans PyData × Sg)
  | 0 => fun _ => none
  | n + 1 => runD 4 (B__law_same (gr__law_same n))
def g__law_same : Sg → Option (Ans PyData × Sg) := gr__law_same 8
def B__law_by_hand_right : MS :=
  (sSeq (sAsg (xTup (bnd (xTup (bnd (ret (.int 1)) fun d => bnd (bnd (ret (.int 2)) fun d => bnd (bnd (ret (.int 0)) fun d => bnd (ret []) fun ds => ret (d :: ds)) fun ds => ret (d :: ds)) fun ds => ret (d :: ds))) fun d => bnd (bnd (xTup (bnd (ret (.int 2)) fun d => bnd (bnd (ret (.int 1)) fun d => bnd (bnd (ret (.int 0)) fun d => bnd (ret []) fun ds => ret (d :: ds)) fun ds => ret (d :: ds)) fun ds => ret (d :: ds))) fun d => bnd (bnd (xTup (bnd (ret (.int 0)) fun d => bnd (bnd (ret (.int 1)) fun d => bnd (bnd (ret (.int 1)) fun d => bnd (ret []) fun ds => ret (d :: ds)) fun ds => ret (d :: ds)) fun ds => ret (d :: ds))) fun d => bnd (ret []) fun ds => ret (d :: ds)) fun ds => ret (d :: ds)) fun ds => ret (d :: ds))) (sName 0))
  (sSeq (sAsg (bnd (xLst (bnd (xDef g_basis (bnd (ret (.int 3)) fun d => bnd (bnd (xVar 0) fun d => bnd (ret []) fun ds => ret (d :: ds)) fun ds => ret (d :: ds))) fun d => bnd (bnd (xDef g_rank (bnd (ret (.int 3)) fun d => bnd (bnd (xVar 0) fun d => bnd (ret []) fun ds => ret (d :: ds)) fun ds => ret (d :: ds))) fun d => bnd (bnd (xDef g_rest_of (bnd (ret (.int 3)) fun d => bnd (bnd (xTup (bnd (ret (.int 2)) fun d => bnd (bnd (ret (.int 0)) fun d => bnd (bnd (ret (.int 0)) fun d => bnd (ret []) fun ds => ret (d :: ds)) fun ds => ret (d :: ds)) fun ds => ret (d :: ds))) fun d => bnd (bnd (xVar 0) fun d => bnd (ret []) fun ds => ret (d :: ds)) fun ds => ret (d :: ds)) fun ds => ret (d :: ds))) fun d => bnd (bnd (xDef g_rest_of (bnd (ret (.int 3)) fun d => bnd (bnd (xTup (bnd (ret (.int 1)) fun d => bnd (bnd (ret (.int 0)) fun d => bnd (bnd (ret (.int 1)) fun d => bnd (ret []) fun ds => ret (d :: ds)) fun ds => ret (d :: ds)) fun ds => ret (d :: ds))) fun d => bnd (bnd (xVar 0) fun d => bnd (ret []) fun ds => ret (d :: ds)) fun ds => ret (d :: ds)) fun ds => ret (d :: ds))) fun d => bnd (bnd (xDef g_rest_of (bnd (ret (.int 3)) fun d => bnd (bnd (xTup (bnd (ret (.int 2)) fun d => bnd (bnd (ret (.int 1)) fun d => bnd (bnd (ret (.int 2)) fun d => bnd (ret []) fun ds => ret (d :: ds)) fun ds => ret (d :: ds)) fun ds => ret (d :: ds))) fun d => bnd (bnd (xTup (ret [])) fun d => bnd (ret []) fun ds => ret (d :: ds)) fun ds => ret (d :: ds)) fun ds => ret (d :: ds))) fun d => bnd (ret []) fun ds => ret (d :: ds)) fun ds => ret (d :: ds)) fun ds => ret (d :: ds)) fun ds => ret (d :: ds)) fun ds => ret (d :: ds))) fun ds => ret (.list ds)) (sName 1))
  (sSeq (sAsg (bnd (xLst (bnd (xTup (bnd (xTup (bnd (ret (.int 1)) fun d => bnd (bnd (ret (.int 0)) fun d => bnd (bnd (ret (.int 1)) fun d => bnd (ret []) fun ds => ret (d :: ds)) fun ds => ret (d :: ds)) fun ds => ret (d :: ds))) fun d => bnd (bnd (xTup (bnd (ret (.int 0)) fun d => bnd (bnd (ret (.int 1)) fun d => bnd (bnd (ret (.int 1)) fun d => bnd (ret []) fun ds => ret (d :: ds)) fun ds => ret (d :: ds)) fun ds => ret (d :: ds))) fun d => bnd (ret []) fun ds => ret (d :: ds)) fun ds => ret (d :: ds))) fun d => bnd (bnd (ret (.int 2)) fun d => bnd (bnd (xTup (bnd (ret (.int 0)) fun d => bnd (bnd (ret (.int 0)) fun d => bnd (bnd (ret (.int 1)) fun d => bnd (ret []) fun ds => ret (d :: ds)) fun ds => ret (d :: ds)) fun ds => ret (d :: ds))) fun d => bnd (bnd (xTup (bnd (ret (.int 0)) fun d => bnd (bnd (ret (.int 0)) fun d => bnd (bnd (ret (.int 0)) fun d => bnd (ret []) fun ds => ret (d :: ds)) fun ds => ret (d :: ds)) fun ds => ret (d :: ds))) fun d => bnd (bnd (xTup (bnd (ret (.int 2)) fun d => bnd (bnd (ret (.int 1)) fun d => bnd (bnd (ret (.int 2)) fun d => bnd (ret []) fun ds => ret (d :: ds)) fun ds => ret (d :: ds)) fun ds => ret (d :: ds))) fun d => bnd (ret []) fun ds => ret (d :: ds)) fun ds => ret (d :: ds)) fun ds => ret (d :: ds)) fun ds => ret (d :: ds)) fun ds => ret (d :: ds))) fun ds => ret (.list ds)) (sName 2))
  (sSeq (sAsg (bnd (xBinF catL (xVar 1) (bnd (xLst (bnd (xDef g_basis (bnd (ret (.int 5)) fun d => bnd (bnd (xTup (bnd (xTup (bnd (ret (.int 0)) fun d => bnd (bnd (ret (.int 3)) fun d => bnd (bnd (ret (.int 1)) fun d => bnd (ret []) fun ds => ret (d :: ds)) fun ds => ret (d :: ds)) fun ds => ret (d :: ds))) fun d => bnd (bnd (xTup (bnd (ret (.int 0)) fun d => bnd (bnd (ret (.int 1)) fun d => bnd (bnd (ret (.int 2)) fun d => bnd (ret []) fun ds => ret (d :: ds)) fun ds => ret (d :: ds)) fun ds => ret (d :: ds))) fun d => bnd (ret []) fun ds => ret (d :: ds)) fun ds => ret (d :: ds))) fun d => bnd (ret []) fun ds => ret (d :: ds)) fun ds => ret (d :: ds))) fun d => bnd (bnd (xDef g_basis (bnd (ret (.int 5)) fun d => bnd (bnd (xTup (bnd (xTup (bnd (ret (.int 2)) fun d => bnd (bnd (ret (.int 4)) fun d => bnd (ret []) fun ds => ret (d :: ds)) fun ds => ret (d :: ds))) fun d => bnd (ret []) fun ds => ret (d :: ds))) fun d => bnd (ret []) fun ds => ret (d :: ds)) fun ds => ret (d :: ds))) fun d => bnd (bnd (xDef g_basis (bnd (ret (.int 2)) fun d => bnd (bnd (xTup (ret [])) fun d => bnd (ret []) fun ds => ret (d :: ds)) fun ds => ret (d :: ds))) fun d => bnd (bnd (xDef g_basis (bnd (ret (.int 2)) fun d => bnd (bnd (xTup (bnd (xTup (bnd (ret (.int 0)) fun d => bnd (bnd (ret (.int 0)) fun d => bnd (ret []) fun ds => ret (d :: ds)) fun ds => ret (d :: ds))) fun d => bnd (bnd (xTup (bnd (ret (.int 0)) fun d => bnd (bnd (ret (.int 0)) fun d => bnd (ret []) fun ds => ret (d :: ds)) fun ds => ret (d :: ds))) fun d => bnd (ret []) fun ds => ret (d :: ds)) fun ds => ret (d :: ds))) fun d => bnd (ret []) fun ds => ret (d :: ds)) fun ds => ret (d :: ds))) fun d => bnd (bnd (xDef g_basis (bnd (ret (.int 3)) fun d => bnd (bnd (xTup (bnd (xTup (ret [])) fun d => bnd (bnd (xTup (ret [])) fun d => bnd (ret []) fun ds => ret (d :: ds)) fun ds => ret (d :: ds))) fun d => bnd (ret []) fun ds => ret (d :: ds)) fun ds => ret (d :: ds))) fun d => bnd (bnd (xDef g_rank (bnd (ret (.int 2)) fun d => bnd (bnd (xTup (bnd (xTup (ret [])) fun d => bnd (bnd (xTup (ret [])) fun d => bnd (ret []) fun ds => ret (d :: ds)) fun ds => ret (d :: ds))) fun d => bnd (ret []) fun ds => ret (d :: ds)) fun ds => ret (d :: ds))) fun d => bnd (ret []) fun ds => ret (d :: ds)) fun ds => ret (d :: ds)) fun ds => ret (d :: ds)) fun ds => ret (d :: ds)) fun ds => ret (d :: ds)) fun ds => ret (d :: ds))) fun ds => ret (.list ds))) fun ds => ret (.list ds)) (sName 1))
  (sSeq (sAsg (bnd (xBinF catL (xVar 2) (bnd (xLst (bnd (xTup (bnd (xTup (bnd (ret (.int 0)) fun d => bnd (bnd (ret (.int 1)) fun d => bnd (bnd (ret (.int 2)) fun d => bnd (ret []) fun ds => ret (d :: ds)) fun ds => ret (d :: ds)) fun ds => ret (d :: ds))) fun d => bnd (ret []) fun ds => ret (d :: ds))) fun d => bnd (bnd (xTup (bnd (xTup (bnd (ret (.int 1)) fun d => bnd (bnd (ret (.int 2)) fun d => bnd (ret []) fun ds => ret (d :: ds)) fun ds => ret (d :: ds))) fun d => bnd (ret []) fun ds => ret (d :: ds))) fun d => bnd (bnd (xTup (ret [])) fun d => bnd (bnd (xTup (ret [])) fun d => bnd (bnd (xTup (ret [])) fun d => bnd (bnd (ret (.int 0)) fun d => bnd (ret []) fun ds => ret (d :: ds)) fun ds => ret (d :: ds)) fun ds => ret (d :: ds)) fun ds => ret (d :: ds)) fun ds => ret (d :: ds)) fun ds => ret (d :: ds))) fun ds => ret (.list ds))) fun ds => ret (.list ds)) (sName 2))
  (sSeq (sAsg (bnd (xBinF catL (xVar 1) (bnd (xLst (bnd (xDef g_basis (bnd (ret (.int 2)) fun d => bnd (bnd (xTup (bnd (xTup (bnd (ret (.int 0)) fun d => bnd (bnd (ret (.int 0)) fun d => bnd (bnd (ret (.int 1)) fun d => bnd (ret []) fun ds => ret (d :: ds)) fun ds => ret (d :: ds)) fun ds => ret (d :: ds))) fun d => bnd (bnd (xTup (bnd (ret (.int 0)) fun d => bnd (bnd (ret (.int 1)) fun d => bnd (bnd (ret (.int 1)) fun d => bnd (ret []) fun ds => ret (d :: ds)) fun ds => ret (d :: ds)) fun ds => ret (d :: ds))) fun d => bnd (bnd (xTup (bnd (ret (.int 1)) fun d => bnd (bnd (ret (.int 1)) fun d => bnd (bnd (ret (.int 1)) fun d => bnd (ret []) fun ds => ret (d :: ds)) fun ds => ret (d :: ds)) fun ds => ret (d :: ds))) fun d => bnd (ret []) fun ds => ret (d :: ds)) fun ds => ret (d :: ds)) fun ds => ret (d :: ds))) fun d => bnd (ret []) fun ds => ret (d :: ds)) fun ds => ret (d :: ds))) fun d => bnd (bnd (xDef g_basis (bnd (ret (.int 2)) fun d => bnd (bnd (xTup (bnd (xTup (bnd (ret (.int 1)) fun d => bnd (bnd (ret (.int 1)) fun d => bnd (bnd (ret (.int 0)) fun d => bnd (bnd (ret (.int 1)) fun d => bnd (ret []) fun ds => ret (d :: ds)) fun ds => ret (d :: ds)) fun ds => ret (d :: ds)) fun ds => ret (d :: ds))) fun d => bnd (bnd (xTup (bnd (ret (.int 0)) fun d => bnd (bnd (ret (.int 1)) fun d => bnd (bnd (ret (.int 1)) fun d => bnd (bnd (ret (.int 0)) fun d => bnd (ret []) fun ds => ret (d :: ds)) fun ds => ret (d :: ds)) fun ds => ret (d :: ds)) fun ds => ret (d :: ds))) fun d => bnd (bnd (xTup (bnd (ret (.int 1)) fun d => bnd (bnd (ret (.int 0)) fun d => bnd (bnd (ret (.int 1)) fun d => bnd (bnd (ret (.int 1)) fun d => bnd (ret []) fun ds => ret (d :: ds)) fun ds => ret (d :: ds)) fun ds => ret (d :: ds)) fun ds => ret (d :: ds))) fun d => bnd (ret []) fun ds => ret (d :: ds)) fun ds => ret (d :: ds)) fun ds => ret (d :: ds))) fun d => bnd (ret []) fun ds => ret (d :: ds)) fun ds => ret (d :: ds))) fun d => bnd (ret []) fun ds => ret (d :: ds)) fun ds => ret (d :: ds))) fun ds => ret (.list ds))) fun ds => ret (.list ds)) (sName 1))
  (sSeq (sAsg (bnd (xBinF catL (xVar 2) (bnd (xLst (bnd (xTup (bnd (xTup (bnd (ret (.int 1)) fun d => bnd (bnd (ret (.int 0)) fun d => bnd (bnd (ret (.int 0)) fun d => bnd (ret []) fun ds => ret (d :: ds)) fun ds => ret (d :: ds)) fun ds => ret (d :: ds))) fun d => bnd (bnd (xTup (bnd (ret (.int 0)) fun d => bnd (bnd (ret (.int 1)) fun d => bnd (bnd (ret (.int 0)) fun d => bnd (ret []) fun ds => ret (d :: ds)) fun ds => ret (d :: ds)) fun ds => ret (d :: ds))) fun d => bnd (bnd (xTup (bnd (ret (.int 0)) fun d => bnd (bnd (ret (.int 0)) fun d => bnd (bnd (ret (.int 1)) fun d => bnd (ret []) fun ds => ret (d :: ds)) fun ds => ret (d :: ds)) fun ds => ret (d :: ds))) fun d => bnd (ret []) fun ds => ret (d :: ds)) fun ds => ret (d :: ds)) fun ds => ret (d :: ds))) fun d => bnd (bnd (xTup (bnd (xTup (bnd (ret (.int 1)) fun d => bnd (bnd (ret (.int 0)) fun d => bnd (bnd (ret (.int 1)) fun d => bnd (bnd (ret (.int 1)) fun d => bnd (ret []) fun ds => ret (d :: ds)) fun ds => ret (d :: ds)) fun ds => ret (d :: ds)) fun ds => ret (d :: ds))) fun d => bnd (bnd (xTup (bnd (ret (.int 0)) fun d => bnd (bnd (ret (.int 1)) fun d => bnd (bnd (ret (.int 1)) fun d => bnd (bnd (ret (.int 0)) fun d => bnd (ret []) fun ds => ret (d :: ds)) fun ds => ret (d :: ds)) fun ds => ret (d :: ds)) fun ds => ret (d :: ds))) fun d => bnd (ret []) fun ds => ret (d :: ds)) fun ds => ret (d :: ds))) fun d => bnd (ret []) fun ds => ret (d :: ds)) fun ds => ret (d :: ds))) fun ds => ret (.list ds))) fun ds => ret (.list ds)) (sName 2))
  (sSeq (sAsg (bnd (xBinF catL (xVar 1) (bnd (xLst (bnd (xDef g_members (bnd (ret (.int 2)) fun d => bnd (bnd (xTup (bnd (xTup (bnd (ret (.int 1)) fun d => bnd (bnd (ret (.int 1)) fun d => bnd (bnd (ret (.int 0)) fun d => bnd (ret []) fun ds => ret (d :: ds)) fun ds => ret (d :: ds)) fun ds => ret (d :: ds))) fun d => bnd (ret []) fun ds => ret (d :: ds))) fun d => bnd (bnd (ret (.int 3)) fun d => bnd (ret []) fun ds => ret (d :: ds)) fun ds => ret (d :: ds)) fun ds => ret (d :: ds))) fun d => bnd (bnd (xDef g_members (bnd (ret (.int 3)) fun d => bnd (bnd (xTup (ret [])) fun d => bnd (bnd (ret (.int 2)) fun d => bnd (ret []) fun ds => ret (d :: ds)) fun ds => ret (d :: ds)) fun ds => ret (d :: ds))) fun d => bnd (bnd (xDef g_members (bnd (ret (.int 3)) fun d => bnd (bnd (xTup (bnd (xTup (bnd (ret (.int 1)) fun d => bnd (bnd (ret (.int 2)) fun d => bnd (ret []) fun ds => ret (d :: ds)) fun ds => ret (d :: ds))) fun d => bnd (ret []) fun ds => ret (d :: ds))) fun d => bnd (bnd (ret (.int 2)) fun d => bnd (ret []) fun ds => ret (d :: ds)) fun ds => ret (d :: ds)) fun ds => ret (d :: ds))) fun d => bnd (bnd (xDef g_members (bnd (ret (.int 5)) fun d => bnd (bnd (xTup (bnd (xTup (ret [])) fun d => bnd (bnd (xTup (ret [])) fun d => bnd (ret []) fun ds => ret (d :: ds)) fun ds => ret (d :: ds))) fun d => bnd (bnd (ret (.int 0)) fun d => bnd (ret []) fun ds => ret (d :: ds)) fun ds => ret (d :: ds)) fun ds => ret (d :: ds))) fun d => bnd (ret []) fun ds => ret (d :: ds)) fun ds => ret (d :: ds)) fun ds => ret (d :: ds)) fun ds => ret (d :: ds))) fun ds => ret (.list ds))) fun ds => ret (.list ds)) (sName 1))
  (sSeq (sAsg (bnd (xBinF catL (xVar 2) (bnd (xLst (bnd (xTup (bnd (xTup (bnd (ret (.int 0)) fun d => bnd (bnd (ret (.int 0)) fun d => bnd (bnd (ret (.int 0)) fun d => bnd (ret []) fun ds => ret (d :: ds)) fun ds => ret (d :: ds)) fun ds => ret (d :: ds))) fun d => bnd (bnd (xTup (bnd (ret (.int 1)) fun d => bnd (bnd (ret (.int 1)) fun d => bnd (bnd (ret (.int 0)) fun d => bnd (ret []) fun ds => ret (d :: ds)) fun ds => ret (d :: ds)) fun ds => ret (d :: ds))) fun d => bnd (ret []) fun ds => ret (d :: ds)) fun ds => ret (d :: ds))) fun d => bnd (bnd (xTup (bnd (xTup (bnd (ret (.int 0)) fun d => bnd (bnd (ret (.int 0)) fun d => bnd (ret []) fun ds => ret (d :: ds)) fun ds => ret (d :: ds))) fun d => bnd (ret []) fun ds => ret (d :: ds))) fun d => bnd (bnd (xTup (bnd (xTup (bnd (ret (.int 0)) fun d => bnd (bnd (ret (.int 0)) fun d => bnd (ret []) fun ds => ret (d :: ds)) fun ds => ret (d :: ds))) fun d => bnd (bnd (xTup (bnd (ret (.int 1)) fun d => bnd (bnd (ret (.int 2)) fun d => bnd (ret []) fun ds => ret (d :: ds)) fun ds => ret (d :: ds))) fun d => bnd (bnd (xTup (bnd (ret (.int 2)) fun d => bnd (bnd (ret (.int 1)) fun d => bnd (ret []) fun ds => ret (d :: ds)) fun ds => ret (d :: ds))) fun d => bnd (ret []) fun ds => ret (d :: ds)) fun ds => ret (d :: ds)) fun ds => ret (d :: ds))) fun d => bnd (bnd (xTup (bnd (xTup (ret [])) fun d => bnd (ret []) fun ds => ret (d :: ds))) fun d => bnd (ret []) fun ds => ret (d :: ds)) fun ds => ret (d :: ds)) fun ds => ret (d :: ds)) fun ds => ret (d :: ds))) fun ds => ret (.list ds))) fun ds => ret (.list ds)) (sName 2))
  (sSeq (sAsg (bnd (xBinF catL (xVar 1) (bnd (xLst (bnd (xDef g_is_within (bnd (ret (.int 2)) fun d => bnd (bnd (xTup (bnd (xTup (bnd (ret (.int 1)) fun d => bnd (bnd (ret (.int 1)) fun d => bnd (bnd (ret (.int 0)) fun d => bnd (ret []) fun ds => ret (d :: ds)) fun ds => ret (d :: ds)) fun ds => ret (d :: ds))) fun d => bnd (ret []) fun ds => ret (d :: ds))) fun d => bnd (bnd (xTup (bnd (xTup (bnd (ret (.int 1)) fun d => bnd (bnd (ret (.int 0)) fun d => bnd (bnd (ret (.int 0)) fun d => bnd (ret []) fun ds => ret (d :: ds)) fun ds => ret (d :: ds)) fun ds => ret (d :: ds))) fun d => bnd (bnd (xTup (bnd (ret (.int 0)) fun d => bnd (bnd (ret (.int 1)) fun d => bnd (bnd (ret (.int 0)) fun d => bnd (ret []) fun ds => ret (d :: ds)) fun ds => ret (d :: ds)) fun ds => ret (d :: ds))) fun d => bnd (ret []) fun ds => ret (d :: ds)) fun ds => ret (d :: ds))) fun d => bnd (ret []) fun ds => ret (d :: ds)) fun ds => ret (d :: ds)) fun ds => ret (d :: ds))) fun d => bnd (bnd (xDef g_is_within (bnd (ret (.int 2)) fun d => bnd (bnd (xTup (bnd (xTup (bnd (ret (.int 1)) fun d => bnd (bnd (ret (.int 1)) fun d => bnd (bnd (ret (.int 0)) fun d => bnd (ret []) fun ds => ret (d :: ds)) fun ds => ret (d :: ds)) fun ds => ret (d :: ds))) fun d => bnd (bnd (xTup (bnd (ret (.int 0)) fun d => bnd (bnd (ret (.int 0)) fun d => bnd (bnd (ret (.int 1)) fun d => bnd (ret []) fun ds => ret (d :: ds)) fun ds => ret (d :: ds)) fun ds => ret (d :: ds))) fun d => bnd (ret []) fun ds => ret (d :: ds)) fun ds => ret (d :: ds))) fun d => bnd (bnd (xTup (bnd (xTup (bnd (ret (.int 1)) fun d => bnd (bnd (ret (.int 0)) fun d => bnd (bnd (ret (.int 0)) fun d => bnd (ret []) fun ds => ret (d :: ds)) fun ds => ret (d :: ds)) fun ds => ret (d :: ds))) fun d => bnd (bnd (xTup (bnd (ret (.int 0)) fun d => bnd (bnd (ret (.int 1)) fun d => bnd (bnd (ret (.int 0)) fun d => bnd (ret []) fun ds => ret (d :: ds)) fun ds => ret (d :: ds)) fun ds => ret (d :: ds))) fun d => bnd (ret []) fun ds => ret (d :: ds)) fun ds => ret (d :: ds))) fun d => bnd (ret []) fun ds => ret (d :: ds)) fun ds => ret (d :: ds)) fun ds => ret (d :: ds))) fun d => bnd (ret []) fun ds => ret (d :: ds)) fun ds => ret (d :: ds))) fun ds => ret (.list ds))) fun ds => ret (.list ds)) (sName 1))
  (sSeq (sAsg (bnd (xBinF catL (xVar 1) (bnd (xLst (bnd (xDef g_is_within (bnd (ret (.int 3)) fun d => bnd (bnd (xTup (ret [])) fun d => bnd (bnd (xTup (ret [])) fun d => bnd (ret []) fun ds => ret (d :: ds)) fun ds => ret (d :: ds)) fun ds => ret (d :: ds))) fun d => bnd (bnd (xDef g_is_within (bnd (ret (.int 3)) fun d => bnd (bnd (xTup (bnd (xTup (bnd (ret (.int 0)) fun d => bnd (bnd (ret (.int 0)) fun d => bnd (ret []) fun ds => ret (d :: ds)) fun ds => ret (d :: ds))) fun d => bnd (ret []) fun ds => ret (d :: ds))) fun d => bnd (bnd (xTup (ret [])) fun d => bnd (ret []) fun ds => ret (d :: ds)) fun ds => ret (d :: ds)) fun ds => ret (d :: ds))) fun d => bnd (bnd (xDef g_is_within (bnd (ret (.int 3)) fun d => bnd (bnd (xTup (bnd (xTup (bnd (ret (.int 0)) fun d => bnd (bnd (ret (.int 1)) fun d => bnd (ret []) fun ds => ret (d :: ds)) fun ds => ret (d :: ds))) fun d => bnd (ret []) fun ds => ret (d :: ds))) fun d => bnd (bnd (xTup (ret [])) fun d => bnd (ret []) fun ds => ret (d :: ds)) fun ds => ret (d :: ds)) fun ds => ret (d :: ds))) fun d => bnd (bnd (xDef g_is_within (bnd (ret (.int 5)) fun d => bnd (bnd (xTup (bnd (xTup (bnd (ret (.int 4)) fun d => bnd (bnd (ret (.int 3)) fun d => bnd (ret []) fun ds => ret (d :: ds)) fun ds => ret (d :: ds))) fun d => bnd (ret []) fun ds => ret (d :: ds))) fun d => bnd (bnd (xTup (bnd (xTup (bnd (ret (.int 1)) fun d => bnd (bnd (ret (.int 2)) fun d => bnd (ret []) fun ds => ret (d :: ds)) fun ds => ret (d :: ds))) fun d => bnd (ret []) fun ds => ret (d :: ds))) fun d => bnd (ret []) fun ds => ret (d :: ds)) fun ds => ret (d :: ds)) fun ds => ret (d :: ds))) fun d => bnd (ret []) fun ds => ret (d :: ds)) fun ds => ret (d :: ds)) fun ds => ret (d :: ds)) fun ds => ret (d :: ds))) fun ds => ret (.list ds))) fun ds => ret (.list ds)) (sName 1))
  (sSeq (sAsg (bnd (xBinF catL (xVar 2) (bnd (xLst (bnd (ret (.bool true)) fun d => bnd (bnd (ret (.bool false)) fun d => bnd (bnd (ret (.bool true)) fun d => bnd (bnd (ret (.bool true)) fun d => bnd (bnd (ret (.bool false)) fun d => bnd (bnd (ret (.bool true)) fun d => bnd (ret []) fun ds => ret (d :: ds)) fun ds => ret (d :: ds)) fun ds => ret (d :: ds)) fun ds => ret (d :: ds)) fun ds => ret (d :: ds)) fun ds => ret (d :: ds))) fun ds => ret (.list ds))) fun ds => ret (.list ds)) (sName 2))
  (sSeq (sAsg (xCall tupleD (bnd (bnd (xComp (xCallF' range1D (bnd (ret (.int 13)) fun d => bnd (ret []) fun ds => ret (d :: ds))) [5] (sName 5) (ret true) (xDef g__law_unit (bnd (ret (.int 13)) fun d => bnd (bnd (xVar 5) fun d => bnd (ret []) fun ds => ret (d :: ds)) fun ds => ret (d :: ds)))) fun ds => ret (.list ds)) fun d => bnd (ret []) fun ds => ret (d :: ds))) (sName 3))
  (sSeq (sAsg (bnd (xBinF catL (xVar 1) (bnd (xLst (bnd (xDef g__law_heard (bnd (ret (.int 2)) fun d => bnd (bnd (xVar 3) fun d => bnd (bnd (ret (.int 13)) fun d => bnd (ret []) fun ds => ret (d :: ds)) fun ds => ret (d :: ds)) fun ds => ret (d :: ds))) fun d => bnd (bnd (xDef g__law_heard (bnd (ret (.int 3)) fun d => bnd (bnd (xSl (xVar 3) (ret none) (xPart (ret (.int 8)))) fun d => bnd (bnd (ret (.int 13)) fun d => bnd (ret []) fun ds => ret (d :: ds)) fun ds => ret (d :: ds)) fun ds => ret (d :: ds))) fun d => bnd (ret []) fun ds => ret (d :: ds)) fun ds => ret (d :: ds))) fun ds => ret (.list ds))) fun ds => ret (.list ds)) (sName 1))
  (sSeq (sAsg (bnd (xBinF catL (xVar 2) (bnd (xRepF (xLst (bnd (bnd (xLst (bnd (ret (.str (PySem.Str.ofString "many"))) fun d => bnd (bnd (ret (.bool true)) fun d => bnd (ret []) fun ds => ret (d :: ds)) fun ds => ret (d :: ds))) fun ds => ret (.list ds)) fun d => bnd (ret []) fun ds => ret (d :: ds))) (ret (.int 2))) fun ds => ret (.list ds))) fun ds => ret (.list ds)) (sName 2))
  (sSeq (sAsg (xDef g__law_lists (bnd (xVar 0) fun d => bnd (ret []) fun ds => ret (d :: ds))) (sName 4))
  (sSeq (sAsg (bnd (xBinF catL (xVar 1) (bnd (xLst (bnd (xDefK g_basis [1, 0] (bnd (xVar 4) fun d => bnd (bnd (ret (.int 3)) fun d => bnd (ret []) fun ds => ret (d :: ds)) fun ds => ret (d :: ds))) fun d => bnd (bnd (xDefK g_rank [1, 0] (bnd (xVar 4) fun d => bnd (bnd (ret (.int 3)) fun d => bnd (ret []) fun ds => ret (d :: ds)) fun ds => ret (d :: ds))) fun d => bnd (bnd (xDefK g_rest_of [2, 1, 0] (bnd (xVar 4) fun d => bnd (bnd (bnd (xLst (bnd (ret (.int 2)) fun d => bnd (bnd (ret (.int 0)) fun d => bnd (bnd (ret (.int 0)) fun d => bnd (ret []) fun ds => ret (d :: ds)) fun ds => ret (d :: ds)) fun ds => ret (d :: ds))) fun ds => ret (.list ds)) fun d => bnd (bnd (ret (.int 3)) fun d => bnd (ret []) fun ds => ret (d :: ds)) fun ds => ret (d :: ds)) fun ds => ret (d :: ds))) fun d => bnd (ret []) fun ds => ret (d :: ds)) fun ds => ret (d :: ds)) fun ds => ret (d :: ds))) fun ds => ret (.list ds))) fun ds => ret (.list ds)) (sName 1))
  (sSeq (sAsg (bnd (xBinF catL (xVar 1) (bnd (xLst (bnd (xDefK g_members [2, 1, 0] (bnd (ret (.int 3)) fun d => bnd (bnd (bnd (xLst (bnd (bnd (xLst (bnd (ret (.int 1)) fun d => bnd (bnd (ret (.int 1)) fun d => bnd (bnd (ret (.int 0)) fun d => bnd (ret []) fun ds => ret (d :: ds)) fun ds => ret (d :: ds)) fun ds => ret (d :: ds))) fun ds => ret (.list ds)) fun d => bnd (ret []) fun ds => ret (d :: ds))) fun ds => ret (.list ds)) fun d => bnd (bnd (ret (.int 2)) fun d => bnd (ret []) fun ds => ret (d :: ds)) fun ds => ret (d :: ds)) fun ds => ret (d :: ds))) fun d => bnd (bnd (xDefK g_is_within [2, 1, 0] (bnd (xVar 4) fun d => bnd (bnd (bnd (xLst (bnd (bnd (xLst (bnd (ret (.int 1)) fun d => bnd (bnd (ret (.int 0)) fun d => bnd (bnd (ret (.int 1)) fun d => bnd (ret []) fun ds => ret (d :: ds)) fun ds => ret (d :: ds)) fun ds => ret (d :: ds))) fun ds => ret (.list ds)) fun d => bnd (ret []) fun ds => ret (d :: ds))) fun ds => ret (.list ds)) fun d => bnd (bnd (ret (.int 3)) fun d => bnd (ret []) fun ds => ret (d :: ds)) fun ds => ret (d :: ds)) fun ds => ret (d :: ds))) fun d => bnd (ret []) fun ds => ret (d :: ds)) fun ds => ret (d :: ds))) fun ds => ret (.list ds))) fun ds => ret (.list ds)) (sName 1))
  (sRet (xAnd (xDef g__law_same (bnd (xVar 1) fun d => bnd (bnd (bnd (xBinF catL (xVar 2) (bnd (xLst (bnd (xBin ixD (xVar 2) (ret (.int 0))) fun d => bnd (bnd (ret (.int 2)) fun d => bnd (bnd (xTup (bnd (ret (.int 0)) fun d => bnd (bnd (ret (.int 0)) fun d => bnd (bnd (ret (.int 1)) fun d => bnd (ret []) fun ds => ret (d :: ds)) fun ds => ret (d :: ds)) fun ds => ret (d :: ds))) fun d => bnd (bnd (xTup (bnd (xTup (bnd (ret (.int 0)) fun d => bnd (bnd (ret (.int 0)) fun d => bnd (bnd (ret (.int 0)) fun d => bnd (ret []) fun ds => ret (d :: ds)) fun ds => ret (d :: ds)) fun ds => ret (d :: ds))) fun d => bnd (bnd (xTup (bnd (ret (.int 1)) fun d => bnd (bnd (ret (.int 1)) fun d => bnd (bnd (ret (.int 0)) fun d => bnd (ret []) fun ds => ret (d :: ds)) fun ds => ret (d :: ds)) fun ds => ret (d :: ds))) fun d => bnd (ret []) fun ds => ret (d :: ds)) fun ds => ret (d :: ds))) fun d => bnd (bnd (ret (.bool true)) fun d => bnd (ret []) fun ds => ret (d :: ds)) fun ds => ret (d :: ds)) fun ds => ret (d :: ds)) fun ds => ret (d :: ds)) fun ds => ret (d :: ds))) fun ds => ret (.list ds))) fun ds => ret (.list ds)) fun d => bnd (ret []) fun ds => ret (d :: ds)) fun ds => ret (d :: ds))) (xBin eqD (xVar 4) (xDef g__law_lists (bnd (xVar 0) fun d => bnd (ret []) fun ds => ret (d :: ds))))))))))))))))))))))))
def g__law_by_hand_right : Sg → Option (Ans PyData × Sg) := runD 6 B__law_by_hand_right
def B__law_brink_right : MS :=
  (sSeq (sAsg (xDef g__law_heard (bnd (ret (.int 2)) fun d => bnd (bnd (xCall tupleD (bnd (bnd (xComp (xCallF' range1D (bnd (ret (.int 12)) fun d => bnd (ret []) fun ds => ret (d :: ds))) [1] (sName 1) (ret true) (xDef g__law_unit (bnd (ret (.int 12)) fun d => bnd (bnd (xVar 1) fun d => bnd (ret []) fun ds => ret (d :: ds)) fun ds => ret (d :: ds)))) fun ds => ret (.list ds)) fun d => bnd (ret []) fun ds => ret (d :: ds))) fun d => bnd (bnd (ret (.int 12)) fun d => bnd (ret []) fun ds => ret (d :: ds)) fun ds => ret (d :: ds)) fun ds => ret (d :: ds))) (sName 0))
  (sSeq (sIf (xOrT (xNotT (xTru (xUn (isiD ["tuple"]) (xVar 0)))) (xBool (xBin neD (xCall lenD (bnd (xVar 0) fun d => bnd (ret []) fun ds => ret (d :: ds))) (ret (.int 4096))))) (sRet (ret (.bool false))) sSkip)
  (sRet (xDef g__law_same (bnd (bnd (xLst (bnd (xBin ixD (xVar 0) (ret (.int 0))) fun d => bnd (bnd (xBin ixD (xVar 0) (ret (.int 5))) fun d => bnd (bnd (xBin ixD (xVar 0) (xUn negD (ret (.int 1)))) fun d => bnd (ret []) fun ds => ret (d :: ds)) fun ds => ret (d :: ds)) fun ds => ret (d :: ds))) fun ds => ret (.list ds)) fun d => bnd (bnd (bnd (xLst (bnd (xBin mulD (xTup (bnd (ret (.int 0)) fun d => bnd (ret []) fun ds => ret (d :: ds))) (ret (.int 12))) fun d => bnd (bnd (xBin addD (xBin mulD (xTup (bnd (ret (.int 0)) fun d => bnd (ret []) fun ds => ret (d :: ds))) (ret (.int 9))) (xTup (bnd (ret (.int 1)) fun d => bnd (bnd (ret (.int 0)) fun d => bnd (bnd (ret (.int 1)) fun d => bnd (ret []) fun ds => ret (d :: ds)) fun ds => ret (d :: ds)) fun ds => ret (d :: ds)))) fun d => bnd (bnd (xBin mulD (xTup (bnd (ret (.int 1)) fun d => bnd (ret []) fun ds => ret (d :: ds))) (ret (.int 12))) fun d => bnd (ret []) fun ds => ret (d :: ds)) fun ds => ret (d :: ds)) fun ds => ret (d :: ds))) fun ds => ret (.list ds)) fun d => bnd (ret []) fun ds => ret (d :: ds)) fun ds => ret (d :: ds))))))
def g__law_brink_right : Sg → Option (Ans PyData × Sg) := runD 2 B__law_brink_right
def B__law_right : MS :=
  (sSeq (sAsg (xDefO g__law_drawn_shape 0 (ret [])) (sTup 3 (sCons (sName 1) (sCons (sName 2) (sCons (sName 3) sNil)))))
  (sSeq (sAsg (xDefO g__law_drawn_vectors 0 (bnd (xVar 1) fun d => bnd (bnd (xVar 2) fun d => bnd (bnd (xVar 3) fun d => bnd (ret []) fun ds => ret (d :: ds)) fun ds => ret (d :: ds)) fun ds => ret (d :: ds))) (sName 4))
  (sSeq (sPar2 (bnd (xDef g__law_sums (bnd (xVar 1) fun d => bnd (bnd (xVar 4) fun d => bnd (bnd (xVar 3) fun d => bnd (ret []) fun ds => ret (d :: ds)) fun ds => ret (d :: ds)) fun ds => ret (d :: ds))) fun d => bnd (bnd (xDef g__law_basis (bnd (xVar 1) fun d => bnd (bnd (xVar 4) fun d => bnd (bnd (xVar 3) fun d => bnd (ret []) fun ds => ret (d :: ds)) fun ds => ret (d :: ds)) fun ds => ret (d :: ds))) fun d => bnd (ret []) fun ds => ret (d :: ds)) fun ds => ret (d :: ds)) 5 6)
  (sSeq (sAsg (bnd (xLst (bnd (xDef g_basis (bnd (xVar 1) fun d => bnd (bnd (xVar 4) fun d => bnd (ret []) fun ds => ret (d :: ds)) fun ds => ret (d :: ds))) fun d => bnd (bnd (xDef g_rank (bnd (xVar 1) fun d => bnd (bnd (xVar 4) fun d => bnd (ret []) fun ds => ret (d :: ds)) fun ds => ret (d :: ds))) fun d => bnd (bnd (xDef g_members (bnd (xVar 1) fun d => bnd (bnd (xVar 4) fun d => bnd (bnd (xVar 3) fun d => bnd (ret []) fun ds => ret (d :: ds)) fun ds => ret (d :: ds)) fun ds => ret (d :: ds))) fun d => bnd (bnd (xDef g_basis (bnd (xVar 1) fun d => bnd (bnd (xBin addD (xRevT (xVar 4)) (xVar 4)) fun d => bnd (ret []) fun ds => ret (d :: ds)) fun ds => ret (d :: ds))) fun d => bnd (ret []) fun ds => ret (d :: ds)) fun ds => ret (d :: ds)) fun ds => ret (d :: ds)) fun ds => ret (d :: ds))) fun ds => ret (.list ds)) (sName 7))
  (sSeq (sIf (xNotT (xTru (xDef g__law_same (bnd (xVar 7) fun d => bnd (bnd (bnd (xLst (bnd (xVar 6) fun d => bnd (bnd (xCall lenD (bnd (xVar 6) fun d => bnd (ret []) fun ds => ret (d :: ds))) fun d => bnd (bnd (xCall tupleD (bnd (xVar 5) fun d => bnd (ret []) fun ds => ret (d :: ds))) fun d => bnd (bnd (xVar 6) fun d => bnd (ret []) fun ds => ret (d :: ds)) fun ds => ret (d :: ds)) fun ds => ret (d :: ds)) fun ds => ret (d :: ds))) fun ds => ret (.list ds)) fun d => bnd (ret []) fun ds => ret (d :: ds)) fun ds => ret (d :: ds))))) (sRet (ret (.bool false))) sSkip)
  (sSeq (sAsg (bnd (xComp (xSeq (xVar 6)) [8] (sName 8) (ret true) (xDef g__law_lead (bnd (xVar 8) fun d => bnd (ret []) fun ds => ret (d :: ds)))) fun ds => ret (.list ds)) (sName 9))
  (sSeq (sFor (xCallF' range1D (bnd (ret (.int 3)) fun d => bnd (ret []) fun ds => ret (d :: ds))) (sName 10) (sSeq (sAsg (xCall tupleD (bnd (bnd (xComp (xCallF' range1D (bnd (xVar 3) fun d => bnd (ret []) fun ds => ret (d :: ds))) [13] (sName 13) (ret true) (xDefO g__law_take 0 (bnd (xVar 1) fun d => bnd (ret []) fun ds => ret (d :: ds)))) fun ds => ret (.list ds)) fun d => bnd (ret []) fun ds => ret (d :: ds))) (sName 8))
  (sSeq (sAsg (xDef g_rest_of (bnd (xVar 1) fun d => bnd (bnd (xVar 8) fun d => bnd (bnd (xVar 4) fun d => bnd (ret []) fun ds => ret (d :: ds)) fun ds => ret (d :: ds)) fun ds => ret (d :: ds))) (sName 11))
  (sSeq (sIf (xOrT (xNotT (xTru (xUn (isiD ["tuple"]) (xVar 11)))) (xOrT (xBool (xBin neD (xCall lenD (bnd (xVar 11) fun d => bnd (ret []) fun ds => ret (d :: ds))) (xVar 3))) (xBool (xBin neD (bnd (xComp (xSeq (xVar 11)) [14] (sName 14) (xBool (xBin ninRD (xVar 14) (xVar 1))) (xVar 14)) fun ds => ret (.list ds)) (bnd (xLst (ret [])) fun ds => ret (.list ds)))))) (sRet (ret (.bool false))) sSkip)
  (sSeq (sIf (xBool (xBin ninD (xDef g__law_plus (bnd (xVar 1) fun d => bnd (bnd (xVar 8) fun d => bnd (bnd (xVar 11) fun d => bnd (bnd (xBin subD (xVar 1) (ret (.int 1))) fun d => bnd (ret []) fun ds => ret (d :: ds)) fun ds => ret (d :: ds)) fun ds => ret (d :: ds)) fun ds => ret (d :: ds))) (xVar 5))) (sRet (ret (.bool false))) sSkip)
  (sSeq (sIf (xBool (xBin neD (bnd (xComp (xSeq (xVar 9)) [13] (sName 13) (xBool (xBin neD (xBin ixD (xVar 11) (xVar 13)) (ret (.int 0)))) (xBin ixD (xVar 11) (xVar 13))) fun ds => ret (.list ds)) (bnd (xLst (ret [])) fun ds => ret (.list ds)))) (sRet (ret (.bool false))) sSkip)
  (sSeq (sAsg (xBin addD (xTup (bnd (xVar 8) fun d => bnd (ret []) fun ds => ret (d :: ds))) (xSl (xVar 4) (ret none) (xPart (ret (.int 1))))) (sName 12))
  (sIf (xNotT (xTru (xDef g__law_same (bnd (xDef g_is_within (bnd (xVar 1) fun d => bnd (bnd (xVar 12) fun d => bnd (bnd (xVar 4) fun d => bnd (ret []) fun ds => ret (d :: ds)) fun ds => ret (d :: ds)) fun ds => ret (d :: ds))) fun d => bnd (bnd (xBin inD (xVar 8) (xVar 5)) fun d => bnd (ret []) fun ds => ret (d :: ds)) fun ds => ret (d :: ds))))) (sRet (ret (.bool false))) sSkip))))))))
  (sRet (xDef g__law_same (bnd (xDef g_is_within (bnd (xVar 1) fun d => bnd (bnd (xVar 4) fun d => bnd (bnd (xVar 6) fun d => bnd (ret []) fun ds => ret (d :: ds)) fun ds => ret (d :: ds)) fun ds => ret (d :: ds))) fun d => bnd (bnd (ret (.bool true)) fun d => bnd (ret []) fun ds => ret (d :: ds)) fun ds => ret (d :: ds)))))))))))
def g__law_right : Sg → Option (Ans PyData × Sg) := runD 15 B__law_right
def B_law : MS :=
  (sSeq (sIf (xNotT (xTru (xDef g__law_by_hand_right (ret [])))) (sRet (ret (.bool false))) sSkip)
  (sSeq (sAsg (xDef g__law_cells (bnd (xVar 0) fun d => bnd (bnd (ret (.int 2)) fun d => bnd (ret []) fun ds => ret (d :: ds)) fun ds => ret (d :: ds))) (sName 1))
  (sSeq (sIf (xAndT (xBool (xBin eqD (xBin modD (xCall intD (bnd (xBin ixD (xVar 1) (ret (.int 0))) fun d => bnd (ret []) fun ds => ret (d :: ds))) (ret (.int 4))) (ret (.int 1)))) (xNotT (xTru (xDef g__law_brink_right (ret []))))) (sRet (ret (.bool false))) sSkip)
  (sRet (xCall allD (bnd (bnd (xComp (xCallF' range1D (bnd (xCall lenD (bnd (xVar 1) fun d => bnd (ret []) fun ds => ret (d :: ds))) fun d => bnd (ret []) fun ds => ret (d :: ds))) [2] (sName 2) (ret true) (xDefT g__law_right (xDefF g__law_box (bnd (xVar 1) fun d => bnd (bnd (xVar 2) fun d => bnd (ret []) fun ds => ret (d :: ds)) fun ds => ret (d :: ds))))) fun ds => ret (.list ds)) fun d => bnd (ret []) fun ds => ret (d :: ds)))))))
def g_law : Sg → Option (Ans PyData × Sg) := runD 3 B_law
end K03
end

section
set_option Elab.async false
set_option linter.all false
set_option maxRecDepth 100000
set_option maxHeartbeats 4000000
namespace K03
open PySem PySem.Spec PyProof.Rows L2 PD
def topS (i : Nat) : Stmt := PySem.Challenge.pw_anydlooks_k03_spaces_and_their_bases.main.body.getD i (.Pass ⟨0, 0, 0, 0⟩)
abbrev s_power : Stmt := topS 4
abbrev N_power : List Str := ["base", "many", "result", "_"]
theorem S_power : FnScope N_power ["base", "many"] (defScope s_power) := ⟨rfl, rfl, rfl, by decide +kernel, rfl, by decide +kernel, by decide +kernel⟩
abbrev s_all_rows : Stmt := topS 5
abbrev N_all_rows : List Str := ["prime", "length", "rows", "_", "row", "residue"]
theorem S_all_rows : FnScope N_all_rows ["prime", "length"] (defScope s_all_rows) := ⟨rfl, rfl, rfl, by decide +kernel, rfl, by decide +kernel, by decide +kernel⟩
abbrev s_inverse : Stmt := topS 7
abbrev N_inverse : List Str := ["prime", "residue", "other"]
theorem S_inverse : FnScope N_inverse ["prime", "residue"] (defScope s_inverse) := ⟨rfl, rfl, rfl, by decide +kernel, rfl, by decide +kernel, by decide +kernel⟩
abbrev s_row_by : Stmt := topS 8
abbrev N_row_by : List Str := ["prime", "rows", "factors", "length", "total", "row", "factor", "own", "more"]
theorem S_row_by : FnScope N_row_by ["prime", "rows", "factors", "length"] (defScope s_row_by) := ⟨rfl, rfl, rfl, by decide +kernel, rfl, by decide +kernel, by decide +kernel⟩
abbrev s__scaled : Stmt := topS 9
abbrev N__scaled : List Str := ["prime", "row", "factor", "own"]
theorem S__scaled : FnScope N__scaled ["prime", "row", "factor"] (defScope s__scaled) := ⟨rfl, rfl, rfl, by decide +kernel, rfl, by decide +kernel, by decide +kernel⟩
abbrev s__less : Stmt := topS 10
abbrev N__less : List Str := ["prime", "row", "other", "factor", "own", "more"]
theorem S__less : FnScope N__less ["prime", "row", "other", "factor"] (defScope s__less) := ⟨rfl, rfl, rfl, by decide +kernel, rfl, by decide +kernel, by decide +kernel⟩
abbrev s__echelon : Stmt := topS 11
abbrev N__echelon : List Str := ["prime", "rows", "width", "rest", "leads", "place", "top", "found", "lead", "row", "k", "own"]
theorem S__echelon : FnScope N__echelon ["prime", "rows", "width"] (defScope s__echelon) := ⟨rfl, rfl, rfl, by decide +kernel, rfl, by decide +kernel, by decide +kernel⟩
abbrev s__width : Stmt := topS 12
abbrev N__width : List Str := ["rows"]
theorem S__width : FnScope N__width ["rows"] (defScope s__width) := ⟨rfl, rfl, rfl, by decide +kernel, rfl, by decide +kernel, by decide +kernel⟩
abbrev s_basis : Stmt := topS 13
abbrev N_basis : List Str := ["prime", "rows", "rest", "leads", "row"]
theorem S_basis : FnScope N_basis ["prime", "rows"] (defScope s_basis) := ⟨rfl, rfl, rfl, by decide +kernel, rfl, by decide +kernel, by decide +kernel⟩
abbrev s_rank : Stmt := topS 14
abbrev N_rank : List Str := ["prime", "rows"]
theorem S_rank : FnScope N_rank ["prime", "rows"] (defScope s_rank) := ⟨rfl, rfl, rfl, by decide +kernel, rfl, by decide +kernel, by decide +kernel⟩
abbrev s__reduced : Stmt := topS 15
abbrev N__reduced : List Str := ["prime", "row", "lead_rows", "rest", "own", "factor"]
theorem S__reduced : FnScope N__reduced ["prime", "row", "lead_rows"] (defScope s__reduced) := ⟨rfl, rfl, rfl, by decide +kernel, rfl, by decide +kernel, by decide +kernel⟩
abbrev s__lead : Stmt := topS 16
abbrev N__lead : List Str := ["row", "place", "own"]
theorem S__lead : FnScope N__lead ["row"] (defScope s__lead) := ⟨rfl, rfl, rfl, by decide +kernel, rfl, by decide +kernel, by decide +kernel⟩
abbrev s_rest_of : Stmt := topS 17
abbrev N_rest_of : List Str := ["prime", "row", "rows"]
theorem S_rest_of : FnScope N_rest_of ["prime", "row", "rows"] (defScope s_rest_of) := ⟨rfl, rfl, rfl, by decide +kernel, rfl, by decide +kernel, by decide +kernel⟩
abbrev s_is_within : Stmt := topS 18
abbrev N_is_within : List Str := ["prime", "rows", "others", "lead_rows", "row"]
theorem S_is_within : FnScope N_is_within ["prime", "rows", "others"] (defScope s_is_within) := ⟨rfl, rfl, rfl, by decide +kernel, rfl, by decide +kernel, by decide +kernel⟩
abbrev s_members : Stmt := topS 19
abbrev N_members : List Str := ["prime", "rows", "length", "lead_rows", "factors", "own"]
theorem S_members : FnScope N_members ["prime", "rows", "length"] (defScope s_members) := ⟨rfl, rfl, rfl, by decide +kernel, rfl, by decide +kernel, by decide +kernel⟩
abbrev s__law_box : Stmt := topS 21
abbrev N__law_box : List Str := ["script", "k", "cell"]
theorem S__law_box : FnScope N__law_box ["script", "k"] (defScope s__law_box) := ⟨rfl, rfl, rfl, by decide +kernel, rfl, by decide +kernel, by decide +kernel⟩
abbrev s__law_take : Stmt := topS 22
abbrev N__law_take : List Str := ["tin", "below_so", "drawn", "once_so", "wide_so", "twice_so"]
theorem S__law_take : FnScope N__law_take ["tin", "below_so"] (defScope s__law_take) := ⟨rfl, rfl, rfl, by decide +kernel, rfl, by decide +kernel, by decide +kernel⟩
abbrev s__law_cells : Stmt := topS 23
abbrev N__law_cells : List Str := ["script", "most_so", "cells_so", "k", "cell", "at_so"]
theorem S__law_cells : FnScope N__law_cells ["script", "most_so"] (defScope s__law_cells) := ⟨rfl, rfl, rfl, by decide +kernel, rfl, by decide +kernel, by decide +kernel⟩
abbrev s__law_of : Stmt := topS 24
abbrev N__law_of : List Str := ["tin", "goods_so"]
theorem S__law_of : FnScope N__law_of ["tin", "goods_so"] (defScope s__law_of) := ⟨rfl, rfl, rfl, by decide +kernel, rfl, by decide +kernel, by decide +kernel⟩
abbrev s__law_lists : Stmt := topS 25
abbrev N__law_lists : List Str := ["matter", "bit"]
theorem S__law_lists : FnScope N__law_lists ["matter"] (defScope s__law_lists) := ⟨rfl, rfl, rfl, by decide +kernel, rfl, by decide +kernel, by decide +kernel⟩
abbrev s__law_same : Stmt := topS 26
abbrev N__law_same : List Str := ["got", "due", "mine", "its"]
theorem S__law_same : FnScope N__law_same ["got", "due"] (defScope s__law_same) := ⟨rfl, rfl, rfl, by decide +kernel, rfl, by decide +kernel, by decide +kernel⟩
abbrev s__law_plus : Stmt := topS 27
abbrev N__law_plus : List Str := ["p", "one_so", "two_so", "factor_so", "own", "its"]
theorem S__law_plus : FnScope N__law_plus ["p", "one_so", "two_so", "factor_so"] (defScope s__law_plus) := ⟨rfl, rfl, rfl, by decide +kernel, rfl, by decide +kernel, by decide +kernel⟩
abbrev s__law_unit : Stmt := topS 28
abbrev N__law_unit : List Str := ["wide_so", "at_so", "k"]
theorem S__law_unit : FnScope N__law_unit ["wide_so", "at_so"] (defScope s__law_unit) := ⟨rfl, rfl, rfl, by decide +kernel, rfl, by decide +kernel, by decide +kernel⟩
abbrev s__law_tuples : Stmt := topS 29
abbrev N__law_tuples : List Str := ["p", "count_so", "found", "lap", "longer_so", "own", "n"]
theorem S__law_tuples : FnScope N__law_tuples ["p", "count_so"] (defScope s__law_tuples) := ⟨rfl, rfl, rfl, by decide +kernel, rfl, by decide +kernel, by decide +kernel⟩
abbrev s__law_mixed : Stmt := topS 30
abbrev N__law_mixed : List Str := ["p", "vectors_so", "factors_so", "wide_so", "found", "own", "n"]
theorem S__law_mixed : FnScope N__law_mixed ["p", "vectors_so", "factors_so", "wide_so"] (defScope s__law_mixed) := ⟨rfl, rfl, rfl, by decide +kernel, rfl, by decide +kernel, by decide +kernel⟩
abbrev s__law_sums : Stmt := topS 31
abbrev N__law_sums : List Str := ["p", "vectors_so", "wide_so", "found", "own"]
theorem S__law_sums : FnScope N__law_sums ["p", "vectors_so", "wide_so"] (defScope s__law_sums) := ⟨rfl, rfl, rfl, by decide +kernel, rfl, by decide +kernel, by decide +kernel⟩
abbrev s__law_lead : Stmt := topS 32
abbrev N__law_lead : List Str := ["own", "hits_so", "k", "n"]
theorem S__law_lead : FnScope N__law_lead ["own"] (defScope s__law_lead) := ⟨rfl, rfl, rfl, by decide +kernel, rfl, by decide +kernel, by decide +kernel⟩
abbrev s__law_basis : Stmt := topS 33
abbrev N__law_basis : List Str := ["p", "vectors_so", "wide_so", "goods_so", "found", "own", "leads_so", "at_so", "k"]
theorem S__law_basis : FnScope N__law_basis ["p", "vectors_so", "wide_so"] (defScope s__law_basis) := ⟨rfl, rfl, rfl, by decide +kernel, rfl, by decide +kernel, by decide +kernel⟩
abbrev s__law_drawn_vectors : Stmt := topS 34
abbrev N__law_drawn_vectors : List Str := ["tin", "p", "count_so", "wide_so", "found", "lap", "kind_so", "k"]
theorem S__law_drawn_vectors : FnScope N__law_drawn_vectors ["tin", "p", "count_so", "wide_so"] (defScope s__law_drawn_vectors) := ⟨rfl, rfl, rfl, by decide +kernel, rfl, by decide +kernel, by decide +kernel⟩
abbrev s__law_drawn_shape : Stmt := topS 35
abbrev N__law_drawn_shape : List Str := ["tin", "p", "most_so", "size_so"]
theorem S__law_drawn_shape : FnScope N__law_drawn_shape ["tin"] (defScope s__law_drawn_shape) := ⟨rfl, rfl, rfl, by decide +kernel, rfl, by decide +kernel, by decide +kernel⟩
abbrev s__law_heard : Stmt := topS 36
abbrev N__law_heard : List Str := ["p", "vectors_so", "wide_so", "caught", "mine", "error"]
theorem S__law_heard : FnScope N__law_heard ["p", "vectors_so", "wide_so"] (defScope s__law_heard) := ⟨rfl, rfl, rfl, by decide +kernel, rfl, by decide +kernel, by decide +kernel⟩
abbrev s__law_by_hand_right : Stmt := topS 37
abbrev N__law_by_hand_right : List Str := ["three", "got", "due", "units_so", "soft", "k"]
theorem S__law_by_hand_right : FnScope N__law_by_hand_right [] (defScope s__law_by_hand_right) := ⟨rfl, rfl, rfl, by decide +kernel, rfl, by decide +kernel, by decide +kernel⟩
abbrev s__law_brink_right : Stmt := topS 38
abbrev N__law_brink_right : List Str := ["told", "k"]
theorem S__law_brink_right : FnScope N__law_brink_right [] (defScope s__law_brink_right) := ⟨rfl, rfl, rfl, by decide +kernel, rfl, by decide +kernel, by decide +kernel⟩
abbrev s__law_right : Stmt := topS 39
abbrev N__law_right : List Str := ["tin", "p", "count_so", "wide_so", "vectors_so", "goods_so", "due", "got", "own", "leads_so", "lap", "left_so", "some_so", "k", "n"]
theorem S__law_right : FnScope N__law_right ["tin"] (defScope s__law_right) := ⟨rfl, rfl, rfl, by decide +kernel, rfl, by decide +kernel, by decide +kernel⟩
abbrev s_law : Stmt := topS 40
abbrev N_law : List Str := ["script", "cells_so", "k"]
theorem S_law : FnScope N_law ["script"] (defScope s_law) := ⟨rfl, rfl, rfl, by decide +kernel, rfl, by decide +kernel, by decide +kernel⟩
variable {P : Program} {w : World} {K : PySem.W.Frag} {mg : Str → Option Value} {base : Heap}
theorem bd_power {a_power : Addr}
    (m_range : mg "range" = none) :
    ∀ (cdv : Value) (A : Around) (outer : List PySem.Env) (s : Shared) (H : Hp) (E : XK), Room 0 (A.deeper (envOfC "power" (defScope s_power) s.heap.objs.size a_power cdv)) → DSs (CxD P w K mg base N_power "power" s_power a_power cdv A outer s H E) (fun cls d _ H => E cls d H) (defBody s_power) B_power := fun cdv A outer s H E hr =>
  (dss_cons (ds_set (i := 2) S_power.nd de_int)
  (dss_cons (ds_for own_cx rfl (di_range1 m_range (da_cons (de_var 1) da_nil)) (dg_name (i := 3) S_power.nd) (dss_one (ds_augMul (i := 2) S_power.nd (de_var 0))))
  (dss_one (ds_ret (de_var 2)))))
theorem ok_power {a_power : Addr} {fd_power : FuncData} (F : Fun K "power" "power" s_power a_power fd_power)
    (m_range : mg "range" = none) :
    FnOk P w K mg base (L2.CX P w) 1 a_power fd_power ["base", "many"] (spD K mg 2 g_power) :=
  fn_d (k := 0) (N := N_power) (ps := ["base", "many"]) (gs := B_power) F S_power (by decide) (bd_power m_range)
theorem bd_all_rows {a_all_rows : Addr}
    (m_range : mg "range" = none) :
    ∀ (cdv : Value) (A : Around) (outer : List PySem.Env) (s : Shared) (H : Hp) (E : XK), Room 0 (A.deeper (envOfC "all_rows" (defScope s_all_rows) s.heap.objs.size a_all_rows cdv)) → DSs (CxD P w K mg base N_all_rows "all_rows" s_all_rows a_all_rows cdv A outer s H E) (fun cls d _ H => E cls d H) (defBody s_all_rows) B_all_rows := fun cdv A outer s H E hr =>
  (dss_cons (ds_set (i := 2) S_all_rows.nd (de_df (df_lst (da_cons (de_tup da_nil) da_nil))))
  (dss_cons (ds_for own_cx rfl (di_range1 m_range (da_cons (de_var 1) da_nil)) (dg_name (i := 3) S_all_rows.nd) (dss_one (ds_setLc2F (i := 2) (own := [("row", 4), ("residue", 5)]) (vs1 := [5]) rfl S_all_rows.nd (di_seq (de_var 2)) (blkOk_by (N := N_all_rows) (sc := defScope s_all_rows) (own := [("row", 4), ("residue", 5)]) (by decide +kernel)) (by decide) (fun _ _ _ _ _ => (dgc_name (i := 4) S_all_rows.nd (by decide))) (fun _ _ _ _ _ => dts_nil) (fun _ _ _ _ _ => (di_range1 m_range (da_cons (de_var 0) da_nil))) (fun _ _ _ _ _ => (dgc_name (i := 5) S_all_rows.nd (by decide))) (fun _ _ _ _ _ => dts_nil) (fun _ _ _ _ _ => (de_tup (da_star (de_var 4) (da_cons (de_var 5) da_nil)))) (sw_true rfl rfl rfl (by decide +kernel)))))
  (dss_one (ds_ret (de_var 2)))))
theorem ok_all_rows {a_all_rows : Addr} {fd_all_rows : FuncData} (F : Fun K "all_rows" "all_rows" s_all_rows a_all_rows fd_all_rows)
    (m_range : mg "range" = none) :
    FnOk P w K mg base (L2.CX P w) 1 a_all_rows fd_all_rows ["prime", "length"] (spD K mg 2 g_all_rows) :=
  fn_d (k := 0) (N := N_all_rows) (ps := ["prime", "length"]) (gs := B_all_rows) F S_all_rows (by decide) (bd_all_rows m_range)
theorem bd_inverse {a_inverse : Addr}
    (m_range : mg "range" = none)
    {C_Unfit : Addr} {B_Unfit n_Unfit i_Unfit : String} {bm_Unfit : List Value} (X_Unfit : ExcT K mg "Unfit" C_Unfit B_Unfit n_Unfit i_Unfit bm_Unfit) :
    ∀ (cdv : Value) (A : Around) (outer : List PySem.Env) (s : Shared) (H : Hp) (E : XK), Room 0 (A.deeper (envOfC "inverse" (defScope s_inverse) s.heap.objs.size a_inverse cdv)) → DSs (CxD P w K mg base N_inverse "inverse" s_inverse a_inverse cdv A outer s H E) (fun cls d _ H => E cls d H) (defBody s_inverse) B_inverse := fun cdv A outer s H E hr =>
  (dss_cons (ds_for own_cx rfl (di_range1 m_range (da_cons (de_var 0) da_nil)) (dg_name (i := 2) S_inverse.nd) (dss_one (ds_if (dt_eq (hu64 hr) (de_mod (de_mul (de_var 2) (de_var 1)) (de_var 0)) de_int) (dss_one (ds_ret (de_var 2))) dss_nil)))
  (dss_one (ds_raise0 (x := "Unfit") X_Unfit rfl (takes_of rfl rfl rfl rfl))))
theorem ok_inverse {a_inverse : Addr} {fd_inverse : FuncData} (F : Fun K "inverse" "inverse" s_inverse a_inverse fd_inverse)
    (m_range : mg "range" = none)
    {C_Unfit : Addr} {B_Unfit n_Unfit i_Unfit : String} {bm_Unfit : List Value} (X_Unfit : ExcT K mg "Unfit" C_Unfit B_Unfit n_Unfit i_Unfit bm_Unfit) :
    FnOk P w K mg base (L2.CX P w) 1 a_inverse fd_inverse ["prime", "residue"] (spD K mg 2 g_inverse) :=
  fn_d (k := 0) (N := N_inverse) (ps := ["prime", "residue"]) (gs := B_inverse) F S_inverse (by decide) (bd_inverse m_range X_Unfit)
theorem bd_row_by {a_row_by : Addr}
    (m_tuple : mg "tuple" = none)
    (m_zip : mg "zip" = none) :
    ∀ (cdv : Value) (A : Around) (outer : List PySem.Env) (s : Shared) (H : Hp) (E : XK), Room 0 (A.deeper (envOfC "row_by" (defScope s_row_by) s.heap.objs.size a_row_by cdv)) → DSs (CxD P w K mg base N_row_by "row_by" s_row_by a_row_by cdv A outer s H E) (fun cls d _ H => E cls d H) (defBody s_row_by) B_row_by := fun cdv A outer s H E hr =>
  (dss_cons (ds_set (i := 4) S_row_by.nd (de_df (df_rep (df_lst (da_cons de_int da_nil)) (de_var 3))))
  (dss_cons (ds_for own_cx rfl (di_zip m_zip (da_cons (de_var 1) (da_cons (de_var 2) da_nil))) (dg_tup rfl (dgs_cons (dg_name (i := 5) S_row_by.nd) (dgs_cons (dg_name (i := 6) S_row_by.nd) dgs_nil))) (dss_one (ds_if (dt_tru (de_var 6)) (dss_one (ds_setLcF (i := 4) (own := [("own", 7), ("more", 8)]) rfl S_row_by.nd (di_zip m_zip (da_cons (de_var 4) (da_cons (de_var 5) da_nil))) (blkOk_by (N := N_row_by) (sc := defScope s_row_by) (own := [("own", 7), ("more", 8)]) (by decide +kernel)) (fun _ _ _ _ _ => (dgc_tup rfl (dgsc_cons (dgc_name (i := 7) S_row_by.nd (by decide)) (dgsc_cons (dgc_name (i := 8) S_row_by.nd (by decide)) dgsc_nil)))) (fun _ _ _ _ _ => dts_nil) (fun _ _ _ _ _ => (de_mod (de_add (de_var 7) (de_mul (de_var 6) (de_var 8))) (de_var 0))) (sw_true rfl rfl rfl (by decide +kernel)))) dss_nil)))
  (dss_one (ds_ret (de_tuplec (da_cons (de_var 4) da_nil) m_tuple)))))
theorem ok_row_by {a_row_by : Addr} {fd_row_by : FuncData} (F : Fun K "row_by" "row_by" s_row_by a_row_by fd_row_by)
    (m_tuple : mg "tuple" = none)
    (m_zip : mg "zip" = none) :
    FnOk P w K mg base (L2.CX P w) 1 a_row_by fd_row_by ["prime", "rows", "factors", "length"] (spD K mg 4 g_row_by) :=
  fn_d (k := 0) (N := N_row_by) (ps := ["prime", "rows", "factors", "length"]) (gs := B_row_by) F S_row_by (by decide) (bd_row_by m_tuple m_zip)
theorem bd__scaled {a__scaled : Addr}
     :
    ∀ (cdv : Value) (A : Around) (outer : List PySem.Env) (s : Shared) (H : Hp) (E : XK), Room 0 (A.deeper (envOfC "_scaled" (defScope s__scaled) s.heap.objs.size a__scaled cdv)) → DSs (CxD P w K mg base N__scaled "_scaled" s__scaled a__scaled cdv A outer s H E) (fun cls d _ H => E cls d H) (defBody s__scaled) B__scaled := fun cdv A outer s H E hr =>
  (dss_one (ds_ret (de_df (df_lc (own := [("own", 3)]) rfl S__scaled.nd (di_seq (de_var 1)) (blkOk_by (N := N__scaled) (sc := defScope s__scaled) (own := [("own", 3)]) (by decide +kernel)) (fun _ _ _ _ _ => (dgc_name (i := 3) S__scaled.nd (by decide))) (fun _ _ _ _ _ => dts_nil) (fun _ _ _ _ _ => (de_mod (de_mul (de_var 3) (de_var 2)) (de_var 0)))))))
theorem ok__scaled {a__scaled : Addr} {fd__scaled : FuncData} (F : Fun K "_scaled" "_scaled" s__scaled a__scaled fd__scaled)
     :
    FnOk P w K mg base (L2.CX P w) 1 a__scaled fd__scaled ["prime", "row", "factor"] (spD K mg 3 g__scaled) :=
  fn_d (k := 0) (N := N__scaled) (ps := ["prime", "row", "factor"]) (gs := B__scaled) F S__scaled (by decide) (bd__scaled )
theorem bd__less {a__less : Addr}
    (m_zip : mg "zip" = none) :
    ∀ (cdv : Value) (A : Around) (outer : List PySem.Env) (s : Shared) (H : Hp) (E : XK), Room 0 (A.deeper (envOfC "_less" (defScope s__less) s.heap.objs.size a__less cdv)) → DSs (CxD P w K mg base N__less "_less" s__less a__less cdv A outer s H E) (fun cls d _ H => E cls d H) (defBody s__less) B__less := fun cdv A outer s H E hr =>
  (dss_one (ds_ret (de_df (df_lc (own := [("own", 4), ("more", 5)]) rfl S__less.nd (di_zip m_zip (da_cons (de_var 1) (da_cons (de_var 2) da_nil))) (blkOk_by (N := N__less) (sc := defScope s__less) (own := [("own", 4), ("more", 5)]) (by decide +kernel)) (fun _ _ _ _ _ => (dgc_tup rfl (dgsc_cons (dgc_name (i := 4) S__less.nd (by decide)) (dgsc_cons (dgc_name (i := 5) S__less.nd (by decide)) dgsc_nil)))) (fun _ _ _ _ _ => dts_nil) (fun _ _ _ _ _ => (de_mod (de_sub (de_var 4) (de_mul (de_var 3) (de_var 5))) (de_var 0)))))))
theorem ok__less {a__less : Addr} {fd__less : FuncData} (F : Fun K "_less" "_less" s__less a__less fd__less)
    (m_zip : mg "zip" = none) :
    FnOk P w K mg base (L2.CX P w) 1 a__less fd__less ["prime", "row", "other", "factor"] (spD K mg 4 g__less) :=
  fn_d (k := 0) (N := N__less) (ps := ["prime", "row", "other", "factor"]) (gs := B__less) F S__less (by decide) (bd__less m_zip)
theorem bd__width {a__width : Addr}
    (m_len : mg "len" = none) :
    ∀ (cdv : Value) (A : Around) (outer : List PySem.Env) (s : Shared) (H : Hp) (E : XK), Room 0 (A.deeper (envOfC "_width" (defScope s__width) s.heap.objs.size a__width cdv)) → DSs (CxD P w K mg base N__width "_width" s__width a__width cdv A outer s H E) (fun cls d _ H => E cls d H) (defBody s__width) B__width := fun cdv A outer s H E hr =>
  (dss_one (ds_ret (de_if (dt_tru (de_var 0)) (de_len (da_cons (de_ix (fun _ _ => rfl) (de_var 0) de_int) da_nil) m_len) de_int)))
theorem ok__width {a__width : Addr} {fd__width : FuncData} (F : Fun K "_width" "_width" s__width a__width fd__width)
    (m_len : mg "len" = none) :
    FnOk P w K mg base (L2.CX P w) 1 a__width fd__width ["rows"] (spD K mg 1 g__width) :=
  fn_d (k := 0) (N := N__width) (ps := ["rows"]) (gs := B__width) F S__width (by decide) (bd__width m_len)
theorem bd__lead {a__lead : Addr}
    (m_enumerate : mg "enumerate" = none) :
    ∀ (cdv : Value) (A : Around) (outer : List PySem.Env) (s : Shared) (H : Hp) (E : XK), Room 0 (A.deeper (envOfC "_lead" (defScope s__lead) s.heap.objs.size a__lead cdv)) → DSs (CxD P w K mg base N__lead "_lead" s__lead a__lead cdv A outer s H E) (fun cls d _ H => E cls d H) (defBody s__lead) B__lead := fun cdv A outer s H E hr =>
  (dss_one (ds_ret (de_ix (fun _ _ => rfl) (de_df (df_lc (own := [("place", 1), ("own", 2)]) rfl S__lead.nd (di_enum m_enumerate (da_cons (de_var 0) da_nil)) (blkOk_by (N := N__lead) (sc := defScope s__lead) (own := [("place", 1), ("own", 2)]) (by decide +kernel)) (fun _ _ _ _ _ => (dgc_tup rfl (dgsc_cons (dgc_name (i := 1) S__lead.nd (by decide)) (dgsc_cons (dgc_name (i := 2) S__lead.nd (by decide)) dgsc_nil)))) (fun _ _ _ _ _ => (dts_one (dt_tru (de_var 2)))) (fun _ _ _ _ _ => (de_var 1)))) de_int)))
theorem ok__lead {a__lead : Addr} {fd__lead : FuncData} (F : Fun K "_lead" "_lead" s__lead a__lead fd__lead)
    (m_enumerate : mg "enumerate" = none) :
    FnOk P w K mg base (L2.CX P w) 1 a__lead fd__lead ["row"] (spD K mg 1 g__lead) :=
  fn_d (k := 0) (N := N__lead) (ps := ["row"]) (gs := B__lead) F S__lead (by decide) (bd__lead m_enumerate)
theorem bd__law_box {a__law_box : Addr}
    (m_abs : mg "abs" = none)
    (m_int : mg "int" = none)
    (m_len : mg "len" = none) :
    ∀ (cdv : Value) (A : Around) (outer : List PySem.Env) (s : Shared) (H : Hp) (E : XK), Room 0 (A.deeper (envOfC "_law_box" (defScope s__law_box) s.heap.objs.size a__law_box cdv)) → DSs (CxD P w K mg base N__law_box "_law_box" s__law_box a__law_box cdv A outer s H E) (fun cls d _ H => E cls d H) (defBody s__law_box) B__law_box := fun cdv A outer s H E hr =>
  (dss_cons (ds_set (i := 2) S__law_box.nd (de_if (dt_lt (de_var 1) (de_len (da_cons (de_var 0) da_nil) m_len)) (de_ix (fun _ _ => rfl) (de_var 0) (de_var 1)) de_int))
  (dss_one (ds_retF (df_lst (da_cons (de_mul (de_abs (da_cons (de_var 2) da_nil) m_abs) (de_intc (da_cons (de_ge (de_abs (da_cons (de_var 2) da_nil) m_abs) (de_pow de_int de_int)) da_nil) m_int)) (da_cons (de_add (de_add (de_mod (de_intc (da_cons (de_var 2) da_nil) m_int) de_int) (de_mul de_int (de_var 1))) de_int) (da_cons de_int da_nil)))))))
theorem ok__law_box {a__law_box : Addr} {fd__law_box : FuncData} (F : Fun K "_law_box" "_law_box" s__law_box a__law_box fd__law_box)
    (m_abs : mg "abs" = none)
    (m_int : mg "int" = none)
    (m_len : mg "len" = none) :
    FnOk P w K mg base (L2.CX P w) 1 a__law_box fd__law_box ["script", "k"] (spF K mg 2 g__law_box) :=
  fn_f (k := 0) (N := N__law_box) (ps := ["script", "k"]) (gs := B__law_box) F S__law_box (by decide) (bd__law_box m_abs m_int m_len)
theorem bd__law_take {a__law_take : Addr}
    (m_int : mg "int" = none) :
    ∀ (cdv : Value) (A : Around) (outer : List PySem.Env) (s : Shared) (H : Hp) (E : XK), Room 0 (A.deeper (envOfC "_law_take" (defScope s__law_take) s.heap.objs.size a__law_take cdv)) → DSs (CxD P w K mg base N__law_take "_law_take" s__law_take a__law_take cdv A outer s H E) (fun cls d _ H => E cls d H) (defBody s__law_take) B__law_take := fun cdv A outer s H E hr =>
  (dss_cons (ds_if (dt_gt (de_ixo (i := 0) (fun _ _ => rfl) de_int) de_int) (dss_cons (ds_set (i := 2) S__law_take.nd (de_mod (de_intc (da_cons (de_ixo (i := 0) (fun _ _ => rfl) de_int) da_nil) m_int) (de_var 1)))
  (dss_cons (ds_sub (i := 0) (de_fdiv (de_ixo (i := 0) (fun _ _ => rfl) de_int) (de_var 1)) de_int)
  (dss_one (ds_ret (de_var 2))))) dss_nil)
  (dss_cons (ds_sub (i := 0) (de_add (de_ixo (i := 0) (fun _ _ => rfl) de_int) de_int) de_int)
  (dss_cons (ds_set (i := 3) S__law_take.nd (de_mod (de_intc (da_cons (de_mul (de_add (de_ixo (i := 0) (fun _ _ => rfl) de_int) (de_mul de_int (de_ixo (i := 0) (fun _ _ => rfl) de_int))) (de_add de_int (de_ixo (i := 0) (fun _ _ => rfl) de_int))) da_nil) m_int) de_int))
  (dss_cons (ds_set (i := 4) S__law_take.nd (de_add (de_mod (de_intc (da_cons (de_var 3) da_nil) m_int) de_int) de_int))
  (dss_cons (ds_set (i := 5) S__law_take.nd (de_mod (de_intc (da_cons (de_mul (de_add (de_add (de_var 3) (de_ixo (i := 0) (fun _ _ => rfl) de_int)) (de_fdiv (de_ixo (i := 0) (fun _ _ => rfl) de_int) de_int)) (de_var 4)) da_nil) m_int) de_int))
  (dss_one (ds_ret (de_mod (de_intc (da_cons (de_fdiv (de_mod (de_intc (da_cons (de_add (de_mul (de_var 5) de_int) (de_var 3)) da_nil) m_int) de_int) de_int) da_nil) m_int) (de_var 1)))))))))
theorem ok__law_take {a__law_take : Addr} {fd__law_take : FuncData} (F : Fun K "_law_take" "_law_take" s__law_take a__law_take fd__law_take)
    (m_int : mg "int" = none) :
    FnOk P w K mg base (L2.CX P w) 1 a__law_take fd__law_take ["tin", "below_so"] (spD K mg 2 g__law_take) :=
  fn_d (k := 0) (N := N__law_take) (ps := ["tin", "below_so"]) (gs := B__law_take) F S__law_take (by decide) (bd__law_take m_int)
theorem bd__law_cells {a__law_cells : Addr}
    (m_enumerate : mg "enumerate" = none)
    (m_int : mg "int" = none)
    (m_list : mg "list" = none) :
    ∀ (cdv : Value) (A : Around) (outer : List PySem.Env) (s : Shared) (H : Hp) (E : XK), Room 0 (A.deeper (envOfC "_law_cells" (defScope s__law_cells) s.heap.objs.size a__law_cells cdv)) → DSs (CxD P w K mg base N__law_cells "_law_cells" s__law_cells a__law_cells cdv A outer s H E) (fun cls d _ H => E cls d H) (defBody s__law_cells) B__law_cells := fun cdv A outer s H E hr =>
  (dss_cons (ds_own (i := 2) S__law_cells.nd (df_or (df_list (da_cons (de_slice (de_var 0) do_none (do_some (de_var 1))) da_nil) m_list) (df_one (df_lst (da_cons de_int da_nil)))))
  (dss_cons (ds_for own_cx rfl (di_enum m_enumerate (da_cons (de_slice (de_var 0) (do_some (de_var 1)) (do_some de_int)) da_nil)) (dg_tup rfl (dgs_cons (dg_name (i := 3) S__law_cells.nd) (dgs_cons (dg_name (i := 4) S__law_cells.nd) dgs_nil))) (dss_cons (ds_set (i := 5) S__law_cells.nd (de_mod (de_intc (da_cons (de_var 3) da_nil) m_int) (de_var 1)))
  (dss_one (ds_sub (i := 2) (de_add (de_ixo (i := 2) (fun _ _ => rfl) (de_var 5)) (de_mul (de_var 4) (de_add (de_var 3) de_int))) (de_var 5)))))
  (dss_one (ds_ret (de_var 2)))))
theorem ok__law_cells {a__law_cells : Addr} {fd__law_cells : FuncData} (F : Fun K "_law_cells" "_law_cells" s__law_cells a__law_cells fd__law_cells)
    (m_enumerate : mg "enumerate" = none)
    (m_int : mg "int" = none)
    (m_list : mg "list" = none) :
    FnOk P w K mg base (L2.CX P w) 1 a__law_cells fd__law_cells ["script", "most_so"] (spD K mg 2 g__law_cells) :=
  fn_d (k := 0) (N := N__law_cells) (ps := ["script", "most_so"]) (gs := B__law_cells) F S__law_cells (by decide) (bd__law_cells m_enumerate m_int m_list)
theorem bd__law_plus {a__law_plus : Addr}
    (m_int : mg "int" = none)
    (m_tuple : mg "tuple" = none)
    (m_zip : mg "zip" = none) :
    ∀ (cdv : Value) (A : Around) (outer : List PySem.Env) (s : Shared) (H : Hp) (E : XK), Room 0 (A.deeper (envOfC "_law_plus" (defScope s__law_plus) s.heap.objs.size a__law_plus cdv)) → DSs (CxD P w K mg base N__law_plus "_law_plus" s__law_plus a__law_plus cdv A outer s H E) (fun cls d _ H => E cls d H) (defBody s__law_plus) B__law_plus := fun cdv A outer s H E hr =>
  (dss_one (ds_ret (de_tuplec (da_cons (de_df (df_lc (own := [("own", 4), ("its", 5)]) rfl S__law_plus.nd (di_zip m_zip (da_cons (de_var 1) (da_cons (de_var 2) da_nil))) (blkOk_by (N := N__law_plus) (sc := defScope s__law_plus) (own := [("own", 4), ("its", 5)]) (by decide +kernel)) (fun _ _ _ _ _ => (dgc_tup rfl (dgsc_cons (dgc_name (i := 4) S__law_plus.nd (by decide)) (dgsc_cons (dgc_name (i := 5) S__law_plus.nd (by decide)) dgsc_nil)))) (fun _ _ _ _ _ => dts_nil) (fun _ _ _ _ _ => (de_mod (de_intc (da_cons (de_add (de_var 4) (de_mul (de_var 3) (de_var 5))) da_nil) m_int) (de_var 0))))) da_nil) m_tuple)))
theorem ok__law_plus {a__law_plus : Addr} {fd__law_plus : FuncData} (F : Fun K "_law_plus" "_law_plus" s__law_plus a__law_plus fd__law_plus)
    (m_int : mg "int" = none)
    (m_tuple : mg "tuple" = none)
    (m_zip : mg "zip" = none) :
    FnOk P w K mg base (L2.CX P w) 1 a__law_plus fd__law_plus ["p", "one_so", "two_so", "factor_so"] (spD K mg 4 g__law_plus) :=
  fn_d (k := 0) (N := N__law_plus) (ps := ["p", "one_so", "two_so", "factor_so"]) (gs := B__law_plus) F S__law_plus (by decide) (bd__law_plus m_int m_tuple m_zip)
theorem bd__law_unit {a__law_unit : Addr}
    (m_int : mg "int" = none)
    (m_range : mg "range" = none)
    (m_tuple : mg "tuple" = none) :
    ∀ (cdv : Value) (A : Around) (outer : List PySem.Env) (s : Shared) (H : Hp) (E : XK), Room 0 (A.deeper (envOfC "_law_unit" (defScope s__law_unit) s.heap.objs.size a__law_unit cdv)) → DSs (CxD P w K mg base N__law_unit "_law_unit" s__law_unit a__law_unit cdv A outer s H E) (fun cls d _ H => E cls d H) (defBody s__law_unit) B__law_unit := fun cdv A outer s H E hr =>
  (dss_one (ds_ret (de_tuplec (da_cons (de_df (df_lc (own := [("k", 2)]) rfl S__law_unit.nd (di_range1 m_range (da_cons (de_var 0) da_nil)) (blkOk_by (N := N__law_unit) (sc := defScope s__law_unit) (own := [("k", 2)]) (by decide +kernel)) (fun _ _ _ _ _ => (dgc_name (i := 2) S__law_unit.nd (by decide))) (fun _ _ _ _ _ => dts_nil) (fun _ _ _ _ _ => (de_intc (da_cons (de_eq (hu64 hr) (de_var 2) (de_var 1)) da_nil) m_int)))) da_nil) m_tuple)))
theorem ok__law_unit {a__law_unit : Addr} {fd__law_unit : FuncData} (F : Fun K "_law_unit" "_law_unit" s__law_unit a__law_unit fd__law_unit)
    (m_int : mg "int" = none)
    (m_range : mg "range" = none)
    (m_tuple : mg "tuple" = none) :
    FnOk P w K mg base (L2.CX P w) 1 a__law_unit fd__law_unit ["wide_so", "at_so"] (spD K mg 2 g__law_unit) :=
  fn_d (k := 0) (N := N__law_unit) (ps := ["wide_so", "at_so"]) (gs := B__law_unit) F S__law_unit (by decide) (bd__law_unit m_int m_range m_tuple)
theorem bd__law_tuples {a__law_tuples : Addr}
    (m_range : mg "range" = none) :
    ∀ (cdv : Value) (A : Around) (outer : List PySem.Env) (s : Shared) (H : Hp) (E : XK), Room 0 (A.deeper (envOfC "_law_tuples" (defScope s__law_tuples) s.heap.objs.size a__law_tuples cdv)) → DSs (CxD P w K mg base N__law_tuples "_law_tuples" s__law_tuples a__law_tuples cdv A outer s H E) (fun cls d _ H => E cls d H) (defBody s__law_tuples) B__law_tuples := fun cdv A outer s H E hr =>
  (dss_cons (ds_set (i := 2) S__law_tuples.nd (de_df (df_lst (da_cons (de_tup da_nil) da_nil))))
  (dss_cons (ds_for own_cx rfl (di_range1 m_range (da_cons (de_var 1) da_nil)) (dg_name (i := 3) S__law_tuples.nd) (dss_cons (ds_set (i := 4) S__law_tuples.nd (de_df (df_lst da_nil)))
  (dss_cons (ds_for own_cx rfl (di_seq (de_var 2)) (dg_name (i := 5) S__law_tuples.nd) (dss_one (ds_set (i := 4) S__law_tuples.nd (de_df (df_cat (de_var 4) (de_df (df_lc (own := [("n", 6)]) rfl S__law_tuples.nd (di_range1 m_range (da_cons (de_var 0) da_nil)) (blkOk_by (N := N__law_tuples) (sc := defScope s__law_tuples) (own := [("n", 6)]) (by decide +kernel)) (fun _ _ _ _ _ => (dgc_name (i := 6) S__law_tuples.nd (by decide))) (fun _ _ _ _ _ => dts_nil) (fun _ _ _ _ _ => (de_add (de_var 5) (de_tup (da_cons (de_var 6) da_nil)))))))))))
  (dss_one (ds_set (i := 2) S__law_tuples.nd (de_var 4))))))
  (dss_one (ds_ret (de_var 2)))))
theorem ok__law_tuples {a__law_tuples : Addr} {fd__law_tuples : FuncData} (F : Fun K "_law_tuples" "_law_tuples" s__law_tuples a__law_tuples fd__law_tuples)
    (m_range : mg "range" = none) :
    FnOk P w K mg base (L2.CX P w) 1 a__law_tuples fd__law_tuples ["p", "count_so"] (spD K mg 2 g__law_tuples) :=
  fn_d (k := 0) (N := N__law_tuples) (ps := ["p", "count_so"]) (gs := B__law_tuples) F S__law_tuples (by decide) (bd__law_tuples m_range)
theorem bd__law_lead {a__law_lead : Addr}
    (m_enumerate : mg "enumerate" = none) :
    ∀ (cdv : Value) (A : Around) (outer : List PySem.Env) (s : Shared) (H : Hp) (E : XK), Room 0 (A.deeper (envOfC "_law_lead" (defScope s__law_lead) s.heap.objs.size a__law_lead cdv)) → DSs (CxD P w K mg base N__law_lead "_law_lead" s__law_lead a__law_lead cdv A outer s H E) (fun cls d _ H => E cls d H) (defBody s__law_lead) B__law_lead := fun cdv A outer s H E hr =>
  (dss_cons (ds_setLcF (i := 1) (own := [("k", 2), ("n", 3)]) rfl S__law_lead.nd (di_enum m_enumerate (da_cons (de_var 0) da_nil)) (blkOk_by (N := N__law_lead) (sc := defScope s__law_lead) (own := [("k", 2), ("n", 3)]) (by decide +kernel)) (fun _ _ _ _ _ => (dgc_tup rfl (dgsc_cons (dgc_name (i := 2) S__law_lead.nd (by decide)) (dgsc_cons (dgc_name (i := 3) S__law_lead.nd (by decide)) dgsc_nil)))) (fun _ _ _ _ _ => (dts_one (dt_ne (hu64 hr) (de_var 3) de_int))) (fun _ _ _ _ _ => (de_var 2)) (sw_true rfl rfl rfl (by decide +kernel)))
  (dss_one (ds_ret (de_if (dt_ne (hu64 hr) (de_var 1) (de_df (df_lst da_nil))) (de_ix (fun _ _ => rfl) (de_var 1) de_int) (de_neg de_int)))))
theorem ok__law_lead {a__law_lead : Addr} {fd__law_lead : FuncData} (F : Fun K "_law_lead" "_law_lead" s__law_lead a__law_lead fd__law_lead)
    (m_enumerate : mg "enumerate" = none) :
    FnOk P w K mg base (L2.CX P w) 1 a__law_lead fd__law_lead ["own"] (spD K mg 1 g__law_lead) :=
  fn_d (k := 0) (N := N__law_lead) (ps := ["own"]) (gs := B__law_lead) F S__law_lead (by decide) (bd__law_lead m_enumerate)
theorem bd__echelon {a__echelon : Addr}
    {a__less : Addr} {fd__less : FuncData} (F__less : FnOk P w K mg base (L2.CX P w) 1 a__less fd__less ["prime", "row", "other", "factor"] (spD K mg 4 g__less)) (e__less : mg "_less" = some (.ref a__less)) (k__less : PySem.W.keepIn K (.ref a__less) = true) (b__less : Binds K fd__less ["prime", "row", "other", "factor"] [])
    {a__scaled : Addr} {fd__scaled : FuncData} (F__scaled : FnOk P w K mg base (L2.CX P w) 1 a__scaled fd__scaled ["prime", "row", "factor"] (spD K mg 3 g__scaled)) (e__scaled : mg "_scaled" = some (.ref a__scaled)) (k__scaled : PySem.W.keepIn K (.ref a__scaled) = true) (b__scaled : Binds K fd__scaled ["prime", "row", "factor"] [])
    {a_inverse : Addr} {fd_inverse : FuncData} (F_inverse : FnOk P w K mg base (L2.CX P w) 1 a_inverse fd_inverse ["prime", "residue"] (spD K mg 2 g_inverse)) (e_inverse : mg "inverse" = some (.ref a_inverse)) (k_inverse : PySem.W.keepIn K (.ref a_inverse) = true) (b_inverse : Binds K fd_inverse ["prime", "residue"] [])
    (m_len : mg "len" = none)
    (m_list : mg "list" = none)
    (m_range : mg "range" = none) :
    ∀ (cdv : Value) (A : Around) (outer : List PySem.Env) (s : Shared) (H : Hp) (E : XK), Room 1 (A.deeper (envOfC "_echelon" (defScope s__echelon) s.heap.objs.size a__echelon cdv)) → DSs (CxD P w K mg base N__echelon "_echelon" s__echelon a__echelon cdv A outer s H E) (fun cls d _ H => E cls d H) (defBody s__echelon) B__echelon := fun cdv A outer s H E hr =>
  (dss_cons (ds_own (i := 3) S__echelon.nd (df_lc (own := [("row", 9)]) rfl S__echelon.nd (di_seq (de_var 1)) (blkOk_by (N := N__echelon) (sc := defScope s__echelon) (own := [("row", 9)]) (by decide +kernel)) (fun _ _ _ _ _ => (dgc_name (i := 9) S__echelon.nd (by decide))) (fun _ _ _ _ _ => dts_nil) (fun _ _ _ _ _ => (de_df (df_list (da_cons (de_var 9) da_nil) m_list)))))
  (dss_cons (ds_own (i := 4) S__echelon.nd (df_lst da_nil))
  (dss_cons (ds_for own_cx rfl (di_range1 m_range (da_cons (de_var 2) da_nil)) (dg_name (i := 5) S__echelon.nd) (dss_cons (ds_set (i := 6) S__echelon.nd (de_leno (i := 4) m_len))
  (dss_cons (ds_setLcF (i := 7) (own := [("k", 10)]) rfl S__echelon.nd (di_range2 m_range (da_cons (de_var 6) (da_cons (de_leno (i := 3) m_len) da_nil))) (blkOk_by (N := N__echelon) (sc := defScope s__echelon) (own := [("k", 10)]) (by decide +kernel)) (fun _ _ _ _ _ => (dgc_name (i := 10) S__echelon.nd (by decide))) (fun _ _ _ _ _ => (dts_one (dt_tru (de_ix (fun _ _ => rfl) (de_ixo (i := 3) (fun _ _ => rfl) (de_var 10)) (de_var 5))))) (fun _ _ _ _ _ => (de_var 10)) (sw_true rfl rfl rfl (by decide +kernel)))
  (dss_cons (ds_if (dt_not (dt_tru (de_var 7))) (dss_one ds_continue) dss_nil)
  (dss_cons (ds_asgm (de_tup (da_cons (de_ixo (i := 3) (fun _ _ => rfl) (de_ix (fun _ _ => rfl) (de_var 7) de_int)) (da_cons (de_ixo (i := 3) (fun _ _ => rfl) (de_var 6)) da_nil))) (dgm_tup rfl (dgsm_cons (dgm_sub (i := 3) (W := E00) (de_var 6)) (dgsm_cons (dgm_sub (i := 3) (W := E00) (de_ix (fun _ _ => rfl) (de_var 7) de_int)) dgsm_nil))))
  (dss_cons (ds_set (i := 8) S__echelon.nd (de_call F__scaled (hr.mono (by decide)) e__scaled k__scaled b__scaled pass_cx (da_cons (de_var 0) (da_cons (de_ixo (i := 3) (fun _ _ => rfl) (de_var 6)) (da_cons (de_call F_inverse (hr.mono (by decide)) e_inverse k_inverse b_inverse pass_cx (da_cons (de_var 0) (da_cons (de_ix (fun _ _ => rfl) (de_ixo (i := 3) (fun _ _ => rfl) (de_var 6)) (de_var 5)) da_nil)) (alenS (alenS alen0))) da_nil))) (alenS (alenS (alenS alen0)))))
  (dss_cons (ds_own (i := 3) S__echelon.nd (df_lc (own := [("own", 11)]) rfl S__echelon.nd (di_seq (de_var 3)) (blkOk_by (N := N__echelon) (sc := defScope s__echelon) (own := [("own", 11)]) (by decide +kernel)) (fun _ _ _ _ _ => (dgc_name (i := 11) S__echelon.nd (by decide))) (fun _ _ _ _ _ => dts_nil) (fun _ _ _ _ _ => (de_if (dt_tru (de_ix (fun _ _ => rfl) (de_var 11) (de_var 5))) (de_call F__less (hr.mono (by decide)) e__less k__less b__less pass0 (da_cons (de_var 0) (da_cons (de_var 11) (da_cons (de_var 8) (da_cons (de_ix (fun _ _ => rfl) (de_var 11) (de_var 5)) da_nil)))) (alenS (alenS (alenS (alenS alen0))))) (de_var 11)))))
  (dss_cons (ds_sub (i := 3) (de_var 8) (de_var 6))
  (dss_one (ds_app (i := 4) (de_var 5)))))))))))
  (dss_one (ds_ret (de_tup (da_cons (de_var 3) (da_cons (de_var 4) da_nil))))))))
theorem ok__echelon {a__echelon : Addr} {fd__echelon : FuncData} (F : Fun K "_echelon" "_echelon" s__echelon a__echelon fd__echelon)
    {a__less : Addr} {fd__less : FuncData} (F__less : FnOk P w K mg base (L2.CX P w) 1 a__less fd__less ["prime", "row", "other", "factor"] (spD K mg 4 g__less)) (e__less : mg "_less" = some (.ref a__less)) (k__less : PySem.W.keepIn K (.ref a__less) = true) (b__less : Binds K fd__less ["prime", "row", "other", "factor"] [])
    {a__scaled : Addr} {fd__scaled : FuncData} (F__scaled : FnOk P w K mg base (L2.CX P w) 1 a__scaled fd__scaled ["prime", "row", "factor"] (spD K mg 3 g__scaled)) (e__scaled : mg "_scaled" = some (.ref a__scaled)) (k__scaled : PySem.W.keepIn K (.ref a__scaled) = true) (b__scaled : Binds K fd__scaled ["prime", "row", "factor"] [])
    {a_inverse : Addr} {fd_inverse : FuncData} (F_inverse : FnOk P w K mg base (L2.CX P w) 1 a_inverse fd_inverse ["prime", "residue"] (spD K mg 2 g_inverse)) (e_inverse : mg "inverse" = some (.ref a_inverse)) (k_inverse : PySem.W.keepIn K (.ref a_inverse) = true) (b_inverse : Binds K fd_inverse ["prime", "residue"] [])
    (m_len : mg "len" = none)
    (m_list : mg "list" = none)
    (m_range : mg "range" = none) :
    FnOk P w K mg base (L2.CX P w) 2 a__echelon fd__echelon ["prime", "rows", "width"] (spD K mg 3 g__echelon) :=
  fn_d (k := 1) (N := N__echelon) (ps := ["prime", "rows", "width"]) (gs := B__echelon) F S__echelon (by decide) (bd__echelon F__less e__less k__less b__less F__scaled e__scaled k__scaled b__scaled F_inverse e_inverse k_inverse b_inverse m_len m_list m_range)
theorem bd__reduced {a__reduced : Addr}
    {a__lead : Addr} {fd__lead : FuncData} (F__lead : FnOk P w K mg base (L2.CX P w) 1 a__lead fd__lead ["row"] (spD K mg 1 g__lead)) (e__lead : mg "_lead" = some (.ref a__lead)) (k__lead : PySem.W.keepIn K (.ref a__lead) = true) (b__lead : Binds K fd__lead ["row"] [])
    {a__less : Addr} {fd__less : FuncData} (F__less : FnOk P w K mg base (L2.CX P w) 1 a__less fd__less ["prime", "row", "other", "factor"] (spD K mg 4 g__less)) (e__less : mg "_less" = some (.ref a__less)) (k__less : PySem.W.keepIn K (.ref a__less) = true) (b__less : Binds K fd__less ["prime", "row", "other", "factor"] [])
    (m_list : mg "list" = none)
    (m_tuple : mg "tuple" = none) :
    ∀ (cdv : Value) (A : Around) (outer : List PySem.Env) (s : Shared) (H : Hp) (E : XK), Room 1 (A.deeper (envOfC "_reduced" (defScope s__reduced) s.heap.objs.size a__reduced cdv)) → DSs (CxD P w K mg base N__reduced "_reduced" s__reduced a__reduced cdv A outer s H E) (fun cls d _ H => E cls d H) (defBody s__reduced) B__reduced := fun cdv A outer s H E hr =>
  (dss_cons (ds_set (i := 3) S__reduced.nd (de_df (df_list (da_cons (de_var 1) da_nil) m_list)))
  (dss_cons (ds_for own_cx rfl (di_seq (de_var 2)) (dg_name (i := 4) S__reduced.nd) (dss_cons (ds_set (i := 5) S__reduced.nd (de_ix (fun _ _ => rfl) (de_var 3) (de_call F__lead (hr.mono (by decide)) e__lead k__lead b__lead pass_cx (da_cons (de_var 4) da_nil) (alenS alen0))))
  (dss_one (ds_if (dt_tru (de_var 5)) (dss_one (ds_set (i := 3) S__reduced.nd (de_call F__less (hr.mono (by decide)) e__less k__less b__less pass_cx (da_cons (de_var 0) (da_cons (de_var 3) (da_cons (de_var 4) (da_cons (de_var 5) da_nil)))) (alenS (alenS (alenS (alenS alen0))))))) dss_nil))))
  (dss_one (ds_ret (de_tuplec (da_cons (de_var 3) da_nil) m_tuple)))))
theorem ok__reduced {a__reduced : Addr} {fd__reduced : FuncData} (F : Fun K "_reduced" "_reduced" s__reduced a__reduced fd__reduced)
    {a__lead : Addr} {fd__lead : FuncData} (F__lead : FnOk P w K mg base (L2.CX P w) 1 a__lead fd__lead ["row"] (spD K mg 1 g__lead)) (e__lead : mg "_lead" = some (.ref a__lead)) (k__lead : PySem.W.keepIn K (.ref a__lead) = true) (b__lead : Binds K fd__lead ["row"] [])
    {a__less : Addr} {fd__less : FuncData} (F__less : FnOk P w K mg base (L2.CX P w) 1 a__less fd__less ["prime", "row", "other", "factor"] (spD K mg 4 g__less)) (e__less : mg "_less" = some (.ref a__less)) (k__less : PySem.W.keepIn K (.ref a__less) = true) (b__less : Binds K fd__less ["prime", "row", "other", "factor"] [])
    (m_list : mg "list" = none)
    (m_tuple : mg "tuple" = none) :
    FnOk P w K mg base (L2.CX P w) 2 a__reduced fd__reduced ["prime", "row", "lead_rows"] (spD K mg 3 g__reduced) :=
  fn_d (k := 1) (N := N__reduced) (ps := ["prime", "row", "lead_rows"]) (gs := B__reduced) F S__reduced (by decide) (bd__reduced F__lead e__lead k__lead b__lead F__less e__less k__less b__less m_list m_tuple)
theorem bd__law_of {a__law_of : Addr}
    {a__law_take : Addr} {fd__law_take : FuncData} (F__law_take : FnOk P w K mg base (L2.CX P w) 1 a__law_take fd__law_take ["tin", "below_so"] (spD K mg 2 g__law_take)) (e__law_take : mg "_law_take" = some (.ref a__law_take)) (k__law_take : PySem.W.keepIn K (.ref a__law_take) = true) (b__law_take : Binds K fd__law_take ["tin", "below_so"] [])
    (m_len : mg "len" = none) :
    ∀ (cdv : Value) (A : Around) (outer : List PySem.Env) (s : Shared) (H : Hp) (E : XK), Room 1 (A.deeper (envOfC "_law_of" (defScope s__law_of) s.heap.objs.size a__law_of cdv)) → DSs (CxD P w K mg base N__law_of "_law_of" s__law_of a__law_of cdv A outer s H E) (fun cls d _ H => E cls d H) (defBody s__law_of) B__law_of := fun cdv A outer s H E hr =>
  (dss_one (ds_ret (de_ix (fun _ _ => rfl) (de_var 1) (de_callO (i := 0) F__law_take (hr.mono (by decide)) e__law_take k__law_take b__law_take pass_cx (da_cons (de_len (da_cons (de_var 1) da_nil) m_len) da_nil) (alenO (alenS alen0))))))
theorem ok__law_of {a__law_of : Addr} {fd__law_of : FuncData} (F : Fun K "_law_of" "_law_of" s__law_of a__law_of fd__law_of)
    {a__law_take : Addr} {fd__law_take : FuncData} (F__law_take : FnOk P w K mg base (L2.CX P w) 1 a__law_take fd__law_take ["tin", "below_so"] (spD K mg 2 g__law_take)) (e__law_take : mg "_law_take" = some (.ref a__law_take)) (k__law_take : PySem.W.keepIn K (.ref a__law_take) = true) (b__law_take : Binds K fd__law_take ["tin", "below_so"] [])
    (m_len : mg "len" = none) :
    FnOk P w K mg base (L2.CX P w) 2 a__law_of fd__law_of ["tin", "goods_so"] (spD K mg 2 g__law_of) :=
  fn_d (k := 1) (N := N__law_of) (ps := ["tin", "goods_so"]) (gs := B__law_of) F S__law_of (by decide) (bd__law_of F__law_take e__law_take k__law_take b__law_take m_len)
theorem bd__law_of2 {a__law_of : Addr}
    {a__law_take : Addr} {fd__law_take : FuncData} (F__law_take : FnOk P w K mg base (L2.CX P w) 1 a__law_take fd__law_take ["tin", "below_so"] (spD K mg 2 g__law_take)) (e__law_take : mg "_law_take" = some (.ref a__law_take)) (k__law_take : PySem.W.keepIn K (.ref a__law_take) = true) (b__law_take : Binds K fd__law_take ["tin", "below_so"] [])
    (m_len : mg "len" = none) :
    ∀ (cdv : Value) (A : Around) (outer : List PySem.Env) (s : Shared) (H : Hp) (E : XK), Room 1 (A.deeper (envOfC "_law_of" (defScope s__law_of) s.heap.objs.size a__law_of cdv)) → DSs (CxD P w K mg base N__law_of "_law_of" s__law_of a__law_of cdv A outer s H E) (fun cls d _ H => E cls d H) (defBody s__law_of) B__law_of2 := fun cdv A outer s H E hr =>
  (dss_one (ds_ret (de_ixo (i := 1) (fun _ _ => rfl) (de_callO (i := 0) F__law_take (hr.mono (by decide)) e__law_take k__law_take b__law_take pass_cx (da_cons (de_leno (i := 1) m_len) da_nil) (alenO (alenS alen0))))))
theorem ok__law_of2 {a__law_of : Addr} {fd__law_of : FuncData} (F : Fun K "_law_of" "_law_of" s__law_of a__law_of fd__law_of)
    {a__law_take : Addr} {fd__law_take : FuncData} (F__law_take : FnOk P w K mg base (L2.CX P w) 1 a__law_take fd__law_take ["tin", "below_so"] (spD K mg 2 g__law_take)) (e__law_take : mg "_law_take" = some (.ref a__law_take)) (k__law_take : PySem.W.keepIn K (.ref a__law_take) = true) (b__law_take : Binds K fd__law_take ["tin", "below_so"] [])
    (m_len : mg "len" = none) :
    FnOk P w K mg base (L2.CX P w) 2 a__law_of fd__law_of ["tin", "goods_so"] (spD K mg 2 g__law_of2) :=
  fn_d (k := 1) (N := N__law_of) (ps := ["tin", "goods_so"]) (gs := B__law_of2) F S__law_of (by decide) (bd__law_of2 F__law_take e__law_take k__law_take b__law_take m_len)
theorem bd__law_mixed {a__law_mixed : Addr}
    {a__law_plus : Addr} {fd__law_plus : FuncData} (F__law_plus : FnOk P w K mg base (L2.CX P w) 1 a__law_plus fd__law_plus ["p", "one_so", "two_so", "factor_so"] (spD K mg 4 g__law_plus)) (e__law_plus : mg "_law_plus" = some (.ref a__law_plus)) (k__law_plus : PySem.W.keepIn K (.ref a__law_plus) = true) (b__law_plus : Binds K fd__law_plus ["p", "one_so", "two_so", "factor_so"] [])
    (m_zip : mg "zip" = none) :
    ∀ (cdv : Value) (A : Around) (outer : List PySem.Env) (s : Shared) (H : Hp) (E : XK), Room 1 (A.deeper (envOfC "_law_mixed" (defScope s__law_mixed) s.heap.objs.size a__law_mixed cdv)) → DSs (CxD P w K mg base N__law_mixed "_law_mixed" s__law_mixed a__law_mixed cdv A outer s H E) (fun cls d _ H => E cls d H) (defBody s__law_mixed) B__law_mixed := fun cdv A outer s H E hr =>
  (dss_cons (ds_set (i := 4) S__law_mixed.nd (de_mul (de_tup (da_cons de_int da_nil)) (de_var 3)))
  (dss_cons (ds_for own_cx rfl (di_zip m_zip (da_cons (de_var 1) (da_cons (de_var 2) da_nil))) (dg_tup rfl (dgs_cons (dg_name (i := 5) S__law_mixed.nd) (dgs_cons (dg_name (i := 6) S__law_mixed.nd) dgs_nil))) (dss_one (ds_set (i := 4) S__law_mixed.nd (de_call F__law_plus (hr.mono (by decide)) e__law_plus k__law_plus b__law_plus pass_cx (da_cons (de_var 0) (da_cons (de_var 4) (da_cons (de_var 5) (da_cons (de_var 6) da_nil)))) (alenS (alenS (alenS (alenS alen0))))))))
  (dss_one (ds_ret (de_var 4)))))
theorem ok__law_mixed {a__law_mixed : Addr} {fd__law_mixed : FuncData} (F : Fun K "_law_mixed" "_law_mixed" s__law_mixed a__law_mixed fd__law_mixed)
    {a__law_plus : Addr} {fd__law_plus : FuncData} (F__law_plus : FnOk P w K mg base (L2.CX P w) 1 a__law_plus fd__law_plus ["p", "one_so", "two_so", "factor_so"] (spD K mg 4 g__law_plus)) (e__law_plus : mg "_law_plus" = some (.ref a__law_plus)) (k__law_plus : PySem.W.keepIn K (.ref a__law_plus) = true) (b__law_plus : Binds K fd__law_plus ["p", "one_so", "two_so", "factor_so"] [])
    (m_zip : mg "zip" = none) :
    FnOk P w K mg base (L2.CX P w) 2 a__law_mixed fd__law_mixed ["p", "vectors_so", "factors_so", "wide_so"] (spD K mg 4 g__law_mixed) :=
  fn_d (k := 1) (N := N__law_mixed) (ps := ["p", "vectors_so", "factors_so", "wide_so"]) (gs := B__law_mixed) F S__law_mixed (by decide) (bd__law_mixed F__law_plus e__law_plus k__law_plus b__law_plus m_zip)
theorem bd_basis {a_basis : Addr}
    {a__echelon : Addr} {fd__echelon : FuncData} (F__echelon : FnOk P w K mg base (L2.CX P w) 2 a__echelon fd__echelon ["prime", "rows", "width"] (spD K mg 3 g__echelon)) (e__echelon : mg "_echelon" = some (.ref a__echelon)) (k__echelon : PySem.W.keepIn K (.ref a__echelon) = true) (b__echelon : Binds K fd__echelon ["prime", "rows", "width"] [])
    {a__width : Addr} {fd__width : FuncData} (F__width : FnOk P w K mg base (L2.CX P w) 1 a__width fd__width ["rows"] (spD K mg 1 g__width)) (e__width : mg "_width" = some (.ref a__width)) (k__width : PySem.W.keepIn K (.ref a__width) = true) (b__width : Binds K fd__width ["rows"] [])
    (m_len : mg "len" = none)
    (m_tuple : mg "tuple" = none) :
    ∀ (cdv : Value) (A : Around) (outer : List PySem.Env) (s : Shared) (H : Hp) (E : XK), Room 2 (A.deeper (envOfC "basis" (defScope s_basis) s.heap.objs.size a_basis cdv)) → DSs (CxD P w K mg base N_basis "basis" s_basis a_basis cdv A outer s H E) (fun cls d _ H => E cls d H) (defBody s_basis) B_basis := fun cdv A outer s H E hr =>
  (dss_cons (ds_asg (de_call F__echelon (hr.mono (by decide)) e__echelon k__echelon b__echelon pass_cx (da_cons (de_var 0) (da_cons (de_var 1) (da_cons (de_call F__width (hr.mono (by decide)) e__width k__width b__width pass_cx (da_cons (de_var 1) da_nil) (alenS alen0)) da_nil))) (alenS (alenS (alenS alen0)))) (dg_tup rfl (dgs_cons (dg_name (i := 2) S_basis.nd) (dgs_cons (dg_name (i := 3) S_basis.nd) dgs_nil))))
  (dss_one (ds_ret (de_tuplec (da_cons (de_df (df_lc (own := [("row", 4)]) rfl S_basis.nd (di_seq (de_slice (de_var 2) do_none (do_some (de_len (da_cons (de_var 3) da_nil) m_len)))) (blkOk_by (N := N_basis) (sc := defScope s_basis) (own := [("row", 4)]) (by decide +kernel)) (fun _ _ _ _ _ => (dgc_name (i := 4) S_basis.nd (by decide))) (fun _ _ _ _ _ => dts_nil) (fun _ _ _ _ _ => (de_tuplec (da_cons (de_var 4) da_nil) m_tuple)))) da_nil) m_tuple))))
theorem ok_basis {a_basis : Addr} {fd_basis : FuncData} (F : Fun K "basis" "basis" s_basis a_basis fd_basis)
    {a__echelon : Addr} {fd__echelon : FuncData} (F__echelon : FnOk P w K mg base (L2.CX P w) 2 a__echelon fd__echelon ["prime", "rows", "width"] (spD K mg 3 g__echelon)) (e__echelon : mg "_echelon" = some (.ref a__echelon)) (k__echelon : PySem.W.keepIn K (.ref a__echelon) = true) (b__echelon : Binds K fd__echelon ["prime", "rows", "width"] [])
    {a__width : Addr} {fd__width : FuncData} (F__width : FnOk P w K mg base (L2.CX P w) 1 a__width fd__width ["rows"] (spD K mg 1 g__width)) (e__width : mg "_width" = some (.ref a__width)) (k__width : PySem.W.keepIn K (.ref a__width) = true) (b__width : Binds K fd__width ["rows"] [])
    (m_len : mg "len" = none)
    (m_tuple : mg "tuple" = none) :
    FnOk P w K mg base (L2.CX P w) 3 a_basis fd_basis ["prime", "rows"] (spD K mg 2 g_basis) :=
  fn_d (k := 2) (N := N_basis) (ps := ["prime", "rows"]) (gs := B_basis) F S_basis (by decide) (bd_basis F__echelon e__echelon k__echelon b__echelon F__width e__width k__width b__width m_len m_tuple)
theorem bd_rank {a_rank : Addr}
    {a__echelon : Addr} {fd__echelon : FuncData} (F__echelon : FnOk P w K mg base (L2.CX P w) 2 a__echelon fd__echelon ["prime", "rows", "width"] (spD K mg 3 g__echelon)) (e__echelon : mg "_echelon" = some (.ref a__echelon)) (k__echelon : PySem.W.keepIn K (.ref a__echelon) = true) (b__echelon : Binds K fd__echelon ["prime", "rows", "width"] [])
    {a__width : Addr} {fd__width : FuncData} (F__width : FnOk P w K mg base (L2.CX P w) 1 a__width fd__width ["rows"] (spD K mg 1 g__width)) (e__width : mg "_width" = some (.ref a__width)) (k__width : PySem.W.keepIn K (.ref a__width) = true) (b__width : Binds K fd__width ["rows"] [])
    (m_len : mg "len" = none) :
    ∀ (cdv : Value) (A : Around) (outer : List PySem.Env) (s : Shared) (H : Hp) (E : XK), Room 2 (A.deeper (envOfC "rank" (defScope s_rank) s.heap.objs.size a_rank cdv)) → DSs (CxD P w K mg base N_rank "rank" s_rank a_rank cdv A outer s H E) (fun cls d _ H => E cls d H) (defBody s_rank) B_rank := fun cdv A outer s H E hr =>
  (dss_one (ds_ret (de_len (da_cons (de_ix (fun _ _ => rfl) (de_call F__echelon (hr.mono (by decide)) e__echelon k__echelon b__echelon pass_cx (da_cons (de_var 0) (da_cons (de_var 1) (da_cons (de_call F__width (hr.mono (by decide)) e__width k__width b__width pass_cx (da_cons (de_var 1) da_nil) (alenS alen0)) da_nil))) (alenS (alenS (alenS alen0)))) de_int) da_nil) m_len)))
theorem ok_rank {a_rank : Addr} {fd_rank : FuncData} (F : Fun K "rank" "rank" s_rank a_rank fd_rank)
    {a__echelon : Addr} {fd__echelon : FuncData} (F__echelon : FnOk P w K mg base (L2.CX P w) 2 a__echelon fd__echelon ["prime", "rows", "width"] (spD K mg 3 g__echelon)) (e__echelon : mg "_echelon" = some (.ref a__echelon)) (k__echelon : PySem.W.keepIn K (.ref a__echelon) = true) (b__echelon : Binds K fd__echelon ["prime", "rows", "width"] [])
    {a__width : Addr} {fd__width : FuncData} (F__width : FnOk P w K mg base (L2.CX P w) 1 a__width fd__width ["rows"] (spD K mg 1 g__width)) (e__width : mg "_width" = some (.ref a__width)) (k__width : PySem.W.keepIn K (.ref a__width) = true) (b__width : Binds K fd__width ["rows"] [])
    (m_len : mg "len" = none) :
    FnOk P w K mg base (L2.CX P w) 3 a_rank fd_rank ["prime", "rows"] (spD K mg 2 g_rank) :=
  fn_d (k := 2) (N := N_rank) (ps := ["prime", "rows"]) (gs := B_rank) F S_rank (by decide) (bd_rank F__echelon e__echelon k__echelon b__echelon F__width e__width k__width b__width m_len)
theorem bd__law_sums {a__law_sums : Addr}
    {a__law_mixed : Addr} {fd__law_mixed : FuncData} (F__law_mixed : FnOk P w K mg base (L2.CX P w) 2 a__law_mixed fd__law_mixed ["p", "vectors_so", "factors_so", "wide_so"] (spD K mg 4 g__law_mixed)) (e__law_mixed : mg "_law_mixed" = some (.ref a__law_mixed)) (k__law_mixed : PySem.W.keepIn K (.ref a__law_mixed) = true) (b__law_mixed : Binds K fd__law_mixed ["p", "vectors_so", "factors_so", "wide_so"] [])
    {a__law_tuples : Addr} {fd__law_tuples : FuncData} (F__law_tuples : FnOk P w K mg base (L2.CX P w) 1 a__law_tuples fd__law_tuples ["p", "count_so"] (spD K mg 2 g__law_tuples)) (e__law_tuples : mg "_law_tuples" = some (.ref a__law_tuples)) (k__law_tuples : PySem.W.keepIn K (.ref a__law_tuples) = true) (b__law_tuples : Binds K fd__law_tuples ["p", "count_so"] [])
    (m_len : mg "len" = none)
    (m_sorted : mg "sorted" = none) :
    ∀ (cdv : Value) (A : Around) (outer : List PySem.Env) (s : Shared) (H : Hp) (E : XK), Room 2 (A.deeper (envOfC "_law_sums" (defScope s__law_sums) s.heap.objs.size a__law_sums cdv)) → DSs (CxD P w K mg base N__law_sums "_law_sums" s__law_sums a__law_sums cdv A outer s H E) (fun cls d _ H => E cls d H) (defBody s__law_sums) B__law_sums := fun cdv A outer s H E hr =>
  (dss_cons (ds_dnewT (i := 3) S__law_sums.nd)
  (dss_cons (ds_for own_cx rfl (di_seq (de_call F__law_tuples (hr.mono (by decide)) e__law_tuples k__law_tuples b__law_tuples pass_cx (da_cons (de_var 0) (da_cons (de_len (da_cons (de_var 1) da_nil) m_len) da_nil)) (alenS (alenS alen0)))) (dg_name (i := 4) S__law_sums.nd) (dss_one (ds_dput (i := 3) (hu1 hr) de_bl (de_call F__law_mixed (hr.mono (by decide)) e__law_mixed k__law_mixed b__law_mixed pass_cx (da_cons (de_var 0) (da_cons (de_var 1) (da_cons (de_var 4) (da_cons (de_var 2) da_nil)))) (alenS (alenS (alenS (alenS alen0))))))))
  (dss_one (ds_ret (de_df (df_sortDi (i := 3) rfl (hu65 hr) m_sorted))))))
theorem ok__law_sums {a__law_sums : Addr} {fd__law_sums : FuncData} (F : Fun K "_law_sums" "_law_sums" s__law_sums a__law_sums fd__law_sums)
    {a__law_mixed : Addr} {fd__law_mixed : FuncData} (F__law_mixed : FnOk P w K mg base (L2.CX P w) 2 a__law_mixed fd__law_mixed ["p", "vectors_so", "factors_so", "wide_so"] (spD K mg 4 g__law_mixed)) (e__law_mixed : mg "_law_mixed" = some (.ref a__law_mixed)) (k__law_mixed : PySem.W.keepIn K (.ref a__law_mixed) = true) (b__law_mixed : Binds K fd__law_mixed ["p", "vectors_so", "factors_so", "wide_so"] [])
    {a__law_tuples : Addr} {fd__law_tuples : FuncData} (F__law_tuples : FnOk P w K mg base (L2.CX P w) 1 a__law_tuples fd__law_tuples ["p", "count_so"] (spD K mg 2 g__law_tuples)) (e__law_tuples : mg "_law_tuples" = some (.ref a__law_tuples)) (k__law_tuples : PySem.W.keepIn K (.ref a__law_tuples) = true) (b__law_tuples : Binds K fd__law_tuples ["p", "count_so"] [])
    (m_len : mg "len" = none)
    (m_sorted : mg "sorted" = none) :
    FnOk P w K mg base (L2.CX P w) 3 a__law_sums fd__law_sums ["p", "vectors_so", "wide_so"] (spD K mg 3 g__law_sums) :=
  fn_d (k := 2) (N := N__law_sums) (ps := ["p", "vectors_so", "wide_so"]) (gs := B__law_sums) F S__law_sums (by decide) (bd__law_sums F__law_mixed e__law_mixed k__law_mixed b__law_mixed F__law_tuples e__law_tuples k__law_tuples b__law_tuples m_len m_sorted)
theorem bd__law_drawn_vectors {a__law_drawn_vectors : Addr}
    {a__law_of : Addr} {fd__law_of : FuncData} (F__law_of : FnOk P w K mg base (L2.CX P w) 2 a__law_of fd__law_of ["tin", "goods_so"] (spD K mg 2 g__law_of)) (e__law_of : mg "_law_of" = some (.ref a__law_of)) (k__law_of : PySem.W.keepIn K (.ref a__law_of) = true) (b__law_of : Binds K fd__law_of ["tin", "goods_so"] []) (F__law_of2 : FnOk P w K mg base (L2.CX P w) 2 a__law_of fd__law_of ["tin", "goods_so"] (spD K mg 2 g__law_of2))
    {a__law_plus : Addr} {fd__law_plus : FuncData} (F__law_plus : FnOk P w K mg base (L2.CX P w) 1 a__law_plus fd__law_plus ["p", "one_so", "two_so", "factor_so"] (spD K mg 4 g__law_plus)) (e__law_plus : mg "_law_plus" = some (.ref a__law_plus)) (k__law_plus : PySem.W.keepIn K (.ref a__law_plus) = true) (b__law_plus : Binds K fd__law_plus ["p", "one_so", "two_so", "factor_so"] [])
    {a__law_take : Addr} {fd__law_take : FuncData} (F__law_take : FnOk P w K mg base (L2.CX P w) 1 a__law_take fd__law_take ["tin", "below_so"] (spD K mg 2 g__law_take)) (e__law_take : mg "_law_take" = some (.ref a__law_take)) (k__law_take : PySem.W.keepIn K (.ref a__law_take) = true) (b__law_take : Binds K fd__law_take ["tin", "below_so"] [])
    (m_range : mg "range" = none)
    (m_tuple : mg "tuple" = none) :
    ∀ (cdv : Value) (A : Around) (outer : List PySem.Env) (s : Shared) (H : Hp) (E : XK), Room 2 (A.deeper (envOfC "_law_drawn_vectors" (defScope s__law_drawn_vectors) s.heap.objs.size a__law_drawn_vectors cdv)) → DSs (CxD P w K mg base N__law_drawn_vectors "_law_drawn_vectors" s__law_drawn_vectors a__law_drawn_vectors cdv A outer s H E) (fun cls d _ H => E cls d H) (defBody s__law_drawn_vectors) B__law_drawn_vectors := fun cdv A outer s H E hr =>
  (dss_cons (ds_own (i := 4) S__law_drawn_vectors.nd (df_lst da_nil))
  (dss_cons (ds_for own_cx rfl (di_range1 m_range (da_cons (de_var 2) da_nil)) (dg_name (i := 5) S__law_drawn_vectors.nd) (dss_cons (ds_set (i := 6) S__law_drawn_vectors.nd (de_callO (i := 0) F__law_take (hr.mono (by decide)) e__law_take k__law_take b__law_take pass_cx (da_cons de_int da_nil) (alenO (alenS alen0))))
  (dss_one (ds_if (dt_eq (hu64 hr) (de_var 6) de_int) (dss_one (ds_app (i := 4) (de_mul (de_tup (da_cons de_int da_nil)) (de_var 3)))) (dss_one (ds_if (dt_w (dw_and (dt_eq (hu64 hr) (de_var 6) de_int) (dw_and1 (dt_cmpo (i := 4) opd_ne (op_neD (hu64 hr)) (nomark _) (de_df (df_lst da_nil)))))) (dss_one (ds_app (i := 4) (de_call F__law_plus (hr.mono (by decide)) e__law_plus k__law_plus b__law_plus pass_cx (da_cons (de_var 1) (da_cons (de_mul (de_tup (da_cons de_int da_nil)) (de_var 3)) (da_cons (de_call2 (i := 0) (j := 4) F__law_of2 (hr.mono (by decide)) e__law_of k__law_of b__law_of pass_cx) (da_cons (de_callO (i := 0) F__law_take (hr.mono (by decide)) e__law_take k__law_take b__law_take pass_cx (da_cons (de_var 1) da_nil) (alenO (alenS alen0))) da_nil)))) (alenS (alenS (alenS (alenS alen0))))))) (dss_one (ds_app (i := 4) (de_tuplec (da_cons (de_df (df_lc (own := [("k", 7)]) rfl S__law_drawn_vectors.nd (di_range1 m_range (da_cons (de_var 3) da_nil)) (blkOk_by (N := N__law_drawn_vectors) (sc := defScope s__law_drawn_vectors) (own := [("k", 7)]) (by decide +kernel)) (fun _ _ _ _ _ => (dgc_name (i := 7) S__law_drawn_vectors.nd (by decide))) (fun _ _ _ _ _ => dts_nil) (fun _ _ _ _ _ => (de_callO (i := 0) F__law_take (hr.mono (by decide)) e__law_take k__law_take b__law_take pass0 (da_cons (de_var 1) da_nil) (alenO (alenS alen0)))))) da_nil) m_tuple)))))))))
  (dss_one (ds_ret (de_tuplec (da_cons (de_var 4) da_nil) m_tuple)))))
theorem ok__law_drawn_vectors {a__law_drawn_vectors : Addr} {fd__law_drawn_vectors : FuncData} (F : Fun K "_law_drawn_vectors" "_law_drawn_vectors" s__law_drawn_vectors a__law_drawn_vectors fd__law_drawn_vectors)
    {a__law_of : Addr} {fd__law_of : FuncData} (F__law_of : FnOk P w K mg base (L2.CX P w) 2 a__law_of fd__law_of ["tin", "goods_so"] (spD K mg 2 g__law_of)) (e__law_of : mg "_law_of" = some (.ref a__law_of)) (k__law_of : PySem.W.keepIn K (.ref a__law_of) = true) (b__law_of : Binds K fd__law_of ["tin", "goods_so"] []) (F__law_of2 : FnOk P w K mg base (L2.CX P w) 2 a__law_of fd__law_of ["tin", "goods_so"] (spD K mg 2 g__law_of2))
    {a__law_plus : Addr} {fd__law_plus : FuncData} (F__law_plus : FnOk P w K mg base (L2.CX P w) 1 a__law_plus fd__law_plus ["p", "one_so", "two_so", "factor_so"] (spD K mg 4 g__law_plus)) (e__law_plus : mg "_law_plus" = some (.ref a__law_plus)) (k__law_plus : PySem.W.keepIn K (.ref a__law_plus) = true) (b__law_plus : Binds K fd__law_plus ["p", "one_so", "two_so", "factor_so"] [])
    {a__law_take : Addr} {fd__law_take : FuncData} (F__law_take : FnOk P w K mg base (L2.CX P w) 1 a__law_take fd__law_take ["tin", "below_so"] (spD K mg 2 g__law_take)) (e__law_take : mg "_law_take" = some (.ref a__law_take)) (k__law_take : PySem.W.keepIn K (.ref a__law_take) = true) (b__law_take : Binds K fd__law_take ["tin", "below_so"] [])
    (m_range : mg "range" = none)
    (m_tuple : mg "tuple" = none) :
    FnOk P w K mg base (L2.CX P w) 3 a__law_drawn_vectors fd__law_drawn_vectors ["tin", "p", "count_so", "wide_so"] (spD K mg 4 g__law_drawn_vectors) :=
  fn_d (k := 2) (N := N__law_drawn_vectors) (ps := ["tin", "p", "count_so", "wide_so"]) (gs := B__law_drawn_vectors) F S__law_drawn_vectors (by decide) (bd__law_drawn_vectors F__law_of e__law_of k__law_of b__law_of F__law_of2 F__law_plus e__law_plus k__law_plus b__law_plus F__law_take e__law_take k__law_take b__law_take m_range m_tuple)
theorem bd__law_drawn_shape {a__law_drawn_shape : Addr}
    {a__law_of : Addr} {fd__law_of : FuncData} (F__law_of : FnOk P w K mg base (L2.CX P w) 2 a__law_of fd__law_of ["tin", "goods_so"] (spD K mg 2 g__law_of)) (e__law_of : mg "_law_of" = some (.ref a__law_of)) (k__law_of : PySem.W.keepIn K (.ref a__law_of) = true) (b__law_of : Binds K fd__law_of ["tin", "goods_so"] [])
    {a__law_take : Addr} {fd__law_take : FuncData} (F__law_take : FnOk P w K mg base (L2.CX P w) 1 a__law_take fd__law_take ["tin", "below_so"] (spD K mg 2 g__law_take)) (e__law_take : mg "_law_take" = some (.ref a__law_take)) (k__law_take : PySem.W.keepIn K (.ref a__law_take) = true) (b__law_take : Binds K fd__law_take ["tin", "below_so"] []) :
    ∀ (cdv : Value) (A : Around) (outer : List PySem.Env) (s : Shared) (H : Hp) (E : XK), Room 2 (A.deeper (envOfC "_law_drawn_shape" (defScope s__law_drawn_shape) s.heap.objs.size a__law_drawn_shape cdv)) → DSs (CxD P w K mg base N__law_drawn_shape "_law_drawn_shape" s__law_drawn_shape a__law_drawn_shape cdv A outer s H E) (fun cls d _ H => E cls d H) (defBody s__law_drawn_shape) B__law_drawn_shape := fun cdv A outer s H E hr =>
  (dss_cons (ds_set (i := 1) S__law_drawn_shape.nd (de_callO (i := 0) F__law_of (hr.mono (by decide)) e__law_of k__law_of b__law_of pass_cx (da_cons (de_df (df_lst (da_cons de_int (da_cons de_int (da_cons de_int (da_cons de_int (da_cons de_int da_nil))))))) da_nil) (alenO (alenS alen0))))
  (dss_cons (ds_set (i := 2) S__law_drawn_shape.nd (de_ix (fun _ _ => rfl) (de_df (df_lst (da_cons de_int (da_cons de_int (da_cons de_int (da_cons de_int (da_cons de_int (da_cons de_int da_nil)))))))) (de_var 1)))
  (dss_cons (ds_set (i := 3) S__law_drawn_shape.nd (de_add (de_mul de_int (de_var 2)) de_int))
  (dss_one (ds_ret (de_tup (da_cons (de_var 1) (da_cons (de_fdiv (de_add de_int (de_callO (i := 0) F__law_take (hr.mono (by decide)) e__law_take k__law_take b__law_take pass_cx (da_cons (de_var 3) da_nil) (alenO (alenS alen0)))) de_int) (da_cons (de_fdiv (de_add de_int (de_callO (i := 0) F__law_take (hr.mono (by decide)) e__law_take k__law_take b__law_take pass_cx (da_cons (de_var 3) da_nil) (alenO (alenS alen0)))) de_int) da_nil)))))))))
theorem ok__law_drawn_shape {a__law_drawn_shape : Addr} {fd__law_drawn_shape : FuncData} (F : Fun K "_law_drawn_shape" "_law_drawn_shape" s__law_drawn_shape a__law_drawn_shape fd__law_drawn_shape)
    {a__law_of : Addr} {fd__law_of : FuncData} (F__law_of : FnOk P w K mg base (L2.CX P w) 2 a__law_of fd__law_of ["tin", "goods_so"] (spD K mg 2 g__law_of)) (e__law_of : mg "_law_of" = some (.ref a__law_of)) (k__law_of : PySem.W.keepIn K (.ref a__law_of) = true) (b__law_of : Binds K fd__law_of ["tin", "goods_so"] [])
    {a__law_take : Addr} {fd__law_take : FuncData} (F__law_take : FnOk P w K mg base (L2.CX P w) 1 a__law_take fd__law_take ["tin", "below_so"] (spD K mg 2 g__law_take)) (e__law_take : mg "_law_take" = some (.ref a__law_take)) (k__law_take : PySem.W.keepIn K (.ref a__law_take) = true) (b__law_take : Binds K fd__law_take ["tin", "below_so"] []) :
    FnOk P w K mg base (L2.CX P w) 3 a__law_drawn_shape fd__law_drawn_shape ["tin"] (spD K mg 1 g__law_drawn_shape) :=
  fn_d (k := 2) (N := N__law_drawn_shape) (ps := ["tin"]) (gs := B__law_drawn_shape) F S__law_drawn_shape (by decide) (bd__law_drawn_shape F__law_of e__law_of k__law_of b__law_of F__law_take e__law_take k__law_take b__law_take)
theorem bd_rest_of {a_rest_of : Addr}
    {a__reduced : Addr} {fd__reduced : FuncData} (F__reduced : FnOk P w K mg base (L2.CX P w) 2 a__reduced fd__reduced ["prime", "row", "lead_rows"] (spD K mg 3 g__reduced)) (e__reduced : mg "_reduced" = some (.ref a__reduced)) (k__reduced : PySem.W.keepIn K (.ref a__reduced) = true) (b__reduced : Binds K fd__reduced ["prime", "row", "lead_rows"] [])
    {a_basis : Addr} {fd_basis : FuncData} (F_basis : FnOk P w K mg base (L2.CX P w) 3 a_basis fd_basis ["prime", "rows"] (spD K mg 2 g_basis)) (e_basis : mg "basis" = some (.ref a_basis)) (k_basis : PySem.W.keepIn K (.ref a_basis) = true) (b_basis : Binds K fd_basis ["prime", "rows"] []) :
    ∀ (cdv : Value) (A : Around) (outer : List PySem.Env) (s : Shared) (H : Hp) (E : XK), Room 3 (A.deeper (envOfC "rest_of" (defScope s_rest_of) s.heap.objs.size a_rest_of cdv)) → DSs (CxD P w K mg base N_rest_of "rest_of" s_rest_of a_rest_of cdv A outer s H E) (fun cls d _ H => E cls d H) (defBody s_rest_of) B_rest_of := fun cdv A outer s H E hr =>
  (dss_one (ds_ret (de_call F__reduced (hr.mono (by decide)) e__reduced k__reduced b__reduced pass_cx (da_cons (de_var 0) (da_cons (de_var 1) (da_cons (de_call F_basis (hr.mono (by decide)) e_basis k_basis b_basis pass_cx (da_cons (de_var 0) (da_cons (de_var 2) da_nil)) (alenS (alenS alen0))) da_nil))) (alenS (alenS (alenS alen0))))))
theorem ok_rest_of {a_rest_of : Addr} {fd_rest_of : FuncData} (F : Fun K "rest_of" "rest_of" s_rest_of a_rest_of fd_rest_of)
    {a__reduced : Addr} {fd__reduced : FuncData} (F__reduced : FnOk P w K mg base (L2.CX P w) 2 a__reduced fd__reduced ["prime", "row", "lead_rows"] (spD K mg 3 g__reduced)) (e__reduced : mg "_reduced" = some (.ref a__reduced)) (k__reduced : PySem.W.keepIn K (.ref a__reduced) = true) (b__reduced : Binds K fd__reduced ["prime", "row", "lead_rows"] [])
    {a_basis : Addr} {fd_basis : FuncData} (F_basis : FnOk P w K mg base (L2.CX P w) 3 a_basis fd_basis ["prime", "rows"] (spD K mg 2 g_basis)) (e_basis : mg "basis" = some (.ref a_basis)) (k_basis : PySem.W.keepIn K (.ref a_basis) = true) (b_basis : Binds K fd_basis ["prime", "rows"] []) :
    FnOk P w K mg base (L2.CX P w) 4 a_rest_of fd_rest_of ["prime", "row", "rows"] (spD K mg 3 g_rest_of) :=
  fn_d (k := 3) (N := N_rest_of) (ps := ["prime", "row", "rows"]) (gs := B_rest_of) F S_rest_of (by decide) (bd_rest_of F__reduced e__reduced k__reduced b__reduced F_basis e_basis k_basis b_basis)
theorem bd_is_within {a_is_within : Addr}
    {a__reduced : Addr} {fd__reduced : FuncData} (F__reduced : FnOk P w K mg base (L2.CX P w) 2 a__reduced fd__reduced ["prime", "row", "lead_rows"] (spD K mg 3 g__reduced)) (e__reduced : mg "_reduced" = some (.ref a__reduced)) (k__reduced : PySem.W.keepIn K (.ref a__reduced) = true) (b__reduced : Binds K fd__reduced ["prime", "row", "lead_rows"] [])
    {a_basis : Addr} {fd_basis : FuncData} (F_basis : FnOk P w K mg base (L2.CX P w) 3 a_basis fd_basis ["prime", "rows"] (spD K mg 2 g_basis)) (e_basis : mg "basis" = some (.ref a_basis)) (k_basis : PySem.W.keepIn K (.ref a_basis) = true) (b_basis : Binds K fd_basis ["prime", "rows"] [])
    (m_any : mg "any" = none) :
    ∀ (cdv : Value) (A : Around) (outer : List PySem.Env) (s : Shared) (H : Hp) (E : XK), Room 3 (A.deeper (envOfC "is_within" (defScope s_is_within) s.heap.objs.size a_is_within cdv)) → DSs (CxD P w K mg base N_is_within "is_within" s_is_within a_is_within cdv A outer s H E) (fun cls d _ H => E cls d H) (defBody s_is_within) B_is_within := fun cdv A outer s H E hr =>
  (dss_cons (ds_set (i := 3) S_is_within.nd (de_call F_basis (hr.mono (by decide)) e_basis k_basis b_basis pass_cx (da_cons (de_var 0) (da_cons (de_var 2) da_nil)) (alenS (alenS alen0))))
  (dss_one (ds_ret (de_not (de_any2 (da_cons (de_df (df_lc (own := [("row", 4)]) rfl S_is_within.nd (di_seq (de_var 1)) (blkOk_by (N := N_is_within) (sc := defScope s_is_within) (own := [("row", 4)]) (by decide +kernel)) (fun _ _ _ _ _ => (dgc_name (i := 4) S_is_within.nd (by decide))) (fun _ _ _ _ _ => dts_nil) (fun _ _ _ _ _ => (de_any2 (da_cons (de_call F__reduced (hr.mono (by decide)) e__reduced k__reduced b__reduced pass0 (da_cons (de_var 0) (da_cons (de_var 4) (da_cons (de_var 3) da_nil))) (alenS (alenS (alenS alen0)))) da_nil) m_any)))) da_nil) m_any)))))
theorem ok_is_within {a_is_within : Addr} {fd_is_within : FuncData} (F : Fun K "is_within" "is_within" s_is_within a_is_within fd_is_within)
    {a__reduced : Addr} {fd__reduced : FuncData} (F__reduced : FnOk P w K mg base (L2.CX P w) 2 a__reduced fd__reduced ["prime", "row", "lead_rows"] (spD K mg 3 g__reduced)) (e__reduced : mg "_reduced" = some (.ref a__reduced)) (k__reduced : PySem.W.keepIn K (.ref a__reduced) = true) (b__reduced : Binds K fd__reduced ["prime", "row", "lead_rows"] [])
    {a_basis : Addr} {fd_basis : FuncData} (F_basis : FnOk P w K mg base (L2.CX P w) 3 a_basis fd_basis ["prime", "rows"] (spD K mg 2 g_basis)) (e_basis : mg "basis" = some (.ref a_basis)) (k_basis : PySem.W.keepIn K (.ref a_basis) = true) (b_basis : Binds K fd_basis ["prime", "rows"] [])
    (m_any : mg "any" = none) :
    FnOk P w K mg base (L2.CX P w) 4 a_is_within fd_is_within ["prime", "rows", "others"] (spD K mg 3 g_is_within) :=
  fn_d (k := 3) (N := N_is_within) (ps := ["prime", "rows", "others"]) (gs := B_is_within) F S_is_within (by decide) (bd_is_within F__reduced e__reduced k__reduced b__reduced F_basis e_basis k_basis b_basis m_any)
theorem bd_members {a_members : Addr}
    {a_all_rows : Addr} {fd_all_rows : FuncData} (F_all_rows : FnOk P w K mg base (L2.CX P w) 1 a_all_rows fd_all_rows ["prime", "length"] (spD K mg 2 g_all_rows)) (e_all_rows : mg "all_rows" = some (.ref a_all_rows)) (k_all_rows : PySem.W.keepIn K (.ref a_all_rows) = true) (b_all_rows : Binds K fd_all_rows ["prime", "length"] [])
    {a_basis : Addr} {fd_basis : FuncData} (F_basis : FnOk P w K mg base (L2.CX P w) 3 a_basis fd_basis ["prime", "rows"] (spD K mg 2 g_basis)) (e_basis : mg "basis" = some (.ref a_basis)) (k_basis : PySem.W.keepIn K (.ref a_basis) = true) (b_basis : Binds K fd_basis ["prime", "rows"] [])
    {a_power : Addr} {fd_power : FuncData} (F_power : FnOk P w K mg base (L2.CX P w) 1 a_power fd_power ["base", "many"] (spD K mg 2 g_power)) (e_power : mg "power" = some (.ref a_power)) (k_power : PySem.W.keepIn K (.ref a_power) = true) (b_power : Binds K fd_power ["base", "many"] [])
    {a_row_by : Addr} {fd_row_by : FuncData} (F_row_by : FnOk P w K mg base (L2.CX P w) 1 a_row_by fd_row_by ["prime", "rows", "factors", "length"] (spD K mg 4 g_row_by)) (e_row_by : mg "row_by" = some (.ref a_row_by)) (k_row_by : PySem.W.keepIn K (.ref a_row_by) = true) (b_row_by : Binds K fd_row_by ["prime", "rows", "factors", "length"] [])
    (m_len : mg "len" = none)
    (m_sorted : mg "sorted" = none)
    (m_tuple : mg "tuple" = none)
    {C_TooMany : Addr} {B_TooMany n_TooMany i_TooMany : String} {bm_TooMany : List Value} (X_TooMany : ExcT K mg "TooMany" C_TooMany B_TooMany n_TooMany i_TooMany bm_TooMany) :
    ∀ (cdv : Value) (A : Around) (outer : List PySem.Env) (s : Shared) (H : Hp) (E : XK), Room 3 (A.deeper (envOfC "members" (defScope s_members) s.heap.objs.size a_members cdv)) → DSs (CxD P w K mg base N_members "members" s_members a_members cdv A outer s H E) (fun cls d _ H => E cls d H) (defBody s_members) B_members := fun cdv A outer s H E hr =>
  (dss_cons (ds_set (i := 3) S_members.nd (de_call F_basis (hr.mono (by decide)) e_basis k_basis b_basis pass_cx (da_cons (de_var 0) (da_cons (de_var 1) da_nil)) (alenS (alenS alen0))))
  (dss_cons (ds_if (dt_gt (de_call F_power (hr.mono (by decide)) e_power k_power b_power pass_cx (da_cons (de_var 0) (da_cons (de_len (da_cons (de_var 3) da_nil) m_len) da_nil)) (alenS (alenS alen0))) de_int) (dss_one (ds_raise0 (x := "TooMany") X_TooMany rfl (takes_of rfl rfl rfl rfl))) dss_nil)
  (dss_cons (ds_set (i := 4) S_members.nd (de_call F_all_rows (hr.mono (by decide)) e_all_rows k_all_rows b_all_rows pass_cx (da_cons (de_var 0) (da_cons (de_len (da_cons (de_var 3) da_nil) m_len) da_nil)) (alenS (alenS alen0))))
  (dss_one (ds_ret (de_tuplec (da_cons (de_df (df_sortedU (hu65 hr) m_sorted (da_cons (de_df (df_lc (own := [("own", 5)]) rfl S_members.nd (di_seq (de_var 4)) (blkOk_by (N := N_members) (sc := defScope s_members) (own := [("own", 5)]) (by decide +kernel)) (fun _ _ _ _ _ => (dgc_name (i := 5) S_members.nd (by decide))) (fun _ _ _ _ _ => dts_nil) (fun _ _ _ _ _ => (de_call F_row_by (hr.mono (by decide)) e_row_by k_row_by b_row_by pass0 (da_cons (de_var 0) (da_cons (de_var 3) (da_cons (de_var 5) (da_cons (de_var 2) da_nil)))) (alenS (alenS (alenS (alenS alen0)))))))) da_nil))) da_nil) m_tuple))))))
theorem ok_members {a_members : Addr} {fd_members : FuncData} (F : Fun K "members" "members" s_members a_members fd_members)
    {a_all_rows : Addr} {fd_all_rows : FuncData} (F_all_rows : FnOk P w K mg base (L2.CX P w) 1 a_all_rows fd_all_rows ["prime", "length"] (spD K mg 2 g_all_rows)) (e_all_rows : mg "all_rows" = some (.ref a_all_rows)) (k_all_rows : PySem.W.keepIn K (.ref a_all_rows) = true) (b_all_rows : Binds K fd_all_rows ["prime", "length"] [])
    {a_basis : Addr} {fd_basis : FuncData} (F_basis : FnOk P w K mg base (L2.CX P w) 3 a_basis fd_basis ["prime", "rows"] (spD K mg 2 g_basis)) (e_basis : mg "basis" = some (.ref a_basis)) (k_basis : PySem.W.keepIn K (.ref a_basis) = true) (b_basis : Binds K fd_basis ["prime", "rows"] [])
    {a_power : Addr} {fd_power : FuncData} (F_power : FnOk P w K mg base (L2.CX P w) 1 a_power fd_power ["base", "many"] (spD K mg 2 g_power)) (e_power : mg "power" = some (.ref a_power)) (k_power : PySem.W.keepIn K (.ref a_power) = true) (b_power : Binds K fd_power ["base", "many"] [])
    {a_row_by : Addr} {fd_row_by : FuncData} (F_row_by : FnOk P w K mg base (L2.CX P w) 1 a_row_by fd_row_by ["prime", "rows", "factors", "length"] (spD K mg 4 g_row_by)) (e_row_by : mg "row_by" = some (.ref a_row_by)) (k_row_by : PySem.W.keepIn K (.ref a_row_by) = true) (b_row_by : Binds K fd_row_by ["prime", "rows", "factors", "length"] [])
    (m_len : mg "len" = none)
    (m_sorted : mg "sorted" = none)
    (m_tuple : mg "tuple" = none)
    {C_TooMany : Addr} {B_TooMany n_TooMany i_TooMany : String} {bm_TooMany : List Value} (X_TooMany : ExcT K mg "TooMany" C_TooMany B_TooMany n_TooMany i_TooMany bm_TooMany) :
    FnOk P w K mg base (L2.CX P w) 4 a_members fd_members ["prime", "rows", "length"] (spD K mg 3 g_members) :=
  fn_d (k := 3) (N := N_members) (ps := ["prime", "rows", "length"]) (gs := B_members) F S_members (by decide) (bd_members F_all_rows e_all_rows k_all_rows b_all_rows F_basis e_basis k_basis b_basis F_power e_power k_power b_power F_row_by e_row_by k_row_by b_row_by m_len m_sorted m_tuple X_TooMany)
theorem bd__law_basis {a__law_basis : Addr}
    {a__law_lead : Addr} {fd__law_lead : FuncData} (F__law_lead : FnOk P w K mg base (L2.CX P w) 1 a__law_lead fd__law_lead ["own"] (spD K mg 1 g__law_lead)) (e__law_lead : mg "_law_lead" = some (.ref a__law_lead)) (k__law_lead : PySem.W.keepIn K (.ref a__law_lead) = true) (b__law_lead : Binds K fd__law_lead ["own"] [])
    {a__law_sums : Addr} {fd__law_sums : FuncData} (F__law_sums : FnOk P w K mg base (L2.CX P w) 3 a__law_sums fd__law_sums ["p", "vectors_so", "wide_so"] (spD K mg 3 g__law_sums)) (e__law_sums : mg "_law_sums" = some (.ref a__law_sums)) (k__law_sums : PySem.W.keepIn K (.ref a__law_sums) = true) (b__law_sums : Binds K fd__law_sums ["p", "vectors_so", "wide_so"] [])
    (m_int : mg "int" = none)
    (m_set : mg "set" = none)
    (m_sorted : mg "sorted" = none)
    (m_tuple : mg "tuple" = none) :
    ∀ (cdv : Value) (A : Around) (outer : List PySem.Env) (s : Shared) (H : Hp) (E : XK), Room 3 (A.deeper (envOfC "_law_basis" (defScope s__law_basis) s.heap.objs.size a__law_basis cdv)) → DSs (CxD P w K mg base N__law_basis "_law_basis" s__law_basis a__law_basis cdv A outer s H E) (fun cls d _ H => E cls d H) (defBody s__law_basis) B__law_basis := fun cdv A outer s H E hr =>
  (dss_cons (ds_par2E (i := 3) (j := 4) rfl S__law_basis.nd (de_call F__law_sums (hr.mono (by decide)) e__law_sums k__law_sums b__law_sums pass_cx (da_cons (de_var 0) (da_cons (de_var 1) (da_cons (de_var 2) da_nil))) (alenS (alenS (alenS alen0)))) (df_lst da_nil))
  (dss_cons (ds_set (i := 6) S__law_basis.nd (de_df (df_sortSet rfl (hu65 hr) m_sorted m_set (da_cons (de_df (df_lc (own := [("own", 5)]) rfl S__law_basis.nd (di_seq (de_var 3)) (blkOk_by (N := N__law_basis) (sc := defScope s__law_basis) (own := [("own", 5)]) (by decide +kernel)) (fun _ _ _ _ _ => (dgc_name (i := 5) S__law_basis.nd (by decide))) (fun _ _ _ _ _ => (dts_one (dt_ge (de_call F__law_lead (hr.mono (by decide)) e__law_lead k__law_lead b__law_lead pass0 (da_cons (de_var 5) da_nil) (alenS alen0)) de_int))) (fun _ _ _ _ _ => (de_call F__law_lead (hr.mono (by decide)) e__law_lead k__law_lead b__law_lead pass0 (da_cons (de_var 5) da_nil) (alenS alen0))))) da_nil))))
  (dss_cons (ds_for own_cx rfl (di_seq (de_var 6)) (dg_name (i := 7) S__law_basis.nd) (dss_one (ds_for own_cx rfl (di_seq (de_var 3)) (dg_name (i := 5) S__law_basis.nd) (dss_one (ds_if (dt_eq (hu64 hr) (de_df (df_lc (own := [("k", 8)]) rfl S__law_basis.nd (di_seq (de_var 6)) (blkOk_by (N := N__law_basis) (sc := defScope s__law_basis) (own := [("k", 8)]) (by decide +kernel)) (fun _ _ _ _ _ => (dgc_name (i := 8) S__law_basis.nd (by decide))) (fun _ _ _ _ _ => dts_nil) (fun _ _ _ _ _ => (de_ix (fun _ _ => rfl) (de_var 5) (de_var 8))))) (de_df (df_lc (own := [("k", 8)]) rfl S__law_basis.nd (di_seq (de_var 6)) (blkOk_by (N := N__law_basis) (sc := defScope s__law_basis) (own := [("k", 8)]) (by decide +kernel)) (fun _ _ _ _ _ => (dgc_name (i := 8) S__law_basis.nd (by decide))) (fun _ _ _ _ _ => dts_nil) (fun _ _ _ _ _ => (de_intc (da_cons (de_eq (hu64 hr) (de_var 8) (de_var 7)) da_nil) m_int))))) (dss_one (ds_app (i := 4) (de_var 5))) dss_nil)))))
  (dss_one (ds_ret (de_tuplec (da_cons (de_var 4) da_nil) m_tuple))))))
theorem ok__law_basis {a__law_basis : Addr} {fd__law_basis : FuncData} (F : Fun K "_law_basis" "_law_basis" s__law_basis a__law_basis fd__law_basis)
    {a__law_lead : Addr} {fd__law_lead : FuncData} (F__law_lead : FnOk P w K mg base (L2.CX P w) 1 a__law_lead fd__law_lead ["own"] (spD K mg 1 g__law_lead)) (e__law_lead : mg "_law_lead" = some (.ref a__law_lead)) (k__law_lead : PySem.W.keepIn K (.ref a__law_lead) = true) (b__law_lead : Binds K fd__law_lead ["own"] [])
    {a__law_sums : Addr} {fd__law_sums : FuncData} (F__law_sums : FnOk P w K mg base (L2.CX P w) 3 a__law_sums fd__law_sums ["p", "vectors_so", "wide_so"] (spD K mg 3 g__law_sums)) (e__law_sums : mg "_law_sums" = some (.ref a__law_sums)) (k__law_sums : PySem.W.keepIn K (.ref a__law_sums) = true) (b__law_sums : Binds K fd__law_sums ["p", "vectors_so", "wide_so"] [])
    (m_int : mg "int" = none)
    (m_set : mg "set" = none)
    (m_sorted : mg "sorted" = none)
    (m_tuple : mg "tuple" = none) :
    FnOk P w K mg base (L2.CX P w) 4 a__law_basis fd__law_basis ["p", "vectors_so", "wide_so"] (spD K mg 3 g__law_basis) :=
  fn_d (k := 3) (N := N__law_basis) (ps := ["p", "vectors_so", "wide_so"]) (gs := B__law_basis) F S__law_basis (by decide) (bd__law_basis F__law_lead e__law_lead k__law_lead b__law_lead F__law_sums e__law_sums k__law_sums b__law_sums m_int m_set m_sorted m_tuple)
theorem bd__law_heard {a__law_heard : Addr}
    {a_members : Addr} {fd_members : FuncData} (F_members : FnOk P w K mg base (L2.CX P w) 4 a_members fd_members ["prime", "rows", "length"] (spD K mg 3 g_members)) (e_members : mg "members" = some (.ref a_members)) (k_members : PySem.W.keepIn K (.ref a_members) = true) (b_members : Binds K fd_members ["prime", "rows", "length"] [])
    (m_ValueError : mg "ValueError" = none)
    (m_isinstance : mg "isinstance" = none)
    {C_TooMany : Addr} {B_TooMany n_TooMany i_TooMany : String} {bm_TooMany : List Value} (X_TooMany : ExcT K mg "TooMany" C_TooMany B_TooMany n_TooMany i_TooMany bm_TooMany)
    (Xc_TooMany : ExcC K C_TooMany) (Xs_TooMany : PySem.W.exmOne K (.ref C_TooMany) (.ref C_TooMany) = some true) (Xk_TooMany : PySem.W.kitOne K (.ref C_TooMany) (.type "ValueError") = some true) :
    ∀ (cdv : Value) (A : Around) (outer : List PySem.Env) (s : Shared) (H : Hp) (E : XK), Room 4 (A.deeper (envOfC "_law_heard" (defScope s__law_heard) s.heap.objs.size a__law_heard cdv)) → DSs (CxD P w K mg base N__law_heard "_law_heard" s__law_heard a__law_heard cdv A outer s H E) (fun cls d _ H => E cls d H) (defBody s__law_heard) B__law_heard := fun cdv A outer s H E hr =>
  (dss_cons (ds_asg (de_tup (da_cons de_non (da_cons de_non da_nil))) (dg_tup rfl (dgs_cons (dg_name (i := 3) S__law_heard.nd) (dgs_cons (dg_name (i := 4) S__law_heard.nd) dgs_nil))))
  (dss_cons (ds_try_set (i := 5) (j := 3) (C := C_TooMany) rfl rfl S__law_heard.nd (takes_of rfl rfl rfl rfl) ⟨rfl, by decide, .inl X_TooMany.g⟩ X_TooMany.g Xs_TooMany
    (fun W' pn xe tk' => (dss_one (ds_set (i := 4) S__law_heard.nd (de_call F_members (hr.mono (by decide)) e_members k_members b_members (fun σ => passAt tk' σ) (da_cons (de_var 0) (da_cons (de_var 1) (da_cons (de_var 2) da_nil))) (alenS (alenS (alenS alen0)))))))
    (dx_str (dx_isi "ValueError" (fun C h => by cases X_TooMany.g.symm.trans h; exact ⟨Xc_TooMany, Xk_TooMany⟩) m_isinstance m_ValueError (ExcClass.boot excClass_ValueError) dx_nil)))
  (dss_one (ds_ret (de_if (dt_is (de_var 3) de_non) (de_var 4) (de_var 3))))))
theorem ok__law_heard {a__law_heard : Addr} {fd__law_heard : FuncData} (F : Fun K "_law_heard" "_law_heard" s__law_heard a__law_heard fd__law_heard)
    {a_members : Addr} {fd_members : FuncData} (F_members : FnOk P w K mg base (L2.CX P w) 4 a_members fd_members ["prime", "rows", "length"] (spD K mg 3 g_members)) (e_members : mg "members" = some (.ref a_members)) (k_members : PySem.W.keepIn K (.ref a_members) = true) (b_members : Binds K fd_members ["prime", "rows", "length"] [])
    (m_ValueError : mg "ValueError" = none)
    (m_isinstance : mg "isinstance" = none)
    {C_TooMany : Addr} {B_TooMany n_TooMany i_TooMany : String} {bm_TooMany : List Value} (X_TooMany : ExcT K mg "TooMany" C_TooMany B_TooMany n_TooMany i_TooMany bm_TooMany)
    (Xc_TooMany : ExcC K C_TooMany) (Xs_TooMany : PySem.W.exmOne K (.ref C_TooMany) (.ref C_TooMany) = some true) (Xk_TooMany : PySem.W.kitOne K (.ref C_TooMany) (.type "ValueError") = some true) :
    FnOk P w K mg base (L2.CX P w) 5 a__law_heard fd__law_heard ["p", "vectors_so", "wide_so"] (spD K mg 3 g__law_heard) :=
  fn_d (k := 4) (N := N__law_heard) (ps := ["p", "vectors_so", "wide_so"]) (gs := B__law_heard) F S__law_heard (by decide) (bd__law_heard F_members e_members k_members b_members m_ValueError m_isinstance X_TooMany Xc_TooMany Xs_TooMany Xk_TooMany)
theorem st__law_lists {a__law_lists : Addr} {fd__law_lists : FuncData} (F : Fun K "_law_lists" "_law_lists" s__law_lists a__law_lists fd__law_lists) {n : Nat} (F__law_lists : FnOk P w K mg base (L2.CX P w) n a__law_lists fd__law_lists ["matter"] (spD K mg 1 (gr__law_lists n))) (e__law_lists : mg "_law_lists" = some (.ref a__law_lists)) (k__law_lists : PySem.W.keepIn K (.ref a__law_lists) = true) (b__law_lists : Binds K fd__law_lists ["matter"] [])
    (m_isinstance : mg "isinstance" = none)
    (m_list : mg "list" = none)
    (m_tuple : mg "tuple" = none) :
    FnOk P w K mg base (L2.CX P w) (n + 0 + 1) a__law_lists fd__law_lists ["matter"] (spD K mg 1 (gr__law_lists (n + 1))) :=
  fn_d F S__law_lists (by decide) fun cdv A outer s H E hr =>
  (dss_one (ds_ret (de_if (dt_tru (de_isi2 "list" "tuple" (by decide) (by decide) m_isinstance m_list bt_list m_tuple bt_tuple (de_var 0))) (de_df (df_lc (own := [("bit", 1)]) rfl S__law_lists.nd (di_seq (de_var 0)) (blkOk_by (N := N__law_lists) (sc := defScope s__law_lists) (own := [("bit", 1)]) (by decide +kernel)) (fun _ _ _ _ _ => (dgc_name (i := 1) S__law_lists.nd (by decide))) (fun _ _ _ _ _ => dts_nil) (fun _ _ _ _ _ => (de_call F__law_lists (hr.mono (Nat.le_refl _)) e__law_lists k__law_lists b__law_lists pass0 (da_cons (de_var 1) da_nil) (alenS alen0))))) (de_var 0))))
theorem ok__law_lists {a__law_lists : Addr} {fd__law_lists : FuncData} (F : Fun K "_law_lists" "_law_lists" s__law_lists a__law_lists fd__law_lists) (e__law_lists : mg "_law_lists" = some (.ref a__law_lists)) (k__law_lists : PySem.W.keepIn K (.ref a__law_lists) = true) (b__law_lists : Binds K fd__law_lists ["matter"] [])
    (m_isinstance : mg "isinstance" = none)
    (m_list : mg "list" = none)
    (m_tuple : mg "tuple" = none) :
    FnOk P w K mg base (L2.CX P w) 8 a__law_lists fd__law_lists ["matter"] (spD K mg 1 g__law_lists) := by
  have go : ∀ n, FnOk P w K mg base (L2.CX P w) n a__law_lists fd__law_lists ["matter"] (spD K mg 1 (gr__law_lists n)) := fun n => by
    induction n with
    | zero => exact fn_none
    | succ n ih => exact st__law_lists F ih e__law_lists k__law_lists b__law_lists m_isinstance m_list m_tuple
  exact go 8
theorem st__law_same {a__law_same : Addr} {fd__law_same : FuncData} (F : Fun K "_law_same" "_law_same" s__law_same a__law_same fd__law_same) {n : Nat} (F__law_same : FnOk P w K mg base (L2.CX P w) n a__law_same fd__law_same ["got", "due"] (spD K mg 2 (gr__law_same n))) (e__law_same : mg "_law_same" = some (.ref a__law_same)) (k__law_same : PySem.W.keepIn K (.ref a__law_same) = true) (b__law_same : Binds K fd__law_same ["got", "due"] [])
    (m_all : mg "all" = none)
    (m_bool : mg "bool" = none)
    (m_int : mg "int" = none)
    (m_isinstance : mg "isinstance" = none)
    (m_len : mg "len" = none)
    (m_list : mg "list" = none)
    (m_str : mg "str" = none)
    (m_tuple : mg "tuple" = none)
    (m_zip : mg "zip" = none) :
    FnOk P w K mg base (L2.CX P w) (n + 0 + 1) a__law_same fd__law_same ["got", "due"] (spD K mg 2 (gr__law_same (n + 1))) :=
  fn_d F S__law_same (by decide) fun cdv A outer s H E hr =>
  (dss_cons (ds_if (dt_tru (de_isi2 "list" "tuple" (by decide) (by decide) m_isinstance m_list bt_list m_tuple bt_tuple (de_var 1))) (dss_cons (ds_if (dt_w (dw_or (dt_ne (hu64 hr) (de_isi1 "list" (by decide) m_isinstance m_list bt_list (de_var 0)) (de_isi1 "list" (by decide) m_isinstance m_list bt_list (de_var 1))) (dw_or1 (dt_ne (hu64 hr) (de_isi1 "tuple" (by decide) m_isinstance m_tuple bt_tuple (de_var 0)) (de_isi1 "tuple" (by decide) m_isinstance m_tuple bt_tuple (de_var 1)))))) (dss_one (ds_ret de_bl)) dss_nil)
  (dss_one (ds_ret (de_and (de_eq (hu64 hr) (de_len (da_cons (de_var 0) da_nil) m_len) (de_len (da_cons (de_var 1) da_nil) m_len)) (de_one (de_all (da_cons (de_df (df_lc (own := [("mine", 2), ("its", 3)]) rfl S__law_same.nd (di_zip m_zip (da_cons (de_var 0) (da_cons (de_var 1) da_nil))) (blkOk_by (N := N__law_same) (sc := defScope s__law_same) (own := [("mine", 2), ("its", 3)]) (by decide +kernel)) (fun _ _ _ _ _ => (dgc_tup rfl (dgsc_cons (dgc_name (i := 2) S__law_same.nd (by decide)) (dgsc_cons (dgc_name (i := 3) S__law_same.nd (by decide)) dgsc_nil)))) (fun _ _ _ _ _ => dts_nil) (fun _ _ _ _ _ => (de_call F__law_same (hr.mono (Nat.le_refl _)) e__law_same k__law_same b__law_same pass0 (da_cons (de_var 2) (da_cons (de_var 3) da_nil)) (alenS (alenS alen0)))))) da_nil) m_all)))))) dss_nil)
  (dss_cons (ds_if (dt_w (dw_or (dt_is (de_var 1) de_non) (dw_or1 (dt_tru (de_isi2 "bool" "str" (by decide) (by decide) m_isinstance m_bool bt_bool m_str bt_str (de_var 1)))))) (dss_one (ds_ret (de_and (de_eq (hu64 hr) (de_var 0) (de_var 1)) (de_and (de_eq (hu64 hr) (de_isi1 "bool" (by decide) m_isinstance m_bool bt_bool (de_var 0)) (de_isi1 "bool" (by decide) m_isinstance m_bool bt_bool (de_var 1))) (de_one (de_eq (hu64 hr) (de_is (de_var 0) de_non) (de_is (de_var 1) de_non))))))) dss_nil)
  (dss_one (ds_ret (de_and (de_isi1 "int" (by decide) m_isinstance m_int bt_int (de_var 0)) (de_and (de_not (de_isi1 "bool" (by decide) m_isinstance m_bool bt_bool (de_var 0))) (de_one (de_eq (hu64 hr) (de_var 0) (de_var 1)))))))))
theorem ok__law_same {a__law_same : Addr} {fd__law_same : FuncData} (F : Fun K "_law_same" "_law_same" s__law_same a__law_same fd__law_same) (e__law_same : mg "_law_same" = some (.ref a__law_same)) (k__law_same : PySem.W.keepIn K (.ref a__law_same) = true) (b__law_same : Binds K fd__law_same ["got", "due"] [])
    (m_all : mg "all" = none)
    (m_bool : mg "bool" = none)
    (m_int : mg "int" = none)
    (m_isinstance : mg "isinstance" = none)
    (m_len : mg "len" = none)
    (m_list : mg "list" = none)
    (m_str : mg "str" = none)
    (m_tuple : mg "tuple" = none)
    (m_zip : mg "zip" = none) :
    FnOk P w K mg base (L2.CX P w) 8 a__law_same fd__law_same ["got", "due"] (spD K mg 2 g__law_same) := by
  have go : ∀ n, FnOk P w K mg base (L2.CX P w) n a__law_same fd__law_same ["got", "due"] (spD K mg 2 (gr__law_same n)) := fun n => by
    induction n with
    | zero => exact fn_none
    | succ n ih => exact st__law_same F ih e__law_same k__law_same b__law_same m_all m_bool m_int m_isinstance m_len m_list m_str m_tuple m_zip
  exact go 8
theorem bd__law_by_hand_right {a__law_by_hand_right : Addr}
    {a__law_heard : Addr} {fd__law_heard : FuncData} (F__law_heard : FnOk P w K mg base (L2.CX P w) 5 a__law_heard fd__law_heard ["p", "vectors_so", "wide_so"] (spD K mg 3 g__law_heard)) (e__law_heard : mg "_law_heard" = some (.ref a__law_heard)) (k__law_heard : PySem.W.keepIn K (.ref a__law_heard) = true) (b__law_heard : Binds K fd__law_heard ["p", "vectors_so", "wide_so"] [])
    {a__law_lists : Addr} {fd__law_lists : FuncData} (F__law_lists : FnOk P w K mg base (L2.CX P w) 8 a__law_lists fd__law_lists ["matter"] (spD K mg 1 g__law_lists)) (e__law_lists : mg "_law_lists" = some (.ref a__law_lists)) (k__law_lists : PySem.W.keepIn K (.ref a__law_lists) = true) (b__law_lists : Binds K fd__law_lists ["matter"] [])
    {a__law_same : Addr} {fd__law_same : FuncData} (F__law_same : FnOk P w K mg base (L2.CX P w) 8 a__law_same fd__law_same ["got", "due"] (spD K mg 2 g__law_same)) (e__law_same : mg "_law_same" = some (.ref a__law_same)) (k__law_same : PySem.W.keepIn K (.ref a__law_same) = true) (b__law_same : Binds K fd__law_same ["got", "due"] [])
    {a__law_unit : Addr} {fd__law_unit : FuncData} (F__law_unit : FnOk P w K mg base (L2.CX P w) 1 a__law_unit fd__law_unit ["wide_so", "at_so"] (spD K mg 2 g__law_unit)) (e__law_unit : mg "_law_unit" = some (.ref a__law_unit)) (k__law_unit : PySem.W.keepIn K (.ref a__law_unit) = true) (b__law_unit : Binds K fd__law_unit ["wide_so", "at_so"] [])
    {a_basis : Addr} {fd_basis : FuncData} (F_basis : FnOk P w K mg base (L2.CX P w) 3 a_basis fd_basis ["prime", "rows"] (spD K mg 2 g_basis)) (e_basis : mg "basis" = some (.ref a_basis)) (k_basis : PySem.W.keepIn K (.ref a_basis) = true) (b_basis : Binds K fd_basis ["prime", "rows"] []) (kb_basis_10 : ∀ ws : List Value, ws.length = 2 → bindArgs fd_basis ⟨[], List.zip (["rows", "prime"] : List Str) ws⟩ = (pure (List.zip (["prime", "rows"] : List Str) (pick [1, 0] ws)) : Sem (List (Str × Value))))
    {a_is_within : Addr} {fd_is_within : FuncData} (F_is_within : FnOk P w K mg base (L2.CX P w) 4 a_is_within fd_is_within ["prime", "rows", "others"] (spD K mg 3 g_is_within)) (e_is_within : mg "is_within" = some (.ref a_is_within)) (k_is_within : PySem.W.keepIn K (.ref a_is_within) = true) (b_is_within : Binds K fd_is_within ["prime", "rows", "others"] []) (kb_is_within_210 : ∀ ws : List Value, ws.length = 3 → bindArgs fd_is_within ⟨[], List.zip (["others", "rows", "prime"] : List Str) ws⟩ = (pure (List.zip (["prime", "rows", "others"] : List Str) (pick [2, 1, 0] ws)) : Sem (List (Str × Value))))
    {a_members : Addr} {fd_members : FuncData} (F_members : FnOk P w K mg base (L2.CX P w) 4 a_members fd_members ["prime", "rows", "length"] (spD K mg 3 g_members)) (e_members : mg "members" = some (.ref a_members)) (k_members : PySem.W.keepIn K (.ref a_members) = true) (b_members : Binds K fd_members ["prime", "rows", "length"] []) (kb_members_210 : ∀ ws : List Value, ws.length = 3 → bindArgs fd_members ⟨[], List.zip (["length", "rows", "prime"] : List Str) ws⟩ = (pure (List.zip (["prime", "rows", "length"] : List Str) (pick [2, 1, 0] ws)) : Sem (List (Str × Value))))
    {a_rank : Addr} {fd_rank : FuncData} (F_rank : FnOk P w K mg base (L2.CX P w) 3 a_rank fd_rank ["prime", "rows"] (spD K mg 2 g_rank)) (e_rank : mg "rank" = some (.ref a_rank)) (k_rank : PySem.W.keepIn K (.ref a_rank) = true) (b_rank : Binds K fd_rank ["prime", "rows"] []) (kb_rank_10 : ∀ ws : List Value, ws.length = 2 → bindArgs fd_rank ⟨[], List.zip (["rows", "prime"] : List Str) ws⟩ = (pure (List.zip (["prime", "rows"] : List Str) (pick [1, 0] ws)) : Sem (List (Str × Value))))
    {a_rest_of : Addr} {fd_rest_of : FuncData} (F_rest_of : FnOk P w K mg base (L2.CX P w) 4 a_rest_of fd_rest_of ["prime", "row", "rows"] (spD K mg 3 g_rest_of)) (e_rest_of : mg "rest_of" = some (.ref a_rest_of)) (k_rest_of : PySem.W.keepIn K (.ref a_rest_of) = true) (b_rest_of : Binds K fd_rest_of ["prime", "row", "rows"] []) (kb_rest_of_210 : ∀ ws : List Value, ws.length = 3 → bindArgs fd_rest_of ⟨[], List.zip (["rows", "row", "prime"] : List Str) ws⟩ = (pure (List.zip (["prime", "row", "rows"] : List Str) (pick [2, 1, 0] ws)) : Sem (List (Str × Value))))
    (m_range : mg "range" = none)
    (m_tuple : mg "tuple" = none) :
    ∀ (cdv : Value) (A : Around) (outer : List PySem.Env) (s : Shared) (H : Hp) (E : XK), Room 8 (A.deeper (envOfC "_law_by_hand_right" (defScope s__law_by_hand_right) s.heap.objs.size a__law_by_hand_right cdv)) → DSs (CxD P w K mg base N__law_by_hand_right "_law_by_hand_right" s__law_by_hand_right a__law_by_hand_right cdv A outer s H E) (fun cls d _ H => E cls d H) (defBody s__law_by_hand_right) B__law_by_hand_right := fun cdv A outer s H E hr =>
  (dss_cons (ds_set (i := 0) S__law_by_hand_right.nd (de_tup (da_cons (de_tup (da_cons de_int (da_cons de_int (da_cons de_int da_nil)))) (da_cons (de_tup (da_cons de_int (da_cons de_int (da_cons de_int da_nil)))) (da_cons (de_tup (da_cons de_int (da_cons de_int (da_cons de_int da_nil)))) da_nil)))))
  (dss_cons (ds_set (i := 1) S__law_by_hand_right.nd (de_df (df_lst (da_cons (de_call F_basis (hr.mono (by decide)) e_basis k_basis b_basis pass_cx (da_cons de_int (da_cons (de_var 0) da_nil)) (alenS (alenS alen0))) (da_cons (de_call F_rank (hr.mono (by decide)) e_rank k_rank b_rank pass_cx (da_cons de_int (da_cons (de_var 0) da_nil)) (alenS (alenS alen0))) (da_cons (de_call F_rest_of (hr.mono (by decide)) e_rest_of k_rest_of b_rest_of pass_cx (da_cons de_int (da_cons (de_tup (da_cons de_int (da_cons de_int (da_cons de_int da_nil)))) (da_cons (de_var 0) da_nil))) (alenS (alenS (alenS alen0)))) (da_cons (de_call F_rest_of (hr.mono (by decide)) e_rest_of k_rest_of b_rest_of pass_cx (da_cons de_int (da_cons (de_tup (da_cons de_int (da_cons de_int (da_cons de_int da_nil)))) (da_cons (de_var 0) da_nil))) (alenS (alenS (alenS alen0)))) (da_cons (de_call F_rest_of (hr.mono (by decide)) e_rest_of k_rest_of b_rest_of pass_cx (da_cons de_int (da_cons (de_tup (da_cons de_int (da_cons de_int (da_cons de_int da_nil)))) (da_cons (de_tup da_nil) da_nil))) (alenS (alenS (alenS alen0)))) da_nil))))))))
  (dss_cons (ds_set (i := 2) S__law_by_hand_right.nd (de_df (df_lst (da_cons (de_tup (da_cons (de_tup (da_cons de_int (da_cons de_int (da_cons de_int da_nil)))) (da_cons (de_tup (da_cons de_int (da_cons de_int (da_cons de_int da_nil)))) da_nil))) (da_cons de_int (da_cons (de_tup (da_cons de_int (da_cons de_int (da_cons de_int da_nil)))) (da_cons (de_tup (da_cons de_int (da_cons de_int (da_cons de_int da_nil)))) (da_cons (de_tup (da_cons de_int (da_cons de_int (da_cons de_int da_nil)))) da_nil))))))))
  (dss_cons (ds_set (i := 1) S__law_by_hand_right.nd (de_df (df_cat (de_var 1) (de_df (df_lst (da_cons (de_call F_basis (hr.mono (by decide)) e_basis k_basis b_basis pass_cx (da_cons de_int (da_cons (de_tup (da_cons (de_tup (da_cons de_int (da_cons de_int (da_cons de_int da_nil)))) (da_cons (de_tup (da_cons de_int (da_cons de_int (da_cons de_int da_nil)))) da_nil))) da_nil)) (alenS (alenS alen0))) (da_cons (de_call F_basis (hr.mono (by decide)) e_basis k_basis b_basis pass_cx (da_cons de_int (da_cons (de_tup (da_cons (de_tup (da_cons de_int (da_cons de_int da_nil))) da_nil)) da_nil)) (alenS (alenS alen0))) (da_cons (de_call F_basis (hr.mono (by decide)) e_basis k_basis b_basis pass_cx (da_cons de_int (da_cons (de_tup da_nil) da_nil)) (alenS (alenS alen0))) (da_cons (de_call F_basis (hr.mono (by decide)) e_basis k_basis b_basis pass_cx (da_cons de_int (da_cons (de_tup (da_cons (de_tup (da_cons de_int (da_cons de_int da_nil))) (da_cons (de_tup (da_cons de_int (da_cons de_int da_nil))) da_nil))) da_nil)) (alenS (alenS alen0))) (da_cons (de_call F_basis (hr.mono (by decide)) e_basis k_basis b_basis pass_cx (da_cons de_int (da_cons (de_tup (da_cons (de_tup da_nil) (da_cons (de_tup da_nil) da_nil))) da_nil)) (alenS (alenS alen0))) (da_cons (de_call F_rank (hr.mono (by decide)) e_rank k_rank b_rank pass_cx (da_cons de_int (da_cons (de_tup (da_cons (de_tup da_nil) (da_cons (de_tup da_nil) da_nil))) da_nil)) (alenS (alenS alen0))) da_nil)))))))))))
  (dss_cons (ds_set (i := 2) S__law_by_hand_right.nd (de_df (df_cat (de_var 2) (de_df (df_lst (da_cons (de_tup (da_cons (de_tup (da_cons de_int (da_cons de_int (da_cons de_int da_nil)))) da_nil)) (da_cons (de_tup (da_cons (de_tup (da_cons de_int (da_cons de_int da_nil))) da_nil)) (da_cons (de_tup da_nil) (da_cons (de_tup da_nil) (da_cons (de_tup da_nil) (da_cons de_int da_nil)))))))))))
  (dss_cons (ds_set (i := 1) S__law_by_hand_right.nd (de_df (df_cat (de_var 1) (de_df (df_lst (da_cons (de_call F_basis (hr.mono (by decide)) e_basis k_basis b_basis pass_cx (da_cons de_int (da_cons (de_tup (da_cons (de_tup (da_cons de_int (da_cons de_int (da_cons de_int da_nil)))) (da_cons (de_tup (da_cons de_int (da_cons de_int (da_cons de_int da_nil)))) (da_cons (de_tup (da_cons de_int (da_cons de_int (da_cons de_int da_nil)))) da_nil)))) da_nil)) (alenS (alenS alen0))) (da_cons (de_call F_basis (hr.mono (by decide)) e_basis k_basis b_basis pass_cx (da_cons de_int (da_cons (de_tup (da_cons (de_tup (da_cons de_int (da_cons de_int (da_cons de_int (da_cons de_int da_nil))))) (da_cons (de_tup (da_cons de_int (da_cons de_int (da_cons de_int (da_cons de_int da_nil))))) (da_cons (de_tup (da_cons de_int (da_cons de_int (da_cons de_int (da_cons de_int da_nil))))) da_nil)))) da_nil)) (alenS (alenS alen0))) da_nil)))))))
  (dss_cons (ds_set (i := 2) S__law_by_hand_right.nd (de_df (df_cat (de_var 2) (de_df (df_lst (da_cons (de_tup (da_cons (de_tup (da_cons de_int (da_cons de_int (da_cons de_int da_nil)))) (da_cons (de_tup (da_cons de_int (da_cons de_int (da_cons de_int da_nil)))) (da_cons (de_tup (da_cons de_int (da_cons de_int (da_cons de_int da_nil)))) da_nil)))) (da_cons (de_tup (da_cons (de_tup (da_cons de_int (da_cons de_int (da_cons de_int (da_cons de_int da_nil))))) (da_cons (de_tup (da_cons de_int (da_cons de_int (da_cons de_int (da_cons de_int da_nil))))) da_nil))) da_nil)))))))
  (dss_cons (ds_set (i := 1) S__law_by_hand_right.nd (de_df (df_cat (de_var 1) (de_df (df_lst (da_cons (de_call F_members (hr.mono (by decide)) e_members k_members b_members pass_cx (da_cons de_int (da_cons (de_tup (da_cons (de_tup (da_cons de_int (da_cons de_int (da_cons de_int da_nil)))) da_nil)) (da_cons de_int da_nil))) (alenS (alenS (alenS alen0)))) (da_cons (de_call F_members (hr.mono (by decide)) e_members k_members b_members pass_cx (da_cons de_int (da_cons (de_tup da_nil) (da_cons de_int da_nil))) (alenS (alenS (alenS alen0)))) (da_cons (de_call F_members (hr.mono (by decide)) e_members k_members b_members pass_cx (da_cons de_int (da_cons (de_tup (da_cons (de_tup (da_cons de_int (da_cons de_int da_nil))) da_nil)) (da_cons de_int da_nil))) (alenS (alenS (alenS alen0)))) (da_cons (de_call F_members (hr.mono (by decide)) e_members k_members b_members pass_cx (da_cons de_int (da_cons (de_tup (da_cons (de_tup da_nil) (da_cons (de_tup da_nil) da_nil))) (da_cons de_int da_nil))) (alenS (alenS (alenS alen0)))) da_nil)))))))))
  (dss_cons (ds_set (i := 2) S__law_by_hand_right.nd (de_df (df_cat (de_var 2) (de_df (df_lst (da_cons (de_tup (da_cons (de_tup (da_cons de_int (da_cons de_int (da_cons de_int da_nil)))) (da_cons (de_tup (da_cons de_int (da_cons de_int (da_cons de_int da_nil)))) da_nil))) (da_cons (de_tup (da_cons (de_tup (da_cons de_int (da_cons de_int da_nil))) da_nil)) (da_cons (de_tup (da_cons (de_tup (da_cons de_int (da_cons de_int da_nil))) (da_cons (de_tup (da_cons de_int (da_cons de_int da_nil))) (da_cons (de_tup (da_cons de_int (da_cons de_int da_nil))) da_nil)))) (da_cons (de_tup (da_cons (de_tup da_nil) da_nil)) da_nil)))))))))
  (dss_cons (ds_set (i := 1) S__law_by_hand_right.nd (de_df (df_cat (de_var 1) (de_df (df_lst (da_cons (de_call F_is_within (hr.mono (by decide)) e_is_within k_is_within b_is_within pass_cx (da_cons de_int (da_cons (de_tup (da_cons (de_tup (da_cons de_int (da_cons de_int (da_cons de_int da_nil)))) da_nil)) (da_cons (de_tup (da_cons (de_tup (da_cons de_int (da_cons de_int (da_cons de_int da_nil)))) (da_cons (de_tup (da_cons de_int (da_cons de_int (da_cons de_int da_nil)))) da_nil))) da_nil))) (alenS (alenS (alenS alen0)))) (da_cons (de_call F_is_within (hr.mono (by decide)) e_is_within k_is_within b_is_within pass_cx (da_cons de_int (da_cons (de_tup (da_cons (de_tup (da_cons de_int (da_cons de_int (da_cons de_int da_nil)))) (da_cons (de_tup (da_cons de_int (da_cons de_int (da_cons de_int da_nil)))) da_nil))) (da_cons (de_tup (da_cons (de_tup (da_cons de_int (da_cons de_int (da_cons de_int da_nil)))) (da_cons (de_tup (da_cons de_int (da_cons de_int (da_cons de_int da_nil)))) da_nil))) da_nil))) (alenS (alenS (alenS alen0)))) da_nil)))))))
  (dss_cons (ds_set (i := 1) S__law_by_hand_right.nd (de_df (df_cat (de_var 1) (de_df (df_lst (da_cons (de_call F_is_within (hr.mono (by decide)) e_is_within k_is_within b_is_within pass_cx (da_cons de_int (da_cons (de_tup da_nil) (da_cons (de_tup da_nil) da_nil))) (alenS (alenS (alenS alen0)))) (da_cons (de_call F_is_within (hr.mono (by decide)) e_is_within k_is_within b_is_within pass_cx (da_cons de_int (da_cons (de_tup (da_cons (de_tup (da_cons de_int (da_cons de_int da_nil))) da_nil)) (da_cons (de_tup da_nil) da_nil))) (alenS (alenS (alenS alen0)))) (da_cons (de_call F_is_within (hr.mono (by decide)) e_is_within k_is_within b_is_within pass_cx (da_cons de_int (da_cons (de_tup (da_cons (de_tup (da_cons de_int (da_cons de_int da_nil))) da_nil)) (da_cons (de_tup da_nil) da_nil))) (alenS (alenS (alenS alen0)))) (da_cons (de_call F_is_within (hr.mono (by decide)) e_is_within k_is_within b_is_within pass_cx (da_cons de_int (da_cons (de_tup (da_cons (de_tup (da_cons de_int (da_cons de_int da_nil))) da_nil)) (da_cons (de_tup (da_cons (de_tup (da_cons de_int (da_cons de_int da_nil))) da_nil)) da_nil))) (alenS (alenS (alenS alen0)))) da_nil)))))))))
  (dss_cons (ds_set (i := 2) S__law_by_hand_right.nd (de_df (df_cat (de_var 2) (de_df (df_lst (da_cons de_bl (da_cons de_bl (da_cons de_bl (da_cons de_bl (da_cons de_bl (da_cons de_bl da_nil)))))))))))
  (dss_cons (ds_set (i := 3) S__law_by_hand_right.nd (de_tuplec (da_cons (de_df (df_lc (own := [("k", 5)]) rfl S__law_by_hand_right.nd (di_range1 m_range (da_cons de_int da_nil)) (blkOk_by (N := N__law_by_hand_right) (sc := defScope s__law_by_hand_right) (own := [("k", 5)]) (by decide +kernel)) (fun _ _ _ _ _ => (dgc_name (i := 5) S__law_by_hand_right.nd (by decide))) (fun _ _ _ _ _ => dts_nil) (fun _ _ _ _ _ => (de_call F__law_unit (hr.mono (by decide)) e__law_unit k__law_unit b__law_unit pass0 (da_cons de_int (da_cons (de_var 5) da_nil)) (alenS (alenS alen0)))))) da_nil) m_tuple))
  (dss_cons (ds_set (i := 1) S__law_by_hand_right.nd (de_df (df_cat (de_var 1) (de_df (df_lst (da_cons (de_call F__law_heard (hr.mono (by decide)) e__law_heard k__law_heard b__law_heard pass_cx (da_cons de_int (da_cons (de_var 3) (da_cons de_int da_nil))) (alenS (alenS (alenS alen0)))) (da_cons (de_call F__law_heard (hr.mono (by decide)) e__law_heard k__law_heard b__law_heard pass_cx (da_cons de_int (da_cons (de_slice (de_var 3) do_none (do_some de_int)) (da_cons de_int da_nil))) (alenS (alenS (alenS alen0)))) da_nil)))))))
  (dss_cons (ds_set (i := 2) S__law_by_hand_right.nd (de_df (df_cat (de_var 2) (de_df (df_rep (df_lst (da_cons (de_df (df_lst (da_cons de_str (da_cons de_bl da_nil)))) da_nil)) de_int)))))
  (dss_cons (ds_set (i := 4) S__law_by_hand_right.nd (de_call F__law_lists (hr.mono (by decide)) e__law_lists k__law_lists b__law_lists pass_cx (da_cons (de_var 0) da_nil) (alenS alen0)))
  (dss_cons (ds_set (i := 1) S__law_by_hand_right.nd (de_df (df_cat (de_var 1) (de_df (df_lst (da_cons (de_callK0 (perm := [1, 0]) F_basis (hr.mono (by decide)) e_basis k_basis kb_basis_10 pass_cx (dk_cons (de_var 4) (dk_cons de_int dk_nil)) (fun ds hl => match ds, hl with | [_, _], _ => rfl)) (da_cons (de_callK0 (perm := [1, 0]) F_rank (hr.mono (by decide)) e_rank k_rank kb_rank_10 pass_cx (dk_cons (de_var 4) (dk_cons de_int dk_nil)) (fun ds hl => match ds, hl with | [_, _], _ => rfl)) (da_cons (de_callK0 (perm := [2, 1, 0]) F_rest_of (hr.mono (by decide)) e_rest_of k_rest_of kb_rest_of_210 pass_cx (dk_cons (de_var 4) (dk_cons (de_df (df_lst (da_cons de_int (da_cons de_int (da_cons de_int da_nil))))) (dk_cons de_int dk_nil))) (fun ds hl => match ds, hl with | [_, _, _], _ => rfl)) da_nil))))))))
  (dss_cons (ds_set (i := 1) S__law_by_hand_right.nd (de_df (df_cat (de_var 1) (de_df (df_lst (da_cons (de_callK0 (perm := [2, 1, 0]) F_members (hr.mono (by decide)) e_members k_members kb_members_210 pass_cx (dk_cons de_int (dk_cons (de_df (df_lst (da_cons (de_df (df_lst (da_cons de_int (da_cons de_int (da_cons de_int da_nil))))) da_nil))) (dk_cons de_int dk_nil))) (fun ds hl => match ds, hl with | [_, _, _], _ => rfl)) (da_cons (de_callK0 (perm := [2, 1, 0]) F_is_within (hr.mono (by decide)) e_is_within k_is_within kb_is_within_210 pass_cx (dk_cons (de_var 4) (dk_cons (de_df (df_lst (da_cons (de_df (df_lst (da_cons de_int (da_cons de_int (da_cons de_int da_nil))))) da_nil))) (dk_cons de_int dk_nil))) (fun ds hl => match ds, hl with | [_, _, _], _ => rfl)) da_nil)))))))
  (dss_one (ds_ret (de_and (de_call F__law_same (hr.mono (by decide)) e__law_same k__law_same b__law_same pass_cx (da_cons (de_var 1) (da_cons (de_df (df_cat (de_var 2) (de_df (df_lst (da_cons (de_ix (fun _ _ => rfl) (de_var 2) de_int) (da_cons de_int (da_cons (de_tup (da_cons de_int (da_cons de_int (da_cons de_int da_nil)))) (da_cons (de_tup (da_cons (de_tup (da_cons de_int (da_cons de_int (da_cons de_int da_nil)))) (da_cons (de_tup (da_cons de_int (da_cons de_int (da_cons de_int da_nil)))) da_nil))) (da_cons de_bl da_nil))))))))) da_nil)) (alenS (alenS alen0))) (de_one (de_eq (hu64 hr) (de_var 4) (de_call F__law_lists (hr.mono (by decide)) e__law_lists k__law_lists b__law_lists pass_cx (da_cons (de_var 0) da_nil) (alenS alen0)))))))))))))))))))))))))
theorem ok__law_by_hand_right {a__law_by_hand_right : Addr} {fd__law_by_hand_right : FuncData} (F : Fun K "_law_by_hand_right" "_law_by_hand_right" s__law_by_hand_right a__law_by_hand_right fd__law_by_hand_right)
    {a__law_heard : Addr} {fd__law_heard : FuncData} (F__law_heard : FnOk P w K mg base (L2.CX P w) 5 a__law_heard fd__law_heard ["p", "vectors_so", "wide_so"] (spD K mg 3 g__law_heard)) (e__law_heard : mg "_law_heard" = some (.ref a__law_heard)) (k__law_heard : PySem.W.keepIn K (.ref a__law_heard) = true) (b__law_heard : Binds K fd__law_heard ["p", "vectors_so", "wide_so"] [])
    {a__law_lists : Addr} {fd__law_lists : FuncData} (F__law_lists : FnOk P w K mg base (L2.CX P w) 8 a__law_lists fd__law_lists ["matter"] (spD K mg 1 g__law_lists)) (e__law_lists : mg "_law_lists" = some (.ref a__law_lists)) (k__law_lists : PySem.W.keepIn K (.ref a__law_lists) = true) (b__law_lists : Binds K fd__law_lists ["matter"] [])
    {a__law_same : Addr} {fd__law_same : FuncData} (F__law_same : FnOk P w K mg base (L2.CX P w) 8 a__law_same fd__law_same ["got", "due"] (spD K mg 2 g__law_same)) (e__law_same : mg "_law_same" = some (.ref a__law_same)) (k__law_same : PySem.W.keepIn K (.ref a__law_same) = true) (b__law_same : Binds K fd__law_same ["got", "due"] [])
    {a__law_unit : Addr} {fd__law_unit : FuncData} (F__law_unit : FnOk P w K mg base (L2.CX P w) 1 a__law_unit fd__law_unit ["wide_so", "at_so"] (spD K mg 2 g__law_unit)) (e__law_unit : mg "_law_unit" = some (.ref a__law_unit)) (k__law_unit : PySem.W.keepIn K (.ref a__law_unit) = true) (b__law_unit : Binds K fd__law_unit ["wide_so", "at_so"] [])
    {a_basis : Addr} {fd_basis : FuncData} (F_basis : FnOk P w K mg base (L2.CX P w) 3 a_basis fd_basis ["prime", "rows"] (spD K mg 2 g_basis)) (e_basis : mg "basis" = some (.ref a_basis)) (k_basis : PySem.W.keepIn K (.ref a_basis) = true) (b_basis : Binds K fd_basis ["prime", "rows"] []) (kb_basis_10 : ∀ ws : List Value, ws.length = 2 → bindArgs fd_basis ⟨[], List.zip (["rows", "prime"] : List Str) ws⟩ = (pure (List.zip (["prime", "rows"] : List Str) (pick [1, 0] ws)) : Sem (List (Str × Value))))
    {a_is_within : Addr} {fd_is_within : FuncData} (F_is_within : FnOk P w K mg base (L2.CX P w) 4 a_is_within fd_is_within ["prime", "rows", "others"] (spD K mg 3 g_is_within)) (e_is_within : mg "is_within" = some (.ref a_is_within)) (k_is_within : PySem.W.keepIn K (.ref a_is_within) = true) (b_is_within : Binds K fd_is_within ["prime", "rows", "others"] []) (kb_is_within_210 : ∀ ws : List Value, ws.length = 3 → bindArgs fd_is_within ⟨[], List.zip (["others", "rows", "prime"] : List Str) ws⟩ = (pure (List.zip (["prime", "rows", "others"] : List Str) (pick [2, 1, 0] ws)) : Sem (List (Str × Value))))
    {a_members : Addr} {fd_members : FuncData} (F_members : FnOk P w K mg base (L2.CX P w) 4 a_members fd_members ["prime", "rows", "length"] (spD K mg 3 g_members)) (e_members : mg "members" = some (.ref a_members)) (k_members : PySem.W.keepIn K (.ref a_members) = true) (b_members : Binds K fd_members ["prime", "rows", "length"] []) (kb_members_210 : ∀ ws : List Value, ws.length = 3 → bindArgs fd_members ⟨[], List.zip (["length", "rows", "prime"] : List Str) ws⟩ = (pure (List.zip (["prime", "rows", "length"] : List Str) (pick [2, 1, 0] ws)) : Sem (List (Str × Value))))
    {a_rank : Addr} {fd_rank : FuncData} (F_rank : FnOk P w K mg base (L2.CX P w) 3 a_rank fd_rank ["prime", "rows"] (spD K mg 2 g_rank)) (e_rank : mg "rank" = some (.ref a_rank)) (k_rank : PySem.W.keepIn K (.ref a_rank) = true) (b_rank : Binds K fd_rank ["prime", "rows"] []) (kb_rank_10 : ∀ ws : List Value, ws.length = 2 → bindArgs fd_rank ⟨[], List.zip (["rows", "prime"] : List Str) ws⟩ = (pure (List.zip (["prime", "rows"] : List Str) (pick [1, 0] ws)) : Sem (List (Str × Value))))
    {a_rest_of : Addr} {fd_rest_of : FuncData} (F_rest_of : FnOk P w K mg base (L2.CX P w) 4 a_rest_of fd_rest_of ["prime", "row", "rows"] (spD K mg 3 g_rest_of)) (e_rest_of : mg "rest_of" = some (.ref a_rest_of)) (k_rest_of : PySem.W.keepIn K (.ref a_rest_of) = true) (b_rest_of : Binds K fd_rest_of ["prime", "row", "rows"] []) (kb_rest_of_210 : ∀ ws : List Value, ws.length = 3 → bindArgs fd_rest_of ⟨[], List.zip (["rows", "row", "prime"] : List Str) ws⟩ = (pure (List.zip (["prime", "row", "rows"] : List Str) (pick [2, 1, 0] ws)) : Sem (List (Str × Value))))
    (m_range : mg "range" = none)
    (m_tuple : mg "tuple" = none) :
    FnOk P w K mg base (L2.CX P w) 9 a__law_by_hand_right fd__law_by_hand_right [] (spD K mg 0 g__law_by_hand_right) :=
  fn_d (k := 8) (N := N__law_by_hand_right) (ps := []) (gs := B__law_by_hand_right) F S__law_by_hand_right (by decide) (bd__law_by_hand_right F__law_heard e__law_heard k__law_heard b__law_heard F__law_lists e__law_lists k__law_lists b__law_lists F__law_same e__law_same k__law_same b__law_same F__law_unit e__law_unit k__law_unit b__law_unit F_basis e_basis k_basis b_basis kb_basis_10 F_is_within e_is_within k_is_within b_is_within kb_is_within_210 F_members e_members k_members b_members kb_members_210 F_rank e_rank k_rank b_rank kb_rank_10 F_rest_of e_rest_of k_rest_of b_rest_of kb_rest_of_210 m_range m_tuple)
theorem bd__law_brink_right {a__law_brink_right : Addr}
    {a__law_heard : Addr} {fd__law_heard : FuncData} (F__law_heard : FnOk P w K mg base (L2.CX P w) 5 a__law_heard fd__law_heard ["p", "vectors_so", "wide_so"] (spD K mg 3 g__law_heard)) (e__law_heard : mg "_law_heard" = some (.ref a__law_heard)) (k__law_heard : PySem.W.keepIn K (.ref a__law_heard) = true) (b__law_heard : Binds K fd__law_heard ["p", "vectors_so", "wide_so"] [])
    {a__law_same : Addr} {fd__law_same : FuncData} (F__law_same : FnOk P w K mg base (L2.CX P w) 8 a__law_same fd__law_same ["got", "due"] (spD K mg 2 g__law_same)) (e__law_same : mg "_law_same" = some (.ref a__law_same)) (k__law_same : PySem.W.keepIn K (.ref a__law_same) = true) (b__law_same : Binds K fd__law_same ["got", "due"] [])
    {a__law_unit : Addr} {fd__law_unit : FuncData} (F__law_unit : FnOk P w K mg base (L2.CX P w) 1 a__law_unit fd__law_unit ["wide_so", "at_so"] (spD K mg 2 g__law_unit)) (e__law_unit : mg "_law_unit" = some (.ref a__law_unit)) (k__law_unit : PySem.W.keepIn K (.ref a__law_unit) = true) (b__law_unit : Binds K fd__law_unit ["wide_so", "at_so"] [])
    (m_isinstance : mg "isinstance" = none)
    (m_len : mg "len" = none)
    (m_range : mg "range" = none)
    (m_tuple : mg "tuple" = none) :
    ∀ (cdv : Value) (A : Around) (outer : List PySem.Env) (s : Shared) (H : Hp) (E : XK), Room 8 (A.deeper (envOfC "_law_brink_right" (defScope s__law_brink_right) s.heap.objs.size a__law_brink_right cdv)) → DSs (CxD P w K mg base N__law_brink_right "_law_brink_right" s__law_brink_right a__law_brink_right cdv A outer s H E) (fun cls d _ H => E cls d H) (defBody s__law_brink_right) B__law_brink_right := fun cdv A outer s H E hr =>
  (dss_cons (ds_set (i := 0) S__law_brink_right.nd (de_call F__law_heard (hr.mono (by decide)) e__law_heard k__law_heard b__law_heard pass_cx (da_cons de_int (da_cons (de_tuplec (da_cons (de_df (df_lc (own := [("k", 1)]) rfl S__law_brink_right.nd (di_range1 m_range (da_cons de_int da_nil)) (blkOk_by (N := N__law_brink_right) (sc := defScope s__law_brink_right) (own := [("k", 1)]) (by decide +kernel)) (fun _ _ _ _ _ => (dgc_name (i := 1) S__law_brink_right.nd (by decide))) (fun _ _ _ _ _ => dts_nil) (fun _ _ _ _ _ => (de_call F__law_unit (hr.mono (by decide)) e__law_unit k__law_unit b__law_unit pass0 (da_cons de_int (da_cons (de_var 1) da_nil)) (alenS (alenS alen0)))))) da_nil) m_tuple) (da_cons de_int da_nil))) (alenS (alenS (alenS alen0)))))
  (dss_cons (ds_if (dt_w (dw_or (dt_not (dt_tru (de_isi1 "tuple" (by decide) m_isinstance m_tuple bt_tuple (de_var 0)))) (dw_or1 (dt_ne (hu64 hr) (de_len (da_cons (de_var 0) da_nil) m_len) de_int)))) (dss_one (ds_ret de_bl)) dss_nil)
  (dss_one (ds_ret (de_call F__law_same (hr.mono (by decide)) e__law_same k__law_same b__law_same pass_cx (da_cons (de_df (df_lst (da_cons (de_ix (fun _ _ => rfl) (de_var 0) de_int) (da_cons (de_ix (fun _ _ => rfl) (de_var 0) de_int) (da_cons (de_ix (fun _ _ => rfl) (de_var 0) (de_neg de_int)) da_nil))))) (da_cons (de_df (df_lst (da_cons (de_mul (de_tup (da_cons de_int da_nil)) de_int) (da_cons (de_add (de_mul (de_tup (da_cons de_int da_nil)) de_int) (de_tup (da_cons de_int (da_cons de_int (da_cons de_int da_nil))))) (da_cons (de_mul (de_tup (da_cons de_int da_nil)) de_int) da_nil))))) da_nil)) (alenS (alenS alen0)))))))
theorem ok__law_brink_right {a__law_brink_right : Addr} {fd__law_brink_right : FuncData} (F : Fun K "_law_brink_right" "_law_brink_right" s__law_brink_right a__law_brink_right fd__law_brink_right)
    {a__law_heard : Addr} {fd__law_heard : FuncData} (F__law_heard : FnOk P w K mg base (L2.CX P w) 5 a__law_heard fd__law_heard ["p", "vectors_so", "wide_so"] (spD K mg 3 g__law_heard)) (e__law_heard : mg "_law_heard" = some (.ref a__law_heard)) (k__law_heard : PySem.W.keepIn K (.ref a__law_heard) = true) (b__law_heard : Binds K fd__law_heard ["p", "vectors_so", "wide_so"] [])
    {a__law_same : Addr} {fd__law_same : FuncData} (F__law_same : FnOk P w K mg base (L2.CX P w) 8 a__law_same fd__law_same ["got", "due"] (spD K mg 2 g__law_same)) (e__law_same : mg "_law_same" = some (.ref a__law_same)) (k__law_same : PySem.W.keepIn K (.ref a__law_same) = true) (b__law_same : Binds K fd__law_same ["got", "due"] [])
    {a__law_unit : Addr} {fd__law_unit : FuncData} (F__law_unit : FnOk P w K mg base (L2.CX P w) 1 a__law_unit fd__law_unit ["wide_so", "at_so"] (spD K mg 2 g__law_unit)) (e__law_unit : mg "_law_unit" = some (.ref a__law_unit)) (k__law_unit : PySem.W.keepIn K (.ref a__law_unit) = true) (b__law_unit : Binds K fd__law_unit ["wide_so", "at_so"] [])
    (m_isinstance : mg "isinstance" = none)
    (m_len : mg "len" = none)
    (m_range : mg "range" = none)
    (m_tuple : mg "tuple" = none) :
    FnOk P w K mg base (L2.CX P w) 9 a__law_brink_right fd__law_brink_right [] (spD K mg 0 g__law_brink_right) :=
  fn_d (k := 8) (N := N__law_brink_right) (ps := []) (gs := B__law_brink_right) F S__law_brink_right (by decide) (bd__law_brink_right F__law_heard e__law_heard k__law_heard b__law_heard F__law_same e__law_same k__law_same b__law_same F__law_unit e__law_unit k__law_unit b__law_unit m_isinstance m_len m_range m_tuple)
theorem bd__law_right {a__law_right : Addr}
    {a__law_basis : Addr} {fd__law_basis : FuncData} (F__law_basis : FnOk P w K mg base (L2.CX P w) 4 a__law_basis fd__law_basis ["p", "vectors_so", "wide_so"] (spD K mg 3 g__law_basis)) (e__law_basis : mg "_law_basis" = some (.ref a__law_basis)) (k__law_basis : PySem.W.keepIn K (.ref a__law_basis) = true) (b__law_basis : Binds K fd__law_basis ["p", "vectors_so", "wide_so"] [])
    {a__law_drawn_shape : Addr} {fd__law_drawn_shape : FuncData} (F__law_drawn_shape : FnOk P w K mg base (L2.CX P w) 3 a__law_drawn_shape fd__law_drawn_shape ["tin"] (spD K mg 1 g__law_drawn_shape)) (e__law_drawn_shape : mg "_law_drawn_shape" = some (.ref a__law_drawn_shape)) (k__law_drawn_shape : PySem.W.keepIn K (.ref a__law_drawn_shape) = true) (b__law_drawn_shape : Binds K fd__law_drawn_shape ["tin"] [])
    {a__law_drawn_vectors : Addr} {fd__law_drawn_vectors : FuncData} (F__law_drawn_vectors : FnOk P w K mg base (L2.CX P w) 3 a__law_drawn_vectors fd__law_drawn_vectors ["tin", "p", "count_so", "wide_so"] (spD K mg 4 g__law_drawn_vectors)) (e__law_drawn_vectors : mg "_law_drawn_vectors" = some (.ref a__law_drawn_vectors)) (k__law_drawn_vectors : PySem.W.keepIn K (.ref a__law_drawn_vectors) = true) (b__law_drawn_vectors : Binds K fd__law_drawn_vectors ["tin", "p", "count_so", "wide_so"] [])
    {a__law_lead : Addr} {fd__law_lead : FuncData} (F__law_lead : FnOk P w K mg base (L2.CX P w) 1 a__law_lead fd__law_lead ["own"] (spD K mg 1 g__law_lead)) (e__law_lead : mg "_law_lead" = some (.ref a__law_lead)) (k__law_lead : PySem.W.keepIn K (.ref a__law_lead) = true) (b__law_lead : Binds K fd__law_lead ["own"] [])
    {a__law_plus : Addr} {fd__law_plus : FuncData} (F__law_plus : FnOk P w K mg base (L2.CX P w) 1 a__law_plus fd__law_plus ["p", "one_so", "two_so", "factor_so"] (spD K mg 4 g__law_plus)) (e__law_plus : mg "_law_plus" = some (.ref a__law_plus)) (k__law_plus : PySem.W.keepIn K (.ref a__law_plus) = true) (b__law_plus : Binds K fd__law_plus ["p", "one_so", "two_so", "factor_so"] [])
    {a__law_same : Addr} {fd__law_same : FuncData} (F__law_same : FnOk P w K mg base (L2.CX P w) 8 a__law_same fd__law_same ["got", "due"] (spD K mg 2 g__law_same)) (e__law_same : mg "_law_same" = some (.ref a__law_same)) (k__law_same : PySem.W.keepIn K (.ref a__law_same) = true) (b__law_same : Binds K fd__law_same ["got", "due"] [])
    {a__law_sums : Addr} {fd__law_sums : FuncData} (F__law_sums : FnOk P w K mg base (L2.CX P w) 3 a__law_sums fd__law_sums ["p", "vectors_so", "wide_so"] (spD K mg 3 g__law_sums)) (e__law_sums : mg "_law_sums" = some (.ref a__law_sums)) (k__law_sums : PySem.W.keepIn K (.ref a__law_sums) = true) (b__law_sums : Binds K fd__law_sums ["p", "vectors_so", "wide_so"] [])
    {a__law_take : Addr} {fd__law_take : FuncData} (F__law_take : FnOk P w K mg base (L2.CX P w) 1 a__law_take fd__law_take ["tin", "below_so"] (spD K mg 2 g__law_take)) (e__law_take : mg "_law_take" = some (.ref a__law_take)) (k__law_take : PySem.W.keepIn K (.ref a__law_take) = true) (b__law_take : Binds K fd__law_take ["tin", "below_so"] [])
    {a_basis : Addr} {fd_basis : FuncData} (F_basis : FnOk P w K mg base (L2.CX P w) 3 a_basis fd_basis ["prime", "rows"] (spD K mg 2 g_basis)) (e_basis : mg "basis" = some (.ref a_basis)) (k_basis : PySem.W.keepIn K (.ref a_basis) = true) (b_basis : Binds K fd_basis ["prime", "rows"] [])
    {a_is_within : Addr} {fd_is_within : FuncData} (F_is_within : FnOk P w K mg base (L2.CX P w) 4 a_is_within fd_is_within ["prime", "rows", "others"] (spD K mg 3 g_is_within)) (e_is_within : mg "is_within" = some (.ref a_is_within)) (k_is_within : PySem.W.keepIn K (.ref a_is_within) = true) (b_is_within : Binds K fd_is_within ["prime", "rows", "others"] [])
    {a_members : Addr} {fd_members : FuncData} (F_members : FnOk P w K mg base (L2.CX P w) 4 a_members fd_members ["prime", "rows", "length"] (spD K mg 3 g_members)) (e_members : mg "members" = some (.ref a_members)) (k_members : PySem.W.keepIn K (.ref a_members) = true) (b_members : Binds K fd_members ["prime", "rows", "length"] [])
    {a_rank : Addr} {fd_rank : FuncData} (F_rank : FnOk P w K mg base (L2.CX P w) 3 a_rank fd_rank ["prime", "rows"] (spD K mg 2 g_rank)) (e_rank : mg "rank" = some (.ref a_rank)) (k_rank : PySem.W.keepIn K (.ref a_rank) = true) (b_rank : Binds K fd_rank ["prime", "rows"] [])
    {a_rest_of : Addr} {fd_rest_of : FuncData} (F_rest_of : FnOk P w K mg base (L2.CX P w) 4 a_rest_of fd_rest_of ["prime", "row", "rows"] (spD K mg 3 g_rest_of)) (e_rest_of : mg "rest_of" = some (.ref a_rest_of)) (k_rest_of : PySem.W.keepIn K (.ref a_rest_of) = true) (b_rest_of : Binds K fd_rest_of ["prime", "row", "rows"] [])
    (m_isinstance : mg "isinstance" = none)
    (m_len : mg "len" = none)
    (m_range : mg "range" = none)
    (m_tuple : mg "tuple" = none) :
    ∀ (cdv : Value) (A : Around) (outer : List PySem.Env) (s : Shared) (H : Hp) (E : XK), Room 8 (A.deeper (envOfC "_law_right" (defScope s__law_right) s.heap.objs.size a__law_right cdv)) → DSs (CxD P w K mg base N__law_right "_law_right" s__law_right a__law_right cdv A outer s H E) (fun cls d _ H => E cls d H) (defBody s__law_right) B__law_right := fun cdv A outer s H E hr =>
  (dss_cons (ds_asg (de_callO (i := 0) F__law_drawn_shape (hr.mono (by decide)) e__law_drawn_shape k__law_drawn_shape b__law_drawn_shape pass_cx da_nil (alenO alen0)) (dg_tup rfl (dgs_cons (dg_name (i := 1) S__law_right.nd) (dgs_cons (dg_name (i := 2) S__law_right.nd) (dgs_cons (dg_name (i := 3) S__law_right.nd) dgs_nil)))))
  (dss_cons (ds_set (i := 4) S__law_right.nd (de_callO (i := 0) F__law_drawn_vectors (hr.mono (by decide)) e__law_drawn_vectors k__law_drawn_vectors b__law_drawn_vectors pass_cx (da_cons (de_var 1) (da_cons (de_var 2) (da_cons (de_var 3) da_nil))) (alenO (alenS (alenS (alenS alen0))))))
  (dss_cons (ds_par2 (i := 5) (j := 6) rfl S__law_right.nd (da_cons (de_call F__law_sums (hr.mono (by decide)) e__law_sums k__law_sums b__law_sums pass_cx (da_cons (de_var 1) (da_cons (de_var 4) (da_cons (de_var 3) da_nil))) (alenS (alenS (alenS alen0)))) (da_cons (de_call F__law_basis (hr.mono (by decide)) e__law_basis k__law_basis b__law_basis pass_cx (da_cons (de_var 1) (da_cons (de_var 4) (da_cons (de_var 3) da_nil))) (alenS (alenS (alenS alen0)))) da_nil)))
  (dss_cons (ds_set (i := 7) S__law_right.nd (de_df (df_lst (da_cons (de_call F_basis (hr.mono (by decide)) e_basis k_basis b_basis pass_cx (da_cons (de_var 1) (da_cons (de_var 4) da_nil)) (alenS (alenS alen0))) (da_cons (de_call F_rank (hr.mono (by decide)) e_rank k_rank b_rank pass_cx (da_cons (de_var 1) (da_cons (de_var 4) da_nil)) (alenS (alenS alen0))) (da_cons (de_call F_members (hr.mono (by decide)) e_members k_members b_members pass_cx (da_cons (de_var 1) (da_cons (de_var 4) (da_cons (de_var 3) da_nil))) (alenS (alenS (alenS alen0)))) (da_cons (de_call F_basis (hr.mono (by decide)) e_basis k_basis b_basis pass_cx (da_cons (de_var 1) (da_cons (de_add (de_revT (de_var 4)) (de_var 4)) da_nil)) (alenS (alenS alen0))) da_nil)))))))
  (dss_cons (ds_if (dt_not (dt_tru (de_call F__law_same (hr.mono (by decide)) e__law_same k__law_same b__law_same pass_cx (da_cons (de_var 7) (da_cons (de_df (df_lst (da_cons (de_var 6) (da_cons (de_len (da_cons (de_var 6) da_nil) m_len) (da_cons (de_tuplec (da_cons (de_var 5) da_nil) m_tuple) (da_cons (de_var 6) da_nil)))))) da_nil)) (alenS (alenS alen0))))) (dss_one (ds_ret de_bl)) dss_nil)
  (dss_cons (ds_setLcF (i := 9) (own := [("own", 8)]) rfl S__law_right.nd (di_seq (de_var 6)) (blkOk_by (N := N__law_right) (sc := defScope s__law_right) (own := [("own", 8)]) (by decide +kernel)) (fun _ _ _ _ _ => (dgc_name (i := 8) S__law_right.nd (by decide))) (fun _ _ _ _ _ => dts_nil) (fun _ _ _ _ _ => (de_call F__law_lead (hr.mono (by decide)) e__law_lead k__law_lead b__law_lead pass0 (da_cons (de_var 8) da_nil) (alenS alen0))) (sw_true rfl rfl rfl (by decide +kernel)))
  (dss_cons (ds_for own_cx rfl (di_range1 m_range (da_cons de_int da_nil)) (dg_name (i := 10) S__law_right.nd) (dss_cons (ds_set (i := 8) S__law_right.nd (de_tuplec (da_cons (de_df (df_lc (own := [("k", 13)]) rfl S__law_right.nd (di_range1 m_range (da_cons (de_var 3) da_nil)) (blkOk_by (N := N__law_right) (sc := defScope s__law_right) (own := [("k", 13)]) (by decide +kernel)) (fun _ _ _ _ _ => (dgc_name (i := 13) S__law_right.nd (by decide))) (fun _ _ _ _ _ => dts_nil) (fun _ _ _ _ _ => (de_callO (i := 0) F__law_take (hr.mono (by decide)) e__law_take k__law_take b__law_take pass0 (da_cons (de_var 1) da_nil) (alenO (alenS alen0)))))) da_nil) m_tuple))
  (dss_cons (ds_set (i := 11) S__law_right.nd (de_call F_rest_of (hr.mono (by decide)) e_rest_of k_rest_of b_rest_of pass_cx (da_cons (de_var 1) (da_cons (de_var 8) (da_cons (de_var 4) da_nil))) (alenS (alenS (alenS alen0)))))
  (dss_cons (ds_if (dt_w (dw_or (dt_not (dt_tru (de_isi1 "tuple" (by decide) m_isinstance m_tuple bt_tuple (de_var 11)))) (dw_or (dt_ne (hu64 hr) (de_len (da_cons (de_var 11) da_nil) m_len) (de_var 3)) (dw_or1 (dt_ne (hu64 hr) (de_df (df_lc (own := [("n", 14)]) rfl S__law_right.nd (di_seq (de_var 11)) (blkOk_by (N := N__law_right) (sc := defScope s__law_right) (own := [("n", 14)]) (by decide +kernel)) (fun _ _ _ _ _ => (dgc_name (i := 14) S__law_right.nd (by decide))) (fun _ _ _ _ _ => (dts_one (dt_ninRange rfl m_range (de_var 14) (de_var 1)))) (fun _ _ _ _ _ => (de_var 14)))) (de_df (df_lst da_nil))))))) (dss_one (ds_ret de_bl)) dss_nil)
  (dss_cons (ds_if (dt_notin (hu65 hr) (de_call F__law_plus (hr.mono (by decide)) e__law_plus k__law_plus b__law_plus pass_cx (da_cons (de_var 1) (da_cons (de_var 8) (da_cons (de_var 11) (da_cons (de_sub (de_var 1) de_int) da_nil)))) (alenS (alenS (alenS (alenS alen0))))) (de_var 5)) (dss_one (ds_ret de_bl)) dss_nil)
  (dss_cons (ds_if (dt_ne (hu64 hr) (de_df (df_lc (own := [("k", 13)]) rfl S__law_right.nd (di_seq (de_var 9)) (blkOk_by (N := N__law_right) (sc := defScope s__law_right) (own := [("k", 13)]) (by decide +kernel)) (fun _ _ _ _ _ => (dgc_name (i := 13) S__law_right.nd (by decide))) (fun _ _ _ _ _ => (dts_one (dt_ne (hu64 hr) (de_ix (fun _ _ => rfl) (de_var 11) (de_var 13)) de_int))) (fun _ _ _ _ _ => (de_ix (fun _ _ => rfl) (de_var 11) (de_var 13))))) (de_df (df_lst da_nil))) (dss_one (ds_ret de_bl)) dss_nil)
  (dss_cons (ds_set (i := 12) S__law_right.nd (de_add (de_tup (da_cons (de_var 8) da_nil)) (de_slice (de_var 4) do_none (do_some de_int))))
  (dss_one (ds_if (dt_not (dt_tru (de_call F__law_same (hr.mono (by decide)) e__law_same k__law_same b__law_same pass_cx (da_cons (de_call F_is_within (hr.mono (by decide)) e_is_within k_is_within b_is_within pass_cx (da_cons (de_var 1) (da_cons (de_var 12) (da_cons (de_var 4) da_nil))) (alenS (alenS (alenS alen0)))) (da_cons (de_in (hu65 hr) (de_var 8) (de_var 5)) da_nil)) (alenS (alenS alen0))))) (dss_one (ds_ret de_bl)) dss_nil)))))))))
  (dss_one (ds_ret (de_call F__law_same (hr.mono (by decide)) e__law_same k__law_same b__law_same pass_cx (da_cons (de_call F_is_within (hr.mono (by decide)) e_is_within k_is_within b_is_within pass_cx (da_cons (de_var 1) (da_cons (de_var 4) (da_cons (de_var 6) da_nil))) (alenS (alenS (alenS alen0)))) (da_cons de_bl da_nil)) (alenS (alenS alen0))))))))))))
theorem ok__law_right {a__law_right : Addr} {fd__law_right : FuncData} (F : Fun K "_law_right" "_law_right" s__law_right a__law_right fd__law_right)
    {a__law_basis : Addr} {fd__law_basis : FuncData} (F__law_basis : FnOk P w K mg base (L2.CX P w) 4 a__law_basis fd__law_basis ["p", "vectors_so", "wide_so"] (spD K mg 3 g__law_basis)) (e__law_basis : mg "_law_basis" = some (.ref a__law_basis)) (k__law_basis : PySem.W.keepIn K (.ref a__law_basis) = true) (b__law_basis : Binds K fd__law_basis ["p", "vectors_so", "wide_so"] [])
    {a__law_drawn_shape : Addr} {fd__law_drawn_shape : FuncData} (F__law_drawn_shape : FnOk P w K mg base (L2.CX P w) 3 a__law_drawn_shape fd__law_drawn_shape ["tin"] (spD K mg 1 g__law_drawn_shape)) (e__law_drawn_shape : mg "_law_drawn_shape" = some (.ref a__law_drawn_shape)) (k__law_drawn_shape : PySem.W.keepIn K (.ref a__law_drawn_shape) = true) (b__law_drawn_shape : Binds K fd__law_drawn_shape ["tin"] [])
    {a__law_drawn_vectors : Addr} {fd__law_drawn_vectors : FuncData} (F__law_drawn_vectors : FnOk P w K mg base (L2.CX P w) 3 a__law_drawn_vectors fd__law_drawn_vectors ["tin", "p", "count_so", "wide_so"] (spD K mg 4 g__law_drawn_vectors)) (e__law_drawn_vectors : mg "_law_drawn_vectors" = some (.ref a__law_drawn_vectors)) (k__law_drawn_vectors : PySem.W.keepIn K (.ref a__law_drawn_vectors) = true) (b__law_drawn_vectors : Binds K fd__law_drawn_vectors ["tin", "p", "count_so", "wide_so"] [])
    {a__law_lead : Addr} {fd__law_lead : FuncData} (F__law_lead : FnOk P w K mg base (L2.CX P w) 1 a__law_lead fd__law_lead ["own"] (spD K mg 1 g__law_lead)) (e__law_lead : mg "_law_lead" = some (.ref a__law_lead)) (k__law_lead : PySem.W.keepIn K (.ref a__law_lead) = true) (b__law_lead : Binds K fd__law_lead ["own"] [])
    {a__law_plus : Addr} {fd__law_plus : FuncData} (F__law_plus : FnOk P w K mg base (L2.CX P w) 1 a__law_plus fd__law_plus ["p", "one_so", "two_so", "factor_so"] (spD K mg 4 g__law_plus)) (e__law_plus : mg "_law_plus" = some (.ref a__law_plus)) (k__law_plus : PySem.W.keepIn K (.ref a__law_plus) = true) (b__law_plus : Binds K fd__law_plus ["p", "one_so", "two_so", "factor_so"] [])
    {a__law_same : Addr} {fd__law_same : FuncData} (F__law_same : FnOk P w K mg base (L2.CX P w) 8 a__law_same fd__law_same ["got", "due"] (spD K mg 2 g__law_same)) (e__law_same : mg "_law_same" = some (.ref a__law_same)) (k__law_same : PySem.W.keepIn K (.ref a__law_same) = true) (b__law_same : Binds K fd__law_same ["got", "due"] [])
    {a__law_sums : Addr} {fd__law_sums : FuncData} (F__law_sums : FnOk P w K mg base (L2.CX P w) 3 a__law_sums fd__law_sums ["p", "vectors_so", "wide_so"] (spD K mg 3 g__law_sums)) (e__law_sums : mg "_law_sums" = some (.ref a__law_sums)) (k__law_sums : PySem.W.keepIn K (.ref a__law_sums) = true) (b__law_sums : Binds K fd__law_sums ["p", "vectors_so", "wide_so"] [])
    {a__law_take : Addr} {fd__law_take : FuncData} (F__law_take : FnOk P w K mg base (L2.CX P w) 1 a__law_take fd__law_take ["tin", "below_so"] (spD K mg 2 g__law_take)) (e__law_take : mg "_law_take" = some (.ref a__law_take)) (k__law_take : PySem.W.keepIn K (.ref a__law_take) = true) (b__law_take : Binds K fd__law_take ["tin", "below_so"] [])
    {a_basis : Addr} {fd_basis : FuncData} (F_basis : FnOk P w K mg base (L2.CX P w) 3 a_basis fd_basis ["prime", "rows"] (spD K mg 2 g_basis)) (e_basis : mg "basis" = some (.ref a_basis)) (k_basis : PySem.W.keepIn K (.ref a_basis) = true) (b_basis : Binds K fd_basis ["prime", "rows"] [])
    {a_is_within : Addr} {fd_is_within : FuncData} (F_is_within : FnOk P w K mg base (L2.CX P w) 4 a_is_within fd_is_within ["prime", "rows", "others"] (spD K mg 3 g_is_within)) (e_is_within : mg "is_within" = some (.ref a_is_within)) (k_is_within : PySem.W.keepIn K (.ref a_is_within) = true) (b_is_within : Binds K fd_is_within ["prime", "rows", "others"] [])
    {a_members : Addr} {fd_members : FuncData} (F_members : FnOk P w K mg base (L2.CX P w) 4 a_members fd_members ["prime", "rows", "length"] (spD K mg 3 g_members)) (e_members : mg "members" = some (.ref a_members)) (k_members : PySem.W.keepIn K (.ref a_members) = true) (b_members : Binds K fd_members ["prime", "rows", "length"] [])
    {a_rank : Addr} {fd_rank : FuncData} (F_rank : FnOk P w K mg base (L2.CX P w) 3 a_rank fd_rank ["prime", "rows"] (spD K mg 2 g_rank)) (e_rank : mg "rank" = some (.ref a_rank)) (k_rank : PySem.W.keepIn K (.ref a_rank) = true) (b_rank : Binds K fd_rank ["prime", "rows"] [])
    {a_rest_of : Addr} {fd_rest_of : FuncData} (F_rest_of : FnOk P w K mg base (L2.CX P w) 4 a_rest_of fd_rest_of ["prime", "row", "rows"] (spD K mg 3 g_rest_of)) (e_rest_of : mg "rest_of" = some (.ref a_rest_of)) (k_rest_of : PySem.W.keepIn K (.ref a_rest_of) = true) (b_rest_of : Binds K fd_rest_of ["prime", "row", "rows"] [])
    (m_isinstance : mg "isinstance" = none)
    (m_len : mg "len" = none)
    (m_range : mg "range" = none)
    (m_tuple : mg "tuple" = none) :
    FnOk P w K mg base (L2.CX P w) 9 a__law_right fd__law_right ["tin"] (spD K mg 1 g__law_right) :=
  fn_d (k := 8) (N := N__law_right) (ps := ["tin"]) (gs := B__law_right) F S__law_right (by decide) (bd__law_right F__law_basis e__law_basis k__law_basis b__law_basis F__law_drawn_shape e__law_drawn_shape k__law_drawn_shape b__law_drawn_shape F__law_drawn_vectors e__law_drawn_vectors k__law_drawn_vectors b__law_drawn_vectors F__law_lead e__law_lead k__law_lead b__law_lead F__law_plus e__law_plus k__law_plus b__law_plus F__law_same e__law_same k__law_same b__law_same F__law_sums e__law_sums k__law_sums b__law_sums F__law_take e__law_take k__law_take b__law_take F_basis e_basis k_basis b_basis F_is_within e_is_within k_is_within b_is_within F_members e_members k_members b_members F_rank e_rank k_rank b_rank F_rest_of e_rest_of k_rest_of b_rest_of m_isinstance m_len m_range m_tuple)
theorem bd_law {a_law : Addr}
    {a__law_box : Addr} {fd__law_box : FuncData} (F__law_box : FnOk P w K mg base (L2.CX P w) 1 a__law_box fd__law_box ["script", "k"] (spF K mg 2 g__law_box)) (e__law_box : mg "_law_box" = some (.ref a__law_box)) (k__law_box : PySem.W.keepIn K (.ref a__law_box) = true) (b__law_box : Binds K fd__law_box ["script", "k"] [])
    {a__law_brink_right : Addr} {fd__law_brink_right : FuncData} (F__law_brink_right : FnOk P w K mg base (L2.CX P w) 9 a__law_brink_right fd__law_brink_right [] (spD K mg 0 g__law_brink_right)) (e__law_brink_right : mg "_law_brink_right" = some (.ref a__law_brink_right)) (k__law_brink_right : PySem.W.keepIn K (.ref a__law_brink_right) = true) (b__law_brink_right : Binds K fd__law_brink_right [] [])
    {a__law_by_hand_right : Addr} {fd__law_by_hand_right : FuncData} (F__law_by_hand_right : FnOk P w K mg base (L2.CX P w) 9 a__law_by_hand_right fd__law_by_hand_right [] (spD K mg 0 g__law_by_hand_right)) (e__law_by_hand_right : mg "_law_by_hand_right" = some (.ref a__law_by_hand_right)) (k__law_by_hand_right : PySem.W.keepIn K (.ref a__law_by_hand_right) = true) (b__law_by_hand_right : Binds K fd__law_by_hand_right [] [])
    {a__law_cells : Addr} {fd__law_cells : FuncData} (F__law_cells : FnOk P w K mg base (L2.CX P w) 1 a__law_cells fd__law_cells ["script", "most_so"] (spD K mg 2 g__law_cells)) (e__law_cells : mg "_law_cells" = some (.ref a__law_cells)) (k__law_cells : PySem.W.keepIn K (.ref a__law_cells) = true) (b__law_cells : Binds K fd__law_cells ["script", "most_so"] [])
    {a__law_right : Addr} {fd__law_right : FuncData} (F__law_right : FnOk P w K mg base (L2.CX P w) 9 a__law_right fd__law_right ["tin"] (spD K mg 1 g__law_right)) (e__law_right : mg "_law_right" = some (.ref a__law_right)) (k__law_right : PySem.W.keepIn K (.ref a__law_right) = true) (b__law_right : Binds K fd__law_right ["tin"] [])
    (m_all : mg "all" = none)
    (m_int : mg "int" = none)
    (m_len : mg "len" = none)
    (m_range : mg "range" = none) :
    ∀ (cdv : Value) (A : Around) (outer : List PySem.Env) (s : Shared) (H : Hp) (E : XK), Room 9 (A.deeper (envOfC "law" (defScope s_law) s.heap.objs.size a_law cdv)) → DSs (CxD P w K mg base N_law "law" s_law a_law cdv A outer s H E) (fun cls d _ H => E cls d H) (defBody s_law) B_law := fun cdv A outer s H E hr =>
  (dss_cons (ds_if (dt_not (dt_tru (de_call0 F__law_by_hand_right (hr.mono (by decide)) e__law_by_hand_right k__law_by_hand_right b__law_by_hand_right pass_cx))) (dss_one (ds_ret de_bl)) dss_nil)
  (dss_cons (ds_set (i := 1) S_law.nd (de_call F__law_cells (hr.mono (by decide)) e__law_cells k__law_cells b__law_cells pass_cx (da_cons (de_var 0) (da_cons de_int da_nil)) (alenS (alenS alen0))))
  (dss_cons (ds_if (dt_w (dw_and (dt_eq (hu64 hr) (de_mod (de_intc (da_cons (de_ix (fun _ _ => rfl) (de_var 1) de_int) da_nil) m_int) de_int) de_int) (dw_and1 (dt_not (dt_tru (de_call0 F__law_brink_right (hr.mono (by decide)) e__law_brink_right k__law_brink_right b__law_brink_right pass_cx)))))) (dss_one (ds_ret de_bl)) dss_nil)
  (dss_one (ds_ret (de_all (da_cons (de_df (df_lc (own := [("k", 2)]) rfl S_law.nd (di_range1 m_range (da_cons (de_len (da_cons (de_var 1) da_nil) m_len) da_nil)) (blkOk_by (N := N_law) (sc := defScope s_law) (own := [("k", 2)]) (by decide +kernel)) (fun _ _ _ _ _ => (dgc_name (i := 2) S_law.nd (by decide))) (fun _ _ _ _ _ => dts_nil) (fun _ _ _ _ _ => (de_callT F__law_right (hr.mono (by decide)) e__law_right k__law_right b__law_right pass0 (df_call F__law_box (hr.mono (by decide)) e__law_box k__law_box b__law_box pass0 (da_cons (de_var 1) (da_cons (de_var 2) da_nil)) (alenS (alenS alen0))))))) da_nil) m_all))))))
theorem ok_law {a_law : Addr} {fd_law : FuncData} (F : Fun K "law" "law" s_law a_law fd_law)
    {a__law_box : Addr} {fd__law_box : FuncData} (F__law_box : FnOk P w K mg base (L2.CX P w) 1 a__law_box fd__law_box ["script", "k"] (spF K mg 2 g__law_box)) (e__law_box : mg "_law_box" = some (.ref a__law_box)) (k__law_box : PySem.W.keepIn K (.ref a__law_box) = true) (b__law_box : Binds K fd__law_box ["script", "k"] [])
    {a__law_brink_right : Addr} {fd__law_brink_right : FuncData} (F__law_brink_right : FnOk P w K mg base (L2.CX P w) 9 a__law_brink_right fd__law_brink_right [] (spD K mg 0 g__law_brink_right)) (e__law_brink_right : mg "_law_brink_right" = some (.ref a__law_brink_right)) (k__law_brink_right : PySem.W.keepIn K (.ref a__law_brink_right) = true) (b__law_brink_right : Binds K fd__law_brink_right [] [])
    {a__law_by_hand_right : Addr} {fd__law_by_hand_right : FuncData} (F__law_by_hand_right : FnOk P w K mg base (L2.CX P w) 9 a__law_by_hand_right fd__law_by_hand_right [] (spD K mg 0 g__law_by_hand_right)) (e__law_by_hand_right : mg "_law_by_hand_right" = some (.ref a__law_by_hand_right)) (k__law_by_hand_right : PySem.W.keepIn K (.ref a__law_by_hand_right) = true) (b__law_by_hand_right : Binds K fd__law_by_hand_right [] [])
    {a__law_cells : Addr} {fd__law_cells : FuncData} (F__law_cells : FnOk P w K mg base (L2.CX P w) 1 a__law_cells fd__law_cells ["script", "most_so"] (spD K mg 2 g__law_cells)) (e__law_cells : mg "_law_cells" = some (.ref a__law_cells)) (k__law_cells : PySem.W.keepIn K (.ref a__law_cells) = true) (b__law_cells : Binds K fd__law_cells ["script", "most_so"] [])
    {a__law_right : Addr} {fd__law_right : FuncData} (F__law_right : FnOk P w K mg base (L2.CX P w) 9 a__law_right fd__law_right ["tin"] (spD K mg 1 g__law_right)) (e__law_right : mg "_law_right" = some (.ref a__law_right)) (k__law_right : PySem.W.keepIn K (.ref a__law_right) = true) (b__law_right : Binds K fd__law_right ["tin"] [])
    (m_all : mg "all" = none)
    (m_int : mg "int" = none)
    (m_len : mg "len" = none)
    (m_range : mg "range" = none) :
    FnOk P w K mg base (L2.CX P w) 10 a_law fd_law ["script"] (spD K mg 1 g_law) :=
  fn_d (k := 9) (N := N_law) (ps := ["script"]) (gs := B_law) F S_law (by decide) (bd_law F__law_box e__law_box k__law_box b__law_box F__law_brink_right e__law_brink_right k__law_brink_right b__law_brink_right F__law_by_hand_right e__law_by_hand_right k__law_by_hand_right b__law_by_hand_right F__law_cells e__law_cells k__law_cells b__law_cells F__law_right e__law_right k__law_right b__law_right m_all m_int m_len m_range)
end K03
end

section
set_option linter.all false
set_option maxRecDepth 100000
namespace K03
open PySem PD
def okT : Option (Ans PyData × Sg) → Bool | some (.ok (.bool true), _) => true | _ => false
theorem hand_true : okT (g__law_by_hand_right []) = true := by decide +kernel
end K03
end

section
set_option linter.all false
set_option maxRecDepth 100000
set_option maxHeartbeats 4000000
namespace K03
open PySem PySem.Spec PyProof.Rows L2 PD
theorem fn_weak {P : Program} {w : World} {K : PySem.W.Frag} {mg : Str → Option Value} {base : Heap} {k : Nat} {f : Addr} {fd : FuncData} {ps : List Str} {sp sp2 : Sp} {CX : CXT} (F : FnOk P w K mg base CX k f fd ps sp) (h : ∀ vs H Q E, sp2 vs H Q E → sp vs H Q E) : FnOk P w K mg base CX k f fd ps sp2 :=
  ⟨fun vs H Q E q => F.1 vs H Q E (h _ _ _ _ q), fun A outer s H args us vs Q E a b c d q => F.2 A outer s H args us vs Q E a b c d (h _ _ _ _ q)⟩
theorem kit_exc {K : PySem.W.Frag} {C : Addr} {T : String} {b : Bool} (hm : PySem.W.kitMeta T = true) (hs : PySem.W.subIn K (.ref C) (.type T) = some b) : PySem.W.kitOne K (.ref C) (.type T) = some b := by
  unfold PySem.W.kitOne PySem.W.kitCls
  rw [if_neg (by simp)]
  show (if PySem.W.kitMeta T = true then PySem.W.subIn K (.ref C) (.type T) else none) = some b
  rw [if_pos hm]
  exact hs
theorem ints_dq {K : PySem.W.Frag} {H : Hp} : ∀ ns : List Int, DqAll K H (ns.map V.int) (ns.map PyData.int)
  | [] => .nil
  | n :: r => .cons (.int n) (ints_dq r)
/-- the promise of the law, whatever the names stand for -/
def spL (K : PySem.W.Frag) : Sp := fun vs H Q E => ∀ mg, spD K mg 1 g_law vs H Q E
theorem law_start {K : PySem.W.Frag} {H : Hp} {a : Addr} {ns : List Int} (hS : SqL K H a (ns.map V.int)) (hm : ∃ c, g_law [.fz (.list (ns.map .int))] = some (.ok (.bool true), c)) :
    spL K [.ref a] H (fun v _ => v = .bl true) fun _ _ _ => False := by
  intro mg
  obtain ⟨c, hm⟩ := hm
  have e : hid ⟨fun _ => False, fun _ => none⟩ (fun _ => none) H = H := by
    funext b
    unfold hid Hid
    simp
  refine ⟨rfl, ⟨fun _ => False, fun _ => none⟩, [.fz (.list (ns.map .int))], _, c, ⟨rfl, fun i d q => ?_, fun i b ds q => ?_, fun i a q => (by cases q), fun i j a q => (by cases q), fun b q => q.elim, fun i a q => (by cases q), fun i o q => ?_⟩, hm, fun d ed v H' _ _ dv => ?_, fun c fs z => by cases z⟩
  · match i, q with
    | 0, q =>
      cases q
      refine ⟨.ref a, rfl, ?_⟩
      rw [e]
      exact .lst hS (ints_dq ns)
  · match i, q with
    | 0, q => cases q
  · match i, q with
    | 0, q => cases q
  · cases ed
    cases dv with
    | bl b => rfl
set_option maxHeartbeats 0 in
theorem all_mk {l : PySem.W.OpenLaw} {w : World} {K : PySem.W.Frag} {h : Heap} {mg : Str → Option Value} {fa : Addr} {f_power f_all_rows f_inverse f_row_by f__scaled f__less f__echelon f__width f_basis f_rank f__reduced f__lead f_rest_of f_is_within f_members f__law_box f__law_take f__law_cells f__law_of f__law_lists f__law_same f__law_plus f__law_unit f__law_tuples f__law_mixed f__law_sums f__law_lead f__law_basis f__law_drawn_vectors f__law_drawn_shape f__law_heard f__law_by_hand_right f__law_brink_right f__law_right f_law : Addr} {od_power an_power od_all_rows an_all_rows od_inverse an_inverse od_row_by an_row_by od__scaled an__scaled od__less an__less od__echelon an__echelon od__width an__width od_basis an_basis od_rank an_rank od__reduced an__reduced od__lead an__lead od_rest_of an_rest_of od_is_within an_is_within od_members an_members od__law_box an__law_box od__law_take an__law_take od__law_cells an__law_cells od__law_of an__law_of od__law_lists an__law_lists od__law_same an__law_same od__law_plus an__law_plus od__law_unit an__law_unit od__law_tuples an__law_tuples od__law_mixed an__law_mixed od__law_sums an__law_sums od__law_lead an__law_lead od__law_basis an__law_basis od__law_drawn_vectors an__law_drawn_vectors od__law_drawn_shape an__law_drawn_shape od__law_heard an__law_heard od__law_by_hand_right an__law_by_hand_right od__law_brink_right an__law_brink_right od__law_right an__law_right od_law an_law : Option Addr} {sl_power sl_all_rows sl_inverse sl_row_by sl__scaled sl__less sl__echelon sl__width sl_basis sl_rank sl__reduced sl__lead sl_rest_of sl_is_within sl_members sl__law_box sl__law_take sl__law_cells sl__law_of sl__law_lists sl__law_same sl__law_plus sl__law_unit sl__law_tuples sl__law_mixed sl__law_sums sl__law_lead sl__law_basis sl__law_drawn_vectors sl__law_drawn_shape sl__law_heard sl__law_by_hand_right sl__law_brink_right sl__law_right sl_law : Array (Option Value)} {oc_power kV_power dc_power pm_power cd_power ct_power oc_all_rows kV_all_rows dc_all_rows pm_all_rows cd_all_rows ct_all_rows oc_inverse kV_inverse dc_inverse pm_inverse cd_inverse ct_inverse oc_row_by kV_row_by dc_row_by pm_row_by cd_row_by ct_row_by oc__scaled kV__scaled dc__scaled pm__scaled cd__scaled ct__scaled oc__less kV__less dc__less pm__less cd__less ct__less oc__echelon kV__echelon dc__echelon pm__echelon cd__echelon ct__echelon oc__width kV__width dc__width pm__width cd__width ct__width oc_basis kV_basis dc_basis pm_basis cd_basis ct_basis oc_rank kV_rank dc_rank pm_rank cd_rank ct_rank oc__reduced kV__reduced dc__reduced pm__reduced cd__reduced ct__reduced oc__lead kV__lead dc__lead pm__lead cd__lead ct__lead oc_rest_of kV_rest_of dc_rest_of pm_rest_of cd_rest_of ct_rest_of oc_is_within kV_is_within dc_is_within pm_is_within cd_is_within ct_is_within oc_members kV_members dc_members pm_members cd_members ct_members oc__law_box kV__law_box dc__law_box pm__law_box cd__law_box ct__law_box oc__law_take kV__law_take dc__law_take pm__law_take cd__law_take ct__law_take oc__law_cells kV__law_cells dc__law_cells pm__law_cells cd__law_cells ct__law_cells oc__law_of kV__law_of dc__law_of pm__law_of cd__law_of ct__law_of oc__law_lists kV__law_lists dc__law_lists pm__law_lists cd__law_lists ct__law_lists oc__law_same kV__law_same dc__law_same pm__law_same cd__law_same ct__law_same oc__law_plus kV__law_plus dc__law_plus pm__law_plus cd__law_plus ct__law_plus oc__law_unit kV__law_unit dc__law_unit pm__law_unit cd__law_unit ct__law_unit oc__law_tuples kV__law_tuples dc__law_tuples pm__law_tuples cd__law_tuples ct__law_tuples oc__law_mixed kV__law_mixed dc__law_mixed pm__law_mixed cd__law_mixed ct__law_mixed oc__law_sums kV__law_sums dc__law_sums pm__law_sums cd__law_sums ct__law_sums oc__law_lead kV__law_lead dc__law_lead pm__law_lead cd__law_lead ct__law_lead oc__law_basis kV__law_basis dc__law_basis pm__law_basis cd__law_basis ct__law_basis oc__law_drawn_vectors kV__law_drawn_vectors dc__law_drawn_vectors pm__law_drawn_vectors cd__law_drawn_vectors ct__law_drawn_vectors oc__law_drawn_shape kV__law_drawn_shape dc__law_drawn_shape pm__law_drawn_shape cd__law_drawn_shape ct__law_drawn_shape oc__law_heard kV__law_heard dc__law_heard pm__law_heard cd__law_heard ct__law_heard oc__law_by_hand_right kV__law_by_hand_right dc__law_by_hand_right pm__law_by_hand_right cd__law_by_hand_right ct__law_by_hand_right oc__law_brink_right kV__law_brink_right dc__law_brink_right pm__law_brink_right cd__law_brink_right ct__law_brink_right oc__law_right kV__law_right dc__law_right pm__law_right cd__law_right ct__law_right oc_law kV_law dc_law pm_law cd_law ct_law : Value} {C_TooMany : Addr} {C_Unfit : Addr} (X : K.In h) (G : h.Ns mainGlobals mg) (hfa : mg "law" = some (.ref fa))
    (a_power : PySem.W.nsIn K mainGlobals "power" = some (some (.ref f_power))) (l_power : K.lookup f_power = some ⟨oc_power, od_power, .func (PySem.W.fnOf "power" "power" (defArgs s_power) (defBody s_power) (defScope s_power) .none kV_power dc_power pm_power an_power cd_power ct_power), sl_power⟩) (c_power : PySem.W.codeIn K cd_power "power" = true) (k_power : PySem.W.keepIn K (.ref f_power) = true)
    (a_all_rows : PySem.W.nsIn K mainGlobals "all_rows" = some (some (.ref f_all_rows))) (l_all_rows : K.lookup f_all_rows = some ⟨oc_all_rows, od_all_rows, .func (PySem.W.fnOf "all_rows" "all_rows" (defArgs s_all_rows) (defBody s_all_rows) (defScope s_all_rows) .none kV_all_rows dc_all_rows pm_all_rows an_all_rows cd_all_rows ct_all_rows), sl_all_rows⟩) (c_all_rows : PySem.W.codeIn K cd_all_rows "all_rows" = true) (k_all_rows : PySem.W.keepIn K (.ref f_all_rows) = true)
    (a_inverse : PySem.W.nsIn K mainGlobals "inverse" = some (some (.ref f_inverse))) (l_inverse : K.lookup f_inverse = some ⟨oc_inverse, od_inverse, .func (PySem.W.fnOf "inverse" "inverse" (defArgs s_inverse) (defBody s_inverse) (defScope s_inverse) .none kV_inverse dc_inverse pm_inverse an_inverse cd_inverse ct_inverse), sl_inverse⟩) (c_inverse : PySem.W.codeIn K cd_inverse "inverse" = true) (k_inverse : PySem.W.keepIn K (.ref f_inverse) = true)
    (a_row_by : PySem.W.nsIn K mainGlobals "row_by" = some (some (.ref f_row_by))) (l_row_by : K.lookup f_row_by = some ⟨oc_row_by, od_row_by, .func (PySem.W.fnOf "row_by" "row_by" (defArgs s_row_by) (defBody s_row_by) (defScope s_row_by) .none kV_row_by dc_row_by pm_row_by an_row_by cd_row_by ct_row_by), sl_row_by⟩) (c_row_by : PySem.W.codeIn K cd_row_by "row_by" = true) (k_row_by : PySem.W.keepIn K (.ref f_row_by) = true)
    (a__scaled : PySem.W.nsIn K mainGlobals "_scaled" = some (some (.ref f__scaled))) (l__scaled : K.lookup f__scaled = some ⟨oc__scaled, od__scaled, .func (PySem.W.fnOf "_scaled" "_scaled" (defArgs s__scaled) (defBody s__scaled) (defScope s__scaled) .none kV__scaled dc__scaled pm__scaled an__scaled cd__scaled ct__scaled), sl__scaled⟩) (c__scaled : PySem.W.codeIn K cd__scaled "_scaled" = true) (k__scaled : PySem.W.keepIn K (.ref f__scaled) = true)
    (a__less : PySem.W.nsIn K mainGlobals "_less" = some (some (.ref f__less))) (l__less : K.lookup f__less = some ⟨oc__less, od__less, .func (PySem.W.fnOf "_less" "_less" (defArgs s__less) (defBody s__less) (defScope s__less) .none kV__less dc__less pm__less an__less cd__less ct__less), sl__less⟩) (c__less : PySem.W.codeIn K cd__less "_less" = true) (k__less : PySem.W.keepIn K (.ref f__less) = true)
    (a__echelon : PySem.W.nsIn K mainGlobals "_echelon" = some (some (.ref f__echelon))) (l__echelon : K.lookup f__echelon = some ⟨oc__echelon, od__echelon, .func (PySem.W.fnOf "_echelon" "_echelon" (defArgs s__echelon) (defBody s__echelon) (defScope s__echelon) .none kV__echelon dc__echelon pm__echelon an__echelon cd__echelon ct__echelon), sl__echelon⟩) (c__echelon : PySem.W.codeIn K cd__echelon "_echelon" = true) (k__echelon : PySem.W.keepIn K (.ref f__echelon) = true)
    (a__width : PySem.W.nsIn K mainGlobals "_width" = some (some (.ref f__width))) (l__width : K.lookup f__width = some ⟨oc__width, od__width, .func (PySem.W.fnOf "_width" "_width" (defArgs s__width) (defBody s__width) (defScope s__width) .none kV__width dc__width pm__width an__width cd__width ct__width), sl__width⟩) (c__width : PySem.W.codeIn K cd__width "_width" = true) (k__width : PySem.W.keepIn K (.ref f__width) = true)
    (a_basis : PySem.W.nsIn K mainGlobals "basis" = some (some (.ref f_basis))) (l_basis : K.lookup f_basis = some ⟨oc_basis, od_basis, .func (PySem.W.fnOf "basis" "basis" (defArgs s_basis) (defBody s_basis) (defScope s_basis) .none kV_basis dc_basis pm_basis an_basis cd_basis ct_basis), sl_basis⟩) (c_basis : PySem.W.codeIn K cd_basis "basis" = true) (k_basis : PySem.W.keepIn K (.ref f_basis) = true)
    (a_rank : PySem.W.nsIn K mainGlobals "rank" = some (some (.ref f_rank))) (l_rank : K.lookup f_rank = some ⟨oc_rank, od_rank, .func (PySem.W.fnOf "rank" "rank" (defArgs s_rank) (defBody s_rank) (defScope s_rank) .none kV_rank dc_rank pm_rank an_rank cd_rank ct_rank), sl_rank⟩) (c_rank : PySem.W.codeIn K cd_rank "rank" = true) (k_rank : PySem.W.keepIn K (.ref f_rank) = true)
    (a__reduced : PySem.W.nsIn K mainGlobals "_reduced" = some (some (.ref f__reduced))) (l__reduced : K.lookup f__reduced = some ⟨oc__reduced, od__reduced, .func (PySem.W.fnOf "_reduced" "_reduced" (defArgs s__reduced) (defBody s__reduced) (defScope s__reduced) .none kV__reduced dc__reduced pm__reduced an__reduced cd__reduced ct__reduced), sl__reduced⟩) (c__reduced : PySem.W.codeIn K cd__reduced "_reduced" = true) (k__reduced : PySem.W.keepIn K (.ref f__reduced) = true)
    (a__lead : PySem.W.nsIn K mainGlobals "_lead" = some (some (.ref f__lead))) (l__lead : K.lookup f__lead = some ⟨oc__lead, od__lead, .func (PySem.W.fnOf "_lead" "_lead" (defArgs s__lead) (defBody s__lead) (defScope s__lead) .none kV__lead dc__lead pm__lead an__lead cd__lead ct__lead), sl__lead⟩) (c__lead : PySem.W.codeIn K cd__lead "_lead" = true) (k__lead : PySem.W.keepIn K (.ref f__lead) = true)
    (a_rest_of : PySem.W.nsIn K mainGlobals "rest_of" = some (some (.ref f_rest_of))) (l_rest_of : K.lookup f_rest_of = some ⟨oc_rest_of, od_rest_of, .func (PySem.W.fnOf "rest_of" "rest_of" (defArgs s_rest_of) (defBody s_rest_of) (defScope s_rest_of) .none kV_rest_of dc_rest_of pm_rest_of an_rest_of cd_rest_of ct_rest_of), sl_rest_of⟩) (c_rest_of : PySem.W.codeIn K cd_rest_of "rest_of" = true) (k_rest_of : PySem.W.keepIn K (.ref f_rest_of) = true)
    (a_is_within : PySem.W.nsIn K mainGlobals "is_within" = some (some (.ref f_is_within))) (l_is_within : K.lookup f_is_within = some ⟨oc_is_within, od_is_within, .func (PySem.W.fnOf "is_within" "is_within" (defArgs s_is_within) (defBody s_is_within) (defScope s_is_within) .none kV_is_within dc_is_within pm_is_within an_is_within cd_is_within ct_is_within), sl_is_within⟩) (c_is_within : PySem.W.codeIn K cd_is_within "is_within" = true) (k_is_within : PySem.W.keepIn K (.ref f_is_within) = true)
    (a_members : PySem.W.nsIn K mainGlobals "members" = some (some (.ref f_members))) (l_members : K.lookup f_members = some ⟨oc_members, od_members, .func (PySem.W.fnOf "members" "members" (defArgs s_members) (defBody s_members) (defScope s_members) .none kV_members dc_members pm_members an_members cd_members ct_members), sl_members⟩) (c_members : PySem.W.codeIn K cd_members "members" = true) (k_members : PySem.W.keepIn K (.ref f_members) = true)
    (a__law_box : PySem.W.nsIn K mainGlobals "_law_box" = some (some (.ref f__law_box))) (l__law_box : K.lookup f__law_box = some ⟨oc__law_box, od__law_box, .func (PySem.W.fnOf "_law_box" "_law_box" (defArgs s__law_box) (defBody s__law_box) (defScope s__law_box) .none kV__law_box dc__law_box pm__law_box an__law_box cd__law_box ct__law_box), sl__law_box⟩) (c__law_box : PySem.W.codeIn K cd__law_box "_law_box" = true) (k__law_box : PySem.W.keepIn K (.ref f__law_box) = true)
    (a__law_take : PySem.W.nsIn K mainGlobals "_law_take" = some (some (.ref f__law_take))) (l__law_take : K.lookup f__law_take = some ⟨oc__law_take, od__law_take, .func (PySem.W.fnOf "_law_take" "_law_take" (defArgs s__law_take) (defBody s__law_take) (defScope s__law_take) .none kV__law_take dc__law_take pm__law_take an__law_take cd__law_take ct__law_take), sl__law_take⟩) (c__law_take : PySem.W.codeIn K cd__law_take "_law_take" = true) (k__law_take : PySem.W.keepIn K (.ref f__law_take) = true)
    (a__law_cells : PySem.W.nsIn K mainGlobals "_law_cells" = some (some (.ref f__law_cells))) (l__law_cells : K.lookup f__law_cells = some ⟨oc__law_cells, od__law_cells, .func (PySem.W.fnOf "_law_cells" "_law_cells" (defArgs s__law_cells) (defBody s__law_cells) (defScope s__law_cells) .none kV__law_cells dc__law_cells pm__law_cells an__law_cells cd__law_cells ct__law_cells), sl__law_cells⟩) (c__law_cells : PySem.W.codeIn K cd__law_cells "_law_cells" = true) (k__law_cells : PySem.W.keepIn K (.ref f__law_cells) = true)
    (a__law_of : PySem.W.nsIn K mainGlobals "_law_of" = some (some (.ref f__law_of))) (l__law_of : K.lookup f__law_of = some ⟨oc__law_of, od__law_of, .func (PySem.W.fnOf "_law_of" "_law_of" (defArgs s__law_of) (defBody s__law_of) (defScope s__law_of) .none kV__law_of dc__law_of pm__law_of an__law_of cd__law_of ct__law_of), sl__law_of⟩) (c__law_of : PySem.W.codeIn K cd__law_of "_law_of" = true) (k__law_of : PySem.W.keepIn K (.ref f__law_of) = true)
    (a__law_lists : PySem.W.nsIn K mainGlobals "_law_lists" = some (some (.ref f__law_lists))) (l__law_lists : K.lookup f__law_lists = some ⟨oc__law_lists, od__law_lists, .func (PySem.W.fnOf "_law_lists" "_law_lists" (defArgs s__law_lists) (defBody s__law_lists) (defScope s__law_lists) .none kV__law_lists dc__law_lists pm__law_lists an__law_lists cd__law_lists ct__law_lists), sl__law_lists⟩) (c__law_lists : PySem.W.codeIn K cd__law_lists "_law_lists" = true) (k__law_lists : PySem.W.keepIn K (.ref f__law_lists) = true)
    (a__law_same : PySem.W.nsIn K mainGlobals "_law_same" = some (some (.ref f__law_same))) (l__law_same : K.lookup f__law_same = some ⟨oc__law_same, od__law_same, .func (PySem.W.fnOf "_law_same" "_law_same" (defArgs s__law_same) (defBody s__law_same) (defScope s__law_same) .none kV__law_same dc__law_same pm__law_same an__law_same cd__law_same ct__law_same), sl__law_same⟩) (c__law_same : PySem.W.codeIn K cd__law_same "_law_same" = true) (k__law_same : PySem.W.keepIn K (.ref f__law_same) = true)
    (a__law_plus : PySem.W.nsIn K mainGlobals "_law_plus" = some (some (.ref f__law_plus))) (l__law_plus : K.lookup f__law_plus = some ⟨oc__law_plus, od__law_plus, .func (PySem.W.fnOf "_law_plus" "_law_plus" (defArgs s__law_plus) (defBody s__law_plus) (defScope s__law_plus) .none kV__law_plus dc__law_plus pm__law_plus an__law_plus cd__law_plus ct__law_plus), sl__law_plus⟩) (c__law_plus : PySem.W.codeIn K cd__law_plus "_law_plus" = true) (k__law_plus : PySem.W.keepIn K (.ref f__law_plus) = true)
    (a__law_unit : PySem.W.nsIn K mainGlobals "_law_unit" = some (some (.ref f__law_unit))) (l__law_unit : K.lookup f__law_unit = some ⟨oc__law_unit, od__law_unit, .func (PySem.W.fnOf "_law_unit" "_law_unit" (defArgs s__law_unit) (defBody s__law_unit) (defScope s__law_unit) .none kV__law_unit dc__law_unit pm__law_unit an__law_unit cd__law_unit ct__law_unit), sl__law_unit⟩) (c__law_unit : PySem.W.codeIn K cd__law_unit "_law_unit" = true) (k__law_unit : PySem.W.keepIn K (.ref f__law_unit) = true)
    (a__law_tuples : PySem.W.nsIn K mainGlobals "_law_tuples" = some (some (.ref f__law_tuples))) (l__law_tuples : K.lookup f__law_tuples = some ⟨oc__law_tuples, od__law_tuples, .func (PySem.W.fnOf "_law_tuples" "_law_tuples" (defArgs s__law_tuples) (defBody s__law_tuples) (defScope s__law_tuples) .none kV__law_tuples dc__law_tuples pm__law_tuples an__law_tuples cd__law_tuples ct__law_tuples), sl__law_tuples⟩) (c__law_tuples : PySem.W.codeIn K cd__law_tuples "_law_tuples" = true) (k__law_tuples : PySem.W.keepIn K (.ref f__law_tuples) = true)
    (a__law_mixed : PySem.W.nsIn K mainGlobals "_law_mixed" = some (some (.ref f__law_mixed))) (l__law_mixed : K.lookup f__law_mixed = some ⟨oc__law_mixed, od__law_mixed, .func (PySem.W.fnOf "_law_mixed" "_law_mixed" (defArgs s__law_mixed) (defBody s__law_mixed) (defScope s__law_mixed) .none kV__law_mixed dc__law_mixed pm__law_mixed an__law_mixed cd__law_mixed ct__law_mixed), sl__law_mixed⟩) (c__law_mixed : PySem.W.codeIn K cd__law_mixed "_law_mixed" = true) (k__law_mixed : PySem.W.keepIn K (.ref f__law_mixed) = true)
    (a__law_sums : PySem.W.nsIn K mainGlobals "_law_sums" = some (some (.ref f__law_sums))) (l__law_sums : K.lookup f__law_sums = some ⟨oc__law_sums, od__law_sums, .func (PySem.W.fnOf "_law_sums" "_law_sums" (defArgs s__law_sums) (defBody s__law_sums) (defScope s__law_sums) .none kV__law_sums dc__law_sums pm__law_sums an__law_sums cd__law_sums ct__law_sums), sl__law_sums⟩) (c__law_sums : PySem.W.codeIn K cd__law_sums "_law_sums" = true) (k__law_sums : PySem.W.keepIn K (.ref f__law_sums) = true)
    (a__law_lead : PySem.W.nsIn K mainGlobals "_law_lead" = some (some (.ref f__law_lead))) (l__law_lead : K.lookup f__law_lead = some ⟨oc__law_lead, od__law_lead, .func (PySem.W.fnOf "_law_lead" "_law_lead" (defArgs s__law_lead) (defBody s__law_lead) (defScope s__law_lead) .none kV__law_lead dc__law_lead pm__law_lead an__law_lead cd__law_lead ct__law_lead), sl__law_lead⟩) (c__law_lead : PySem.W.codeIn K cd__law_lead "_law_lead" = true) (k__law_lead : PySem.W.keepIn K (.ref f__law_lead) = true)
    (a__law_basis : PySem.W.nsIn K mainGlobals "_law_basis" = some (some (.ref f__law_basis))) (l__law_basis : K.lookup f__law_basis = some ⟨oc__law_basis, od__law_basis, .func (PySem.W.fnOf "_law_basis" "_law_basis" (defArgs s__law_basis) (defBody s__law_basis) (defScope s__law_basis) .none kV__law_basis dc__law_basis pm__law_basis an__law_basis cd__law_basis ct__law_basis), sl__law_basis⟩) (c__law_basis : PySem.W.codeIn K cd__law_basis "_law_basis" = true) (k__law_basis : PySem.W.keepIn K (.ref f__law_basis) = true)
    (a__law_drawn_vectors : PySem.W.nsIn K mainGlobals "_law_drawn_vectors" = some (some (.ref f__law_drawn_vectors))) (l__law_drawn_vectors : K.lookup f__law_drawn_vectors = some ⟨oc__law_drawn_vectors, od__law_drawn_vectors, .func (PySem.W.fnOf "_law_drawn_vectors" "_law_drawn_vectors" (defArgs s__law_drawn_vectors) (defBody s__law_drawn_vectors) (defScope s__law_drawn_vectors) .none kV__law_drawn_vectors dc__law_drawn_vectors pm__law_drawn_vectors an__law_drawn_vectors cd__law_drawn_vectors ct__law_drawn_vectors), sl__law_drawn_vectors⟩) (c__law_drawn_vectors : PySem.W.codeIn K cd__law_drawn_vectors "_law_drawn_vectors" = true) (k__law_drawn_vectors : PySem.W.keepIn K (.ref f__law_drawn_vectors) = true)
    (a__law_drawn_shape : PySem.W.nsIn K mainGlobals "_law_drawn_shape" = some (some (.ref f__law_drawn_shape))) (l__law_drawn_shape : K.lookup f__law_drawn_shape = some ⟨oc__law_drawn_shape, od__law_drawn_shape, .func (PySem.W.fnOf "_law_drawn_shape" "_law_drawn_shape" (defArgs s__law_drawn_shape) (defBody s__law_drawn_shape) (defScope s__law_drawn_shape) .none kV__law_drawn_shape dc__law_drawn_shape pm__law_drawn_shape an__law_drawn_shape cd__law_drawn_shape ct__law_drawn_shape), sl__law_drawn_shape⟩) (c__law_drawn_shape : PySem.W.codeIn K cd__law_drawn_shape "_law_drawn_shape" = true) (k__law_drawn_shape : PySem.W.keepIn K (.ref f__law_drawn_shape) = true)
    (a__law_heard : PySem.W.nsIn K mainGlobals "_law_heard" = some (some (.ref f__law_heard))) (l__law_heard : K.lookup f__law_heard = some ⟨oc__law_heard, od__law_heard, .func (PySem.W.fnOf "_law_heard" "_law_heard" (defArgs s__law_heard) (defBody s__law_heard) (defScope s__law_heard) .none kV__law_heard dc__law_heard pm__law_heard an__law_heard cd__law_heard ct__law_heard), sl__law_heard⟩) (c__law_heard : PySem.W.codeIn K cd__law_heard "_law_heard" = true) (k__law_heard : PySem.W.keepIn K (.ref f__law_heard) = true)
    (a__law_by_hand_right : PySem.W.nsIn K mainGlobals "_law_by_hand_right" = some (some (.ref f__law_by_hand_right))) (l__law_by_hand_right : K.lookup f__law_by_hand_right = some ⟨oc__law_by_hand_right, od__law_by_hand_right, .func (PySem.W.fnOf "_law_by_hand_right" "_law_by_hand_right" (defArgs s__law_by_hand_right) (defBody s__law_by_hand_right) (defScope s__law_by_hand_right) .none kV__law_by_hand_right dc__law_by_hand_right pm__law_by_hand_right an__law_by_hand_right cd__law_by_hand_right ct__law_by_hand_right), sl__law_by_hand_right⟩) (c__law_by_hand_right : PySem.W.codeIn K cd__law_by_hand_right "_law_by_hand_right" = true) (k__law_by_hand_right : PySem.W.keepIn K (.ref f__law_by_hand_right) = true)
    (a__law_brink_right : PySem.W.nsIn K mainGlobals "_law_brink_right" = some (some (.ref f__law_brink_right))) (l__law_brink_right : K.lookup f__law_brink_right = some ⟨oc__law_brink_right, od__law_brink_right, .func (PySem.W.fnOf "_law_brink_right" "_law_brink_right" (defArgs s__law_brink_right) (defBody s__law_brink_right) (defScope s__law_brink_right) .none kV__law_brink_right dc__law_brink_right pm__law_brink_right an__law_brink_right cd__law_brink_right ct__law_brink_right), sl__law_brink_right⟩) (c__law_brink_right : PySem.W.codeIn K cd__law_brink_right "_law_brink_right" = true) (k__law_brink_right : PySem.W.keepIn K (.ref f__law_brink_right) = true)
    (a__law_right : PySem.W.nsIn K mainGlobals "_law_right" = some (some (.ref f__law_right))) (l__law_right : K.lookup f__law_right = some ⟨oc__law_right, od__law_right, .func (PySem.W.fnOf "_law_right" "_law_right" (defArgs s__law_right) (defBody s__law_right) (defScope s__law_right) .none kV__law_right dc__law_right pm__law_right an__law_right cd__law_right ct__law_right), sl__law_right⟩) (c__law_right : PySem.W.codeIn K cd__law_right "_law_right" = true) (k__law_right : PySem.W.keepIn K (.ref f__law_right) = true)
    (a_law : PySem.W.nsIn K mainGlobals "law" = some (some (.ref f_law))) (l_law : K.lookup f_law = some ⟨oc_law, od_law, .func (PySem.W.fnOf "law" "law" (defArgs s_law) (defBody s_law) (defScope s_law) .none kV_law dc_law pm_law an_law cd_law ct_law), sl_law⟩) (c_law : PySem.W.codeIn K cd_law "law" = true) (k_law : PySem.W.keepIn K (.ref f_law) = true)
    (xg_TooMany : PySem.W.nsIn K mainGlobals "TooMany" = some (some (.ref C_TooMany))) (xq_TooMany : PySem.W.excIn K C_TooMany [.type "ValueError", .type "Exception", .type "BaseException", .type "object"] "ValueError.__new__" = true) (xk_TooMany : PySem.W.keepIn K (.ref C_TooMany) = true) (xb_TooMany : PySem.W.subIn K (.ref C_TooMany) (.type "BaseException") = some true) (xt_TooMany : PySem.W.typeIn K (.ref C_TooMany) = some (.type "type"))
    (xc1_TooMany : PySem.W.findIn K (.ref C_TooMany) "__getattribute__" = some (some (.builtin "BaseException.__getattribute__"))) (xc2_TooMany : PySem.W.findIn K (.ref C_TooMany) "__getattr__" = some none) (xc3_TooMany : PySem.W.hasDictIn K C_TooMany = true) (xc4_TooMany : PySem.W.findIn K (.ref C_TooMany) "__class__" = some (some (.builtin "object.__class__"))) (xc5_TooMany : PySem.W.specialIn K (.builtin "object.__class__") "__get__" = some (some (.builtin "getset_descriptor.__get__"))) (xc6_TooMany : PySem.W.takesIn K (.builtin "object.__class__") = some true) (xc7_TooMany : PySem.W.mroIn K C_TooMany (.type "object") = some true) (xs_TooMany : PySem.W.subIn K (.ref C_TooMany) (.ref C_TooMany) = some true) (xv_TooMany : PySem.W.subIn K (.ref C_TooMany) (.type "ValueError") = some true)
    (xg_Unfit : PySem.W.nsIn K mainGlobals "Unfit" = some (some (.ref C_Unfit))) (xq_Unfit : PySem.W.excIn K C_Unfit [.type "ValueError", .type "Exception", .type "BaseException", .type "object"] "ValueError.__new__" = true) (xk_Unfit : PySem.W.keepIn K (.ref C_Unfit) = true) (xb_Unfit : PySem.W.subIn K (.ref C_Unfit) (.type "BaseException") = some true) (xt_Unfit : PySem.W.typeIn K (.ref C_Unfit) = some (.type "type"))
    (xc1_Unfit : PySem.W.findIn K (.ref C_Unfit) "__getattribute__" = some (some (.builtin "BaseException.__getattribute__"))) (xc2_Unfit : PySem.W.findIn K (.ref C_Unfit) "__getattr__" = some none) (xc3_Unfit : PySem.W.hasDictIn K C_Unfit = true) (xc4_Unfit : PySem.W.findIn K (.ref C_Unfit) "__class__" = some (some (.builtin "object.__class__"))) (xc5_Unfit : PySem.W.specialIn K (.builtin "object.__class__") "__get__" = some (some (.builtin "getset_descriptor.__get__"))) (xc6_Unfit : PySem.W.takesIn K (.builtin "object.__class__") = some true) (xc7_Unfit : PySem.W.mroIn K C_Unfit (.type "object") = some true) (xs_Unfit : PySem.W.subIn K (.ref C_Unfit) (.ref C_Unfit) = some true) (xv_Unfit : PySem.W.subIn K (.ref C_Unfit) (.type "ValueError") = some true)
    (z_ValueError : PySem.W.nsIn K mainGlobals "ValueError" = some none) (z_abs : PySem.W.nsIn K mainGlobals "abs" = some none) (z_all : PySem.W.nsIn K mainGlobals "all" = some none) (z_any : PySem.W.nsIn K mainGlobals "any" = some none) (z_bool : PySem.W.nsIn K mainGlobals "bool" = some none) (z_enumerate : PySem.W.nsIn K mainGlobals "enumerate" = some none) (z_int : PySem.W.nsIn K mainGlobals "int" = some none) (z_isinstance : PySem.W.nsIn K mainGlobals "isinstance" = some none) (z_len : PySem.W.nsIn K mainGlobals "len" = some none) (z_list : PySem.W.nsIn K mainGlobals "list" = some none) (z_range : PySem.W.nsIn K mainGlobals "range" = some none) (z_set : PySem.W.nsIn K mainGlobals "set" = some none) (z_sorted : PySem.W.nsIn K mainGlobals "sorted" = some none) (z_str : PySem.W.nsIn K mainGlobals "str" = some none) (z_tuple : PySem.W.nsIn K mainGlobals "tuple" = some none) (z_zip : PySem.W.nsIn K mainGlobals "zip" = some none) :
    ∃ fd : FuncData, (∀ (s : Shared) (v : Value), BindsTo s fd ⟨[v], []⟩ [("script", v)]) ∧ ∀ base : Heap, K.In base → base.Ns mainGlobals mg → FnOk l.prog w K mg base (L2.CX l.prog w) 10 fa fd ["script"] (spL K) := by
  have e := hfa.symm.trans (PySem.W.mg_of X G a_law)
  cases e
  have F_power := fun_mk (st := s_power) l_power c_power k_power
  have b_power := F_power.binds (ps := ["base", "many"]) fun _ _ _ _ _ _ us hl => match us, hl with | [_, _], _ => rfl
  have e_power := PySem.W.mg_of X G a_power
  have F_all_rows := fun_mk (st := s_all_rows) l_all_rows c_all_rows k_all_rows
  have b_all_rows := F_all_rows.binds (ps := ["prime", "length"]) fun _ _ _ _ _ _ us hl => match us, hl with | [_, _], _ => rfl
  have e_all_rows := PySem.W.mg_of X G a_all_rows
  have F_inverse := fun_mk (st := s_inverse) l_inverse c_inverse k_inverse
  have b_inverse := F_inverse.binds (ps := ["prime", "residue"]) fun _ _ _ _ _ _ us hl => match us, hl with | [_, _], _ => rfl
  have e_inverse := PySem.W.mg_of X G a_inverse
  have F_row_by := fun_mk (st := s_row_by) l_row_by c_row_by k_row_by
  have b_row_by := F_row_by.binds (ps := ["prime", "rows", "factors", "length"]) fun _ _ _ _ _ _ us hl => match us, hl with | [_, _, _, _], _ => rfl
  have e_row_by := PySem.W.mg_of X G a_row_by
  have F__scaled := fun_mk (st := s__scaled) l__scaled c__scaled k__scaled
  have b__scaled := F__scaled.binds (ps := ["prime", "row", "factor"]) fun _ _ _ _ _ _ us hl => match us, hl with | [_, _, _], _ => rfl
  have e__scaled := PySem.W.mg_of X G a__scaled
  have F__less := fun_mk (st := s__less) l__less c__less k__less
  have b__less := F__less.binds (ps := ["prime", "row", "other", "factor"]) fun _ _ _ _ _ _ us hl => match us, hl with | [_, _, _, _], _ => rfl
  have e__less := PySem.W.mg_of X G a__less
  have F__echelon := fun_mk (st := s__echelon) l__echelon c__echelon k__echelon
  have b__echelon := F__echelon.binds (ps := ["prime", "rows", "width"]) fun _ _ _ _ _ _ us hl => match us, hl with | [_, _, _], _ => rfl
  have e__echelon := PySem.W.mg_of X G a__echelon
  have F__width := fun_mk (st := s__width) l__width c__width k__width
  have b__width := F__width.binds (ps := ["rows"]) fun _ _ _ _ _ _ us hl => match us, hl with | [_], _ => rfl
  have e__width := PySem.W.mg_of X G a__width
  have F_basis := fun_mk (st := s_basis) l_basis c_basis k_basis
  have b_basis := F_basis.binds (ps := ["prime", "rows"]) fun _ _ _ _ _ _ us hl => match us, hl with | [_, _], _ => rfl
  have e_basis := PySem.W.mg_of X G a_basis
  have F_rank := fun_mk (st := s_rank) l_rank c_rank k_rank
  have b_rank := F_rank.binds (ps := ["prime", "rows"]) fun _ _ _ _ _ _ us hl => match us, hl with | [_, _], _ => rfl
  have e_rank := PySem.W.mg_of X G a_rank
  have F__reduced := fun_mk (st := s__reduced) l__reduced c__reduced k__reduced
  have b__reduced := F__reduced.binds (ps := ["prime", "row", "lead_rows"]) fun _ _ _ _ _ _ us hl => match us, hl with | [_, _, _], _ => rfl
  have e__reduced := PySem.W.mg_of X G a__reduced
  have F__lead := fun_mk (st := s__lead) l__lead c__lead k__lead
  have b__lead := F__lead.binds (ps := ["row"]) fun _ _ _ _ _ _ us hl => match us, hl with | [_], _ => rfl
  have e__lead := PySem.W.mg_of X G a__lead
  have F_rest_of := fun_mk (st := s_rest_of) l_rest_of c_rest_of k_rest_of
  have b_rest_of := F_rest_of.binds (ps := ["prime", "row", "rows"]) fun _ _ _ _ _ _ us hl => match us, hl with | [_, _, _], _ => rfl
  have e_rest_of := PySem.W.mg_of X G a_rest_of
  have F_is_within := fun_mk (st := s_is_within) l_is_within c_is_within k_is_within
  have b_is_within := F_is_within.binds (ps := ["prime", "rows", "others"]) fun _ _ _ _ _ _ us hl => match us, hl with | [_, _, _], _ => rfl
  have e_is_within := PySem.W.mg_of X G a_is_within
  have F_members := fun_mk (st := s_members) l_members c_members k_members
  have b_members := F_members.binds (ps := ["prime", "rows", "length"]) fun _ _ _ _ _ _ us hl => match us, hl with | [_, _, _], _ => rfl
  have e_members := PySem.W.mg_of X G a_members
  have F__law_box := fun_mk (st := s__law_box) l__law_box c__law_box k__law_box
  have b__law_box := F__law_box.binds (ps := ["script", "k"]) fun _ _ _ _ _ _ us hl => match us, hl with | [_, _], _ => rfl
  have e__law_box := PySem.W.mg_of X G a__law_box
  have F__law_take := fun_mk (st := s__law_take) l__law_take c__law_take k__law_take
  have b__law_take := F__law_take.binds (ps := ["tin", "below_so"]) fun _ _ _ _ _ _ us hl => match us, hl with | [_, _], _ => rfl
  have e__law_take := PySem.W.mg_of X G a__law_take
  have F__law_cells := fun_mk (st := s__law_cells) l__law_cells c__law_cells k__law_cells
  have b__law_cells := F__law_cells.binds (ps := ["script", "most_so"]) fun _ _ _ _ _ _ us hl => match us, hl with | [_, _], _ => rfl
  have e__law_cells := PySem.W.mg_of X G a__law_cells
  have F__law_of := fun_mk (st := s__law_of) l__law_of c__law_of k__law_of
  have b__law_of := F__law_of.binds (ps := ["tin", "goods_so"]) fun _ _ _ _ _ _ us hl => match us, hl with | [_, _], _ => rfl
  have e__law_of := PySem.W.mg_of X G a__law_of
  have F__law_lists := fun_mk (st := s__law_lists) l__law_lists c__law_lists k__law_lists
  have b__law_lists := F__law_lists.binds (ps := ["matter"]) fun _ _ _ _ _ _ us hl => match us, hl with | [_], _ => rfl
  have e__law_lists := PySem.W.mg_of X G a__law_lists
  have F__law_same := fun_mk (st := s__law_same) l__law_same c__law_same k__law_same
  have b__law_same := F__law_same.binds (ps := ["got", "due"]) fun _ _ _ _ _ _ us hl => match us, hl with | [_, _], _ => rfl
  have e__law_same := PySem.W.mg_of X G a__law_same
  have F__law_plus := fun_mk (st := s__law_plus) l__law_plus c__law_plus k__law_plus
  have b__law_plus := F__law_plus.binds (ps := ["p", "one_so", "two_so", "factor_so"]) fun _ _ _ _ _ _ us hl => match us, hl with | [_, _, _, _], _ => rfl
  have e__law_plus := PySem.W.mg_of X G a__law_plus
  have F__law_unit := fun_mk (st := s__law_unit) l__law_unit c__law_unit k__law_unit
  have b__law_unit := F__law_unit.binds (ps := ["wide_so", "at_so"]) fun _ _ _ _ _ _ us hl => match us, hl with | [_, _], _ => rfl
  have e__law_unit := PySem.W.mg_of X G a__law_unit
  have F__law_tuples := fun_mk (st := s__law_tuples) l__law_tuples c__law_tuples k__law_tuples
  have b__law_tuples := F__law_tuples.binds (ps := ["p", "count_so"]) fun _ _ _ _ _ _ us hl => match us, hl with | [_, _], _ => rfl
  have e__law_tuples := PySem.W.mg_of X G a__law_tuples
  have F__law_mixed := fun_mk (st := s__law_mixed) l__law_mixed c__law_mixed k__law_mixed
  have b__law_mixed := F__law_mixed.binds (ps := ["p", "vectors_so", "factors_so", "wide_so"]) fun _ _ _ _ _ _ us hl => match us, hl with | [_, _, _, _], _ => rfl
  have e__law_mixed := PySem.W.mg_of X G a__law_mixed
  have F__law_sums := fun_mk (st := s__law_sums) l__law_sums c__law_sums k__law_sums
  have b__law_sums := F__law_sums.binds (ps := ["p", "vectors_so", "wide_so"]) fun _ _ _ _ _ _ us hl => match us, hl with | [_, _, _], _ => rfl
  have e__law_sums := PySem.W.mg_of X G a__law_sums
  have F__law_lead := fun_mk (st := s__law_lead) l__law_lead c__law_lead k__law_lead
  have b__law_lead := F__law_lead.binds (ps := ["own"]) fun _ _ _ _ _ _ us hl => match us, hl with | [_], _ => rfl
  have e__law_lead := PySem.W.mg_of X G a__law_lead
  have F__law_basis := fun_mk (st := s__law_basis) l__law_basis c__law_basis k__law_basis
  have b__law_basis := F__law_basis.binds (ps := ["p", "vectors_so", "wide_so"]) fun _ _ _ _ _ _ us hl => match us, hl with | [_, _, _], _ => rfl
  have e__law_basis := PySem.W.mg_of X G a__law_basis
  have F__law_drawn_vectors := fun_mk (st := s__law_drawn_vectors) l__law_drawn_vectors c__law_drawn_vectors k__law_drawn_vectors
  have b__law_drawn_vectors := F__law_drawn_vectors.binds (ps := ["tin", "p", "count_so", "wide_so"]) fun _ _ _ _ _ _ us hl => match us, hl with | [_, _, _, _], _ => rfl
  have e__law_drawn_vectors := PySem.W.mg_of X G a__law_drawn_vectors
  have F__law_drawn_shape := fun_mk (st := s__law_drawn_shape) l__law_drawn_shape c__law_drawn_shape k__law_drawn_shape
  have b__law_drawn_shape := F__law_drawn_shape.binds (ps := ["tin"]) fun _ _ _ _ _ _ us hl => match us, hl with | [_], _ => rfl
  have e__law_drawn_shape := PySem.W.mg_of X G a__law_drawn_shape
  have F__law_heard := fun_mk (st := s__law_heard) l__law_heard c__law_heard k__law_heard
  have b__law_heard := F__law_heard.binds (ps := ["p", "vectors_so", "wide_so"]) fun _ _ _ _ _ _ us hl => match us, hl with | [_, _, _], _ => rfl
  have e__law_heard := PySem.W.mg_of X G a__law_heard
  have F__law_by_hand_right := fun_mk (st := s__law_by_hand_right) l__law_by_hand_right c__law_by_hand_right k__law_by_hand_right
  have b__law_by_hand_right := F__law_by_hand_right.binds (ps := []) fun _ _ _ _ _ _ us hl => match us, hl with | [], _ => rfl
  have e__law_by_hand_right := PySem.W.mg_of X G a__law_by_hand_right
  have F__law_brink_right := fun_mk (st := s__law_brink_right) l__law_brink_right c__law_brink_right k__law_brink_right
  have b__law_brink_right := F__law_brink_right.binds (ps := []) fun _ _ _ _ _ _ us hl => match us, hl with | [], _ => rfl
  have e__law_brink_right := PySem.W.mg_of X G a__law_brink_right
  have F__law_right := fun_mk (st := s__law_right) l__law_right c__law_right k__law_right
  have b__law_right := F__law_right.binds (ps := ["tin"]) fun _ _ _ _ _ _ us hl => match us, hl with | [_], _ => rfl
  have e__law_right := PySem.W.mg_of X G a__law_right
  have F_law := fun_mk (st := s_law) l_law c_law k_law
  have e_law := PySem.W.mg_of X G a_law
  have m_ValueError := PySem.W.mg_none_of X G z_ValueError
  have m_abs := PySem.W.mg_none_of X G z_abs
  have m_all := PySem.W.mg_none_of X G z_all
  have m_any := PySem.W.mg_none_of X G z_any
  have m_bool := PySem.W.mg_none_of X G z_bool
  have m_enumerate := PySem.W.mg_none_of X G z_enumerate
  have m_int := PySem.W.mg_none_of X G z_int
  have m_isinstance := PySem.W.mg_none_of X G z_isinstance
  have m_len := PySem.W.mg_none_of X G z_len
  have m_list := PySem.W.mg_none_of X G z_list
  have m_range := PySem.W.mg_none_of X G z_range
  have m_set := PySem.W.mg_none_of X G z_set
  have m_sorted := PySem.W.mg_none_of X G z_sorted
  have m_str := PySem.W.mg_none_of X G z_str
  have m_tuple := PySem.W.mg_none_of X G z_tuple
  have m_zip := PySem.W.mg_none_of X G z_zip
  have X_TooMany : ExcT K mg "TooMany" C_TooMany _ _ _ _ := ⟨PySem.F.excBase_ValueError, xq_TooMany, PySem.W.mg_of X G xg_TooMany, xk_TooMany, xb_TooMany, xt_TooMany⟩
  have Xc_TooMany : ExcC K C_TooMany := ⟨xc1_TooMany, xc2_TooMany, xb_TooMany, xc3_TooMany, xc4_TooMany, xc5_TooMany, xc6_TooMany, xc7_TooMany⟩
  have Xs_TooMany := PySem.W.exm_ref xb_TooMany xc3_TooMany xt_TooMany xs_TooMany
  have Xk_TooMany := kit_exc (K := K) (C := C_TooMany) (T := "ValueError") (by decide +kernel) xv_TooMany
  have X_Unfit : ExcT K mg "Unfit" C_Unfit _ _ _ _ := ⟨PySem.F.excBase_ValueError, xq_Unfit, PySem.W.mg_of X G xg_Unfit, xk_Unfit, xb_Unfit, xt_Unfit⟩
  have Xc_Unfit : ExcC K C_Unfit := ⟨xc1_Unfit, xc2_Unfit, xb_Unfit, xc3_Unfit, xc4_Unfit, xc5_Unfit, xc6_Unfit, xc7_Unfit⟩
  have Xs_Unfit := PySem.W.exm_ref xb_Unfit xc3_Unfit xt_Unfit xs_Unfit
  have Xk_Unfit := kit_exc (K := K) (C := C_Unfit) (T := "ValueError") (by decide +kernel) xv_Unfit
  refine ⟨PySem.W.fnOf "law" "law" (defArgs s_law) (defBody s_law) (defScope s_law) .none kV_law dc_law pm_law an_law cd_law ct_law, fun s v => .of_eq rfl, fun base _ _ => ?_⟩
  have O_power := ok_power (P := l.prog) (w := w) (base := base) (mg := mg) F_power m_range
  have O_all_rows := ok_all_rows (P := l.prog) (w := w) (base := base) (mg := mg) F_all_rows m_range
  have O_inverse := ok_inverse (P := l.prog) (w := w) (base := base) (mg := mg) F_inverse m_range X_Unfit
  have O_row_by := ok_row_by (P := l.prog) (w := w) (base := base) (mg := mg) F_row_by m_tuple m_zip
  have O__scaled := ok__scaled (P := l.prog) (w := w) (base := base) (mg := mg) F__scaled 
  have O__less := ok__less (P := l.prog) (w := w) (base := base) (mg := mg) F__less m_zip
  have O__width := ok__width (P := l.prog) (w := w) (base := base) (mg := mg) F__width m_len
  have O__lead := ok__lead (P := l.prog) (w := w) (base := base) (mg := mg) F__lead m_enumerate
  have O__law_box := ok__law_box (P := l.prog) (w := w) (base := base) (mg := mg) F__law_box m_abs m_int m_len
  have O__law_take := ok__law_take (P := l.prog) (w := w) (base := base) (mg := mg) F__law_take m_int
  have O__law_cells := ok__law_cells (P := l.prog) (w := w) (base := base) (mg := mg) F__law_cells m_enumerate m_int m_list
  have O__law_plus := ok__law_plus (P := l.prog) (w := w) (base := base) (mg := mg) F__law_plus m_int m_tuple m_zip
  have O__law_unit := ok__law_unit (P := l.prog) (w := w) (base := base) (mg := mg) F__law_unit m_int m_range m_tuple
  have O__law_tuples := ok__law_tuples (P := l.prog) (w := w) (base := base) (mg := mg) F__law_tuples m_range
  have O__law_lead := ok__law_lead (P := l.prog) (w := w) (base := base) (mg := mg) F__law_lead m_enumerate
  have O__echelon := ok__echelon (P := l.prog) (w := w) (base := base) (mg := mg) F__echelon O__less e__less k__less b__less O__scaled e__scaled k__scaled b__scaled O_inverse e_inverse k_inverse b_inverse m_len m_list m_range
  have O__reduced := ok__reduced (P := l.prog) (w := w) (base := base) (mg := mg) F__reduced O__lead e__lead k__lead b__lead O__less e__less k__less b__less m_list m_tuple
  have O__law_of := ok__law_of (P := l.prog) (w := w) (base := base) (mg := mg) F__law_of O__law_take e__law_take k__law_take b__law_take m_len
  have O__law_of2 := ok__law_of2 (P := l.prog) (w := w) (base := base) (mg := mg) F__law_of O__law_take e__law_take k__law_take b__law_take m_len
  have O__law_mixed := ok__law_mixed (P := l.prog) (w := w) (base := base) (mg := mg) F__law_mixed O__law_plus e__law_plus k__law_plus b__law_plus m_zip
  have O_basis := ok_basis (P := l.prog) (w := w) (base := base) (mg := mg) F_basis O__echelon e__echelon k__echelon b__echelon O__width e__width k__width b__width m_len m_tuple
  have O_rank := ok_rank (P := l.prog) (w := w) (base := base) (mg := mg) F_rank O__echelon e__echelon k__echelon b__echelon O__width e__width k__width b__width m_len
  have O__law_sums := ok__law_sums (P := l.prog) (w := w) (base := base) (mg := mg) F__law_sums O__law_mixed e__law_mixed k__law_mixed b__law_mixed O__law_tuples e__law_tuples k__law_tuples b__law_tuples m_len m_sorted
  have O__law_drawn_vectors := ok__law_drawn_vectors (P := l.prog) (w := w) (base := base) (mg := mg) F__law_drawn_vectors O__law_of e__law_of k__law_of b__law_of O__law_of2 O__law_plus e__law_plus k__law_plus b__law_plus O__law_take e__law_take k__law_take b__law_take m_range m_tuple
  have O__law_drawn_shape := ok__law_drawn_shape (P := l.prog) (w := w) (base := base) (mg := mg) F__law_drawn_shape O__law_of e__law_of k__law_of b__law_of O__law_take e__law_take k__law_take b__law_take
  have O_rest_of := ok_rest_of (P := l.prog) (w := w) (base := base) (mg := mg) F_rest_of O__reduced e__reduced k__reduced b__reduced O_basis e_basis k_basis b_basis
  have O_is_within := ok_is_within (P := l.prog) (w := w) (base := base) (mg := mg) F_is_within O__reduced e__reduced k__reduced b__reduced O_basis e_basis k_basis b_basis m_any
  have O_members := ok_members (P := l.prog) (w := w) (base := base) (mg := mg) F_members O_all_rows e_all_rows k_all_rows b_all_rows O_basis e_basis k_basis b_basis O_power e_power k_power b_power O_row_by e_row_by k_row_by b_row_by m_len m_sorted m_tuple X_TooMany
  have O__law_basis := ok__law_basis (P := l.prog) (w := w) (base := base) (mg := mg) F__law_basis O__law_lead e__law_lead k__law_lead b__law_lead O__law_sums e__law_sums k__law_sums b__law_sums m_int m_set m_sorted m_tuple
  have O__law_heard := ok__law_heard (P := l.prog) (w := w) (base := base) (mg := mg) F__law_heard O_members e_members k_members b_members m_ValueError m_isinstance X_TooMany Xc_TooMany Xs_TooMany Xk_TooMany
  have O__law_lists := ok__law_lists (P := l.prog) (w := w) (base := base) (mg := mg) F__law_lists e__law_lists k__law_lists b__law_lists m_isinstance m_list m_tuple
  have O__law_same := ok__law_same (P := l.prog) (w := w) (base := base) (mg := mg) F__law_same e__law_same k__law_same b__law_same m_all m_bool m_int m_isinstance m_len m_list m_str m_tuple m_zip
  have O__law_by_hand_right := ok__law_by_hand_right (P := l.prog) (w := w) (base := base) (mg := mg) F__law_by_hand_right O__law_heard e__law_heard k__law_heard b__law_heard O__law_lists e__law_lists k__law_lists b__law_lists O__law_same e__law_same k__law_same b__law_same O__law_unit e__law_unit k__law_unit b__law_unit O_basis e_basis k_basis b_basis (fun ws hl => match ws, hl with | [_, _], _ => rfl) O_is_within e_is_within k_is_within b_is_within (fun ws hl => match ws, hl with | [_, _, _], _ => rfl) O_members e_members k_members b_members (fun ws hl => match ws, hl with | [_, _, _], _ => rfl) O_rank e_rank k_rank b_rank (fun ws hl => match ws, hl with | [_, _], _ => rfl) O_rest_of e_rest_of k_rest_of b_rest_of (fun ws hl => match ws, hl with | [_, _, _], _ => rfl) m_range m_tuple
  have O__law_brink_right := ok__law_brink_right (P := l.prog) (w := w) (base := base) (mg := mg) F__law_brink_right O__law_heard e__law_heard k__law_heard b__law_heard O__law_same e__law_same k__law_same b__law_same O__law_unit e__law_unit k__law_unit b__law_unit m_isinstance m_len m_range m_tuple
  have O__law_right := ok__law_right (P := l.prog) (w := w) (base := base) (mg := mg) F__law_right O__law_basis e__law_basis k__law_basis b__law_basis O__law_drawn_shape e__law_drawn_shape k__law_drawn_shape b__law_drawn_shape O__law_drawn_vectors e__law_drawn_vectors k__law_drawn_vectors b__law_drawn_vectors O__law_lead e__law_lead k__law_lead b__law_lead O__law_plus e__law_plus k__law_plus b__law_plus O__law_same e__law_same k__law_same b__law_same O__law_sums e__law_sums k__law_sums b__law_sums O__law_take e__law_take k__law_take b__law_take O_basis e_basis k_basis b_basis O_is_within e_is_within k_is_within b_is_within O_members e_members k_members b_members O_rank e_rank k_rank b_rank O_rest_of e_rest_of k_rest_of b_rest_of m_isinstance m_len m_range m_tuple
  have O_law := ok_law (P := l.prog) (w := w) (base := base) (mg := mg) F_law O__law_box e__law_box k__law_box b__law_box O__law_brink_right e__law_brink_right k__law_brink_right b__law_brink_right O__law_by_hand_right e__law_by_hand_right k__law_by_hand_right b__law_by_hand_right O__law_cells e__law_cells k__law_cells b__law_cells O__law_right e__law_right k__law_right b__law_right m_all m_int m_len m_range
  exact fn_weak O_law fun vs H Q E q => q mg
end K03
end

section
set_option linter.all false
namespace LA
open Lean.Grind
/-- what is asked of the numbers -/
class Fd (F : Type) [CommRing F] : Prop where
  inv : ∀ a : F, a ≠ 0 → ∃ b : F, a * b = 1
  one : (1 : F) ≠ 0
variable {F : Type} [CommRing F] [Fd F]
abbrev Vc (F : Type) := Nat → F
theorem Fd.zero_of {a b : F} (h : a * b = 0) (hb : b ≠ 0) : a = 0 := by
  obtain ⟨c, hc⟩ := Fd.inv b hb
  have : a = (a * b) * c := by grind
  rw [this, h]; grind
/-- sums of rows -/
def lc : Vc F → List (Vc F) → Vc F
  | _, [] => fun _ => 0
  | t, v :: A => fun k => t 0 * v k + lc (fun i => t (i + 1)) A k
inductive Sp (A : List (Vc F)) : Vc F → Prop
  | zero : Sp A (fun _ => 0)
  | add {x v : Vc F} (c : F) : Sp A x → v ∈ A → Sp A (fun k => x k + c * v k)
def Ind (A : List (Vc F)) : Prop := ∀ t : Vc F, (∀ k, lc t A k = 0) → ∀ j, j < A.length → t j = 0
theorem Sp.congr {A : List (Vc F)} {x y : Vc F} (h : Sp A x) (e : ∀ k, x k = y k) : Sp A y := by
  rw [show y = x from funext fun k => (e k).symm]; exact h
theorem Sp.mem {A : List (Vc F)} {v : Vc F} (h : v ∈ A) : Sp A v := (Sp.add 1 .zero h).congr fun k => by grind
theorem Sp.addV {A : List (Vc F)} {x y : Vc F} (hx : Sp A x) (c : F) (hy : Sp A y) : Sp A (fun k => x k + c * y k) := by
  induction hy with
  | zero => exact hx.congr fun k => by grind
  | add d _ hv ih => exact (Sp.add (c * d) ih hv).congr fun k => by grind
theorem Sp.smul {A : List (Vc F)} {y : Vc F} (c : F) (hy : Sp A y) : Sp A (fun k => c * y k) := (Sp.addV .zero c hy).congr fun k => by grind
theorem Sp.sub {A : List (Vc F)} {x y : Vc F} (hx : Sp A x) (hy : Sp A y) : Sp A (fun k => x k - y k) := (Sp.addV hx (-1) hy).congr fun k => by grind
theorem Sp.mono {A B : List (Vc F)} (h : ∀ v ∈ A, Sp B v) {x : Vc F} (hx : Sp A x) : Sp B x := by
  induction hx with
  | zero => exact .zero
  | add c _ hv ih => exact ih.addV c (h _ hv)
/-- what holds of the rows holds of their sums -/
theorem Sp.ind {A : List (Vc F)} (P : Vc F → Prop) (h0 : P fun _ => 0) (hs : ∀ x c v, P x → v ∈ A → P fun k => x k + c * v k) {x : Vc F} (hx : Sp A x) : P x := by
  induction hx with
  | zero => exact h0
  | add c _ hv ih => exact hs _ c _ ih hv
theorem lc_sp : ∀ (A : List (Vc F)) (t : Vc F), Sp A (lc t A)
  | [], t => .zero
  | v :: A, t => by
    have h : Sp (v :: A) (lc (fun i => t (i + 1)) A) := Sp.mono (fun u hu => .mem (List.mem_cons_of_mem _ hu)) (lc_sp A _)
    exact (h.addV (t 0) (.mem (List.mem_cons_self ..))).congr fun k => by show _ = t 0 * v k + _; grind
theorem lc_add : ∀ (A : List (Vc F)) (s t : Vc F) (c : F) (k : Nat), lc (fun i => s i + c * t i) A k = lc s A k + c * lc t A k
  | [], s, t, c, k => by show (0 : F) = 0 + c * 0; grind
  | v :: A, s, t, c, k => by
    have := lc_add A (fun i => s (i + 1)) (fun i => t (i + 1)) c k
    show (s 0 + c * t 0) * v k + lc (fun i => s (i + 1) + c * t (i + 1)) A k = (s 0 * v k + lc (fun i => s (i + 1)) A k) + c * (t 0 * v k + lc (fun i => t (i + 1)) A k)
    grind
theorem lc_zero : ∀ (A : List (Vc F)) (k : Nat), lc (fun _ => 0) A k = 0
  | [], k => rfl
  | v :: A, k => by
    have := lc_zero A k
    show 0 * v k + lc (fun _ => 0) A k = 0
    grind
def dl (j : Nat) : Vc F := fun i => if i = j then 1 else 0
theorem lc_congr : ∀ (A : List (Vc F)) (s t : Vc F), (∀ i, i < A.length → s i = t i) → ∀ k, lc s A k = lc t A k
  | [], _, _, _, _ => rfl
  | v :: A, s, t, h, k => by
    have h0 := h 0 (by simp)
    have := lc_congr A (fun i => s (i + 1)) (fun i => t (i + 1)) (fun i hi => h (i + 1) (by simp; omega)) k
    show s 0 * v k + lc (fun i => s (i + 1)) A k = t 0 * v k + lc (fun i => t (i + 1)) A k
    rw [h0, this]
theorem lc_dl : ∀ (A : List (Vc F)) (j : Nat) (h : j < A.length) (k : Nat), lc (dl j) A k = A[j] k
  | v :: A, 0, h, k => by
    have : lc (fun i => dl (F := F) 0 (i + 1)) A k = 0 := by
      rw [lc_congr A _ (fun _ => 0) (fun i _ => by simp [dl]) k, lc_zero]
    show dl 0 0 * v k + _ = v k
    rw [this]
    simp only [dl, if_true]
    grind
  | v :: A, j + 1, h, k => by
    have ih := lc_dl A j (by simpa using h) k
    have e : lc (fun i => dl (F := F) (j + 1) (i + 1)) A k = lc (dl j) A k := lc_congr A _ _ (fun i _ => by simp [dl]) k
    show dl (j + 1) 0 * v k + lc (fun i => dl (j + 1) (i + 1)) A k = (A[j]'(by simpa using h)) k
    rw [e, ih]
    simp only [dl]
    rw [if_neg (by omega)]
    grind
theorem Sp.lc {A : List (Vc F)} {x : Vc F} (h : Sp A x) : ∃ t, ∀ k, x k = LA.lc t A k := by
  induction h with
  | zero => exact ⟨fun _ => 0, fun k => (lc_zero A k).symm⟩
  | @add x v c _ hv ih =>
    obtain ⟨t, ht⟩ := ih
    obtain ⟨j, hj, rfl⟩ := List.getElem_of_mem hv
    refine ⟨fun i => t i + c * dl j i, fun k => ?_⟩
    show x k + c * A[j] k = _
    rw [lc_add, lc_dl A j hj, ht]
/-- a map that keeps sums -/
theorem lc_map (φ : Vc F → Vc F) (h0 : ∀ k, φ (fun _ => 0) k = 0) (hφ : ∀ (x v : Vc F) (c : F) (k : Nat), φ (fun k => c * v k + x k) k = c * φ v k + φ x k) : ∀ (A : List (Vc F)) (t : Vc F) (k : Nat), lc t (A.map φ) k = φ (lc t A) k
  | [], t, k => (h0 k).symm
  | v :: A, t, k => by
    have := lc_map φ h0 hφ A (fun i => t (i + 1)) k
    show t 0 * φ v k + lc (fun i => t (i + 1)) (A.map φ) k = φ (fun k => t 0 * v k + lc (fun i => t (i + 1)) A k) k
    rw [hφ, this]
theorem lc_set : ∀ (A : List (Vc F)) (j : Nat) (hj : j < A.length) (u t : Vc F) (k : Nat), lc t (A.set j u) k = lc t A k + t j * (u k - A[j] k)
  | v :: A, 0, h, u, t, k => by
    show t 0 * u k + lc (fun i => t (i + 1)) A k = (t 0 * v k + lc (fun i => t (i + 1)) A k) + t 0 * (u k - v k)
    grind
  | v :: A, j + 1, h, u, t, k => by
    have := lc_set A j (by simpa using h) u (fun i => t (i + 1)) k
    show t 0 * v k + lc (fun i => t (i + 1)) (A.set j u) k = (t 0 * v k + lc (fun i => t (i + 1)) A k) + t (j + 1) * (u k - (A[j]'(by simpa using h)) k)
    rw [this]
    grind
/-! ### exchange -/
def swp (A : List (Vc F)) (i j : Nat) : List (Vc F) := match A[i]?, A[j]? with
  | some u, some v => (A.set i v).set j u
  | _, _ => A
theorem swp_eq {A : List (Vc F)} {i j : Nat} (hi : i < A.length) (hj : j < A.length) : swp A i j = (A.set i A[j]).set j A[i] := by
  unfold swp
  rw [List.getElem?_eq_getElem hi, List.getElem?_eq_getElem hj]
theorem swp_length {A : List (Vc F)} {i j : Nat} : (swp A i j).length = A.length := by
  unfold swp
  split <;> simp
theorem swp_lc {A : List (Vc F)} {i j : Nat} (hi : i < A.length) (hj : j < A.length) (t : Vc F) (k : Nat) : lc t (swp A i j) k = lc (fun n => t n + (t i - t j) * (dl j n + (-1) * dl i n)) A k := by
  rw [swp_eq hi hj, lc_set _ j (by simpa using hj), lc_set _ i hi, lc_add, lc_add, lc_dl A j hj, lc_dl A i hi]
  by_cases e : i = j
  · subst e
    rw [List.getElem_set_self]
    grind
  · rw [List.getElem_set_ne (by omega)]
    grind
theorem swp_ind {A : List (Vc F)} {i j : Nat} (hi : i < A.length) (hj : j < A.length) (h : Ind A) : Ind (swp A i j) := by
  intro t ht m hm
  rw [swp_length] at hm
  have q := h _ fun k => by rw [← swp_lc hi hj]; exact ht k
  have qi := q i hi
  have qj := q j hj
  have qm := q m hm
  simp only [dl, if_true] at qi qj qm
  by_cases e : i = j
  · subst e
    simp only [if_true] at qi qm
    have : t i - t i = 0 := by grind
    rw [this] at qm
    grind
  · rw [if_neg e] at qi
    rw [if_neg (Ne.symm e)] at qj
    by_cases e1 : m = i
    · subst e1
      grind
    · by_cases e2 : m = j
      · subst e2
        grind
      · rw [if_neg e2, if_neg e1] at qm
        grind
theorem swp_mem {A : List (Vc F)} {i j : Nat} {v : Vc F} (hi : i < A.length) (hj : j < A.length) : v ∈ swp A i j ↔ v ∈ A := by
  rw [swp_eq hi hj]
  constructor
  · intro h
    rcases List.mem_or_eq_of_mem_set h with h | rfl
    · rcases List.mem_or_eq_of_mem_set h with h | rfl
      · exact h
      · exact List.getElem_mem _
    · exact List.getElem_mem _
  · intro h
    obtain ⟨m, hm, rfl⟩ := List.getElem_of_mem h
    by_cases e1 : m = i
    · subst e1
      refine List.mem_iff_getElem.mpr ⟨j, by simpa using hj, ?_⟩
      rw [List.getElem_set_self]
    · by_cases e2 : m = j
      · subst e2
        refine List.mem_iff_getElem.mpr ⟨i, by simpa using hi, ?_⟩
        rw [List.getElem_set_ne (by omega), List.getElem_set_self]
      · refine List.mem_iff_getElem.mpr ⟨m, by simpa using hm, ?_⟩
        rw [List.getElem_set_ne (by omega), List.getElem_set_ne (by omega)]
end LA
end

section
set_option linter.all false
namespace LA
open Lean.Grind
variable {F : Type} [CommRing F] [Fd F]
/-- a row by its number; beyond the end all is 0 -/
def row (A : List (Vc F)) (j : Nat) : Vc F := A.getD j fun _ => 0
theorem row_at {A : List (Vc F)} {j : Nat} (h : j < A.length) : row A j = A[j] := by
  unfold row
  rw [List.getD_eq_getElem?_getD, List.getElem?_eq_getElem h]
  rfl
theorem row_out {A : List (Vc F)} {j : Nat} (h : A.length ≤ j) : row A j = fun _ => 0 := by
  unfold row
  rw [List.getD_eq_getElem?_getD, List.getElem?_eq_none h]
  rfl
theorem row_map {A : List (Vc F)} {φ : Vc F → Vc F} (h0 : φ (fun _ => 0) = fun _ => 0) (j : Nat) : row (A.map φ) j = φ (row A j) := by
  by_cases h : j < A.length
  · rw [row_at (by simpa using h), row_at h, List.getElem_map]
  · rw [row_out (by simpa using h), row_out (by omega), h0]
theorem row_set {A : List (Vc F)} {r : Nat} (hr : r < A.length) (u : Vc F) (j : Nat) : row (A.set r u) j = if j = r then u else row A j := by
  by_cases h : j < A.length
  · rw [row_at (by simpa using h), row_at h, List.getElem_set]
    simp only [eq_comm]
  · rw [row_out (by simpa using h), row_out (by omega), if_neg (by omega)]
theorem row_mem {A : List (Vc F)} (j : Nat) : Sp A (row A j) := by
  by_cases h : j < A.length
  · rw [row_at h]; exact .mem (List.getElem_mem _)
  · rw [row_out (by omega)]; exact .zero
theorem row_take {A : List (Vc F)} {r j : Nat} (h : j < r) : row (A.take r) j = row A j := by
  unfold row
  rw [List.getD_eq_getElem?_getD, List.getD_eq_getElem?_getD, List.getElem?_take]
  rw [if_pos h]
theorem lc_at {k i : Nat} : ∀ {A : List (Vc F)} {c : Vc F}, (∀ j, j ≠ i → row A j k = 0) → row A i k = 1 → lc c A k = c i
  | [], c, h, h1 => by
    have : (0 : F) = 1 := h1
    exact absurd this.symm Fd.one
  | v :: A, c, h, h1 => by
    show c 0 * v k + lc (fun n => c (n + 1)) A k = c i
    cases i with
    | zero =>
      have hv : v k = 1 := h1
      have hz : lc (fun n => c (n + 1)) A k = 0 := lc_none fun j => by
        have : row A j k = 0 := h (j + 1) (by omega)
        rw [this]; grind
      rw [hv, hz]; grind
    | succ i =>
      have hv : v k = 0 := h 0 (by omega)
      have := lc_at (A := A) (c := fun n => c (n + 1)) (i := i) (k := k) (fun j hj => h (j + 1) (by omega)) h1
      rw [hv, this]; grind
where
  lc_none {k : Nat} : ∀ {A : List (Vc F)} {c : Vc F}, (∀ j, c j * row A j k = 0) → lc c A k = 0
  | [], _, _ => rfl
  | v :: A, c, h => by
    have h0 : c 0 * v k = 0 := h 0
    have := lc_none (A := A) (c := fun n => c (n + 1)) (k := k) fun j => h (j + 1)
    show c 0 * v k + lc (fun n => c (n + 1)) A k = 0
    rw [h0, this]; grind
/-! ### one step of the elimination -/
def lead (A : List (Vc F)) (r : Nat) (u : F) : Vc F := fun k => row A r k * u
def elim (A : List (Vc F)) (r P : Nat) (u : F) : List (Vc F) := (A.map fun v k => v k - v P * lead A r u k).set r (lead A r u)
variable {A : List (Vc F)} {r P : Nat} {u : F}
theorem elim_length : (elim A r P u).length = A.length := by simp [elim]
theorem elim_row (hr : r < A.length) (j : Nat) : row (elim A r P u) j = if j = r then lead A r u else fun k => row A j k - row A j P * lead A r u k := by
  unfold elim
  rw [row_set (by simpa using hr)]
  split
  · rfl
  · rw [row_map (by funext k; grind)]
theorem elim_ind (hr : r < A.length) (hu : row A r P * u = 1) (h : Ind A) : Ind (elim A r P u) := by
  intro t ht
  rw [elim_length]
  have hA : A[r] = row A r := (row_at hr).symm
  have q : ∀ k, lc t A k - lc t A P * lead A r u k + t r * lead A r u k = 0 := fun k => by
    have := ht k
    unfold elim at this
    rw [lc_set _ r (by simpa using hr), lc_map (fun v k => v k - v P * lead A r u k) (by intro k; grind) (by intro x v c k; grind), List.getElem_map, hA] at this
    have e : row A r k - row A r P * lead A r u k = 0 := by unfold lead; grind
    rw [e] at this
    grind
  have hP : lead A r u P = 1 := hu
  have tr : t r = 0 := by
    have := q P
    rw [hP] at this
    grind
  intro j hj
  have q2 := h (fun i => t i + (-(lc t A P * u)) * dl r i) (fun k => by
    rw [lc_add, lc_dl A r hr, hA]
    have := q k
    rw [tr] at this
    unfold lead at this
    grind) j hj
  have q3 := h (fun i => t i + (-(lc t A P * u)) * dl r i) (fun k => by
    rw [lc_add, lc_dl A r hr, hA]
    have := q k
    rw [tr] at this
    unfold lead at this
    grind) r hr
  simp only [dl, if_true] at q2 q3
  by_cases e : j = r
  · rw [e, tr]
  · rw [if_neg e] at q2
    grind
theorem elim_sp (hr : r < A.length) (hu : row A r P * u = 1) (x : Vc F) : Sp (elim A r P u) x ↔ Sp A x := by
  have hl : Sp A (lead A r u) := ((row_mem r).smul u).congr fun k => by unfold lead; grind
  have hl' : Sp (elim A r P u) (lead A r u) := by
    have := row_mem (A := elim A r P u) r
    rw [elim_row hr, if_pos rfl] at this
    exact this
  constructor
  · refine Sp.mono fun v hv => ?_
    obtain ⟨j, hj, rfl⟩ := List.getElem_of_mem hv
    rw [← row_at hj, elim_row hr]
    split
    · exact hl
    · exact ((row_mem j).addV (-(row A j P)) hl).congr fun k => by grind
  · refine Sp.mono fun v hv => ?_
    obtain ⟨j, hj, rfl⟩ := List.getElem_of_mem hv
    rw [← row_at hj]
    by_cases e : j = r
    · subst e
      exact (hl'.smul (row A j P)).congr fun k => by unfold lead; grind
    · have := row_mem (A := elim A r P u) j
      rw [elim_row hr, if_neg e] at this
      exact (this.addV (row A j P) hl').congr fun k => by grind
/-! ### what stands behind P places -/
structure EI (A : List (Vc F)) (l : List Nat) (P : Nat) : Prop where
  le : l.length ≤ A.length
  one : ∀ i (h : i < l.length), row A i l[i] = 1
  off : ∀ i (h : i < l.length) j, j ≠ i → row A j l[i] = 0
  low : ∀ i (h : i < l.length) k, k < l[i] → row A i k = 0
  zero : ∀ j, l.length ≤ j → ∀ k, k < P → row A j k = 0
  asc : l.Pairwise (· < ·)
  lt : ∀ x ∈ l, x < P
variable {l : List Nat}
theorem EI.start (A : List (Vc F)) : EI A [] 0 where
  le := by simp
  one := fun i h => by cases h
  off := fun i h => by cases h
  low := fun i h => by cases h
  zero := fun j _ k h => by cases h
  asc := .nil
  lt := fun x h => by cases h
theorem EI.skip (e : EI A l P) (h : ∀ j, l.length ≤ j → row A j P = 0) : EI A l (P + 1) where
  le := e.le
  one := e.one
  off := e.off
  low := e.low
  zero := fun j hj k hk => by
    by_cases q : k = P
    · rw [q]; exact h j hj
    · exact e.zero j hj k (by omega)
  asc := e.asc
  lt := fun x hx => Nat.lt_succ_of_lt (e.lt x hx)
theorem swp_row {i j : Nat} (hi : i < A.length) (hj : j < A.length) (m : Nat) : row (swp A i j) m = if m = j then row A i else if m = i then row A j else row A m := by
  rw [swp_eq hi hj, row_set (by simpa using hj), row_set hi, row_at hi, row_at hj]
theorem EI.swap (e : EI A l P) {j : Nat} (h1 : l.length ≤ j) (h2 : j < A.length) : EI (swp A l.length j) l P := by
  have hr : l.length < A.length := by omega
  have g : ∀ m, l.length ≤ m → ∃ m', l.length ≤ m' ∧ row (swp A l.length j) m = row A m' := fun m hm => by
    rw [swp_row hr h2]
    split
    · exact ⟨_, Nat.le_refl _, rfl⟩
    · split
      · exact ⟨j, h1, rfl⟩
      · exact ⟨m, hm, rfl⟩
  have s : ∀ m, m < l.length → row (swp A l.length j) m = row A m := fun m hm => by
    rw [swp_row hr h2, if_neg (by omega), if_neg (by omega)]
  refine ⟨by rw [swp_length]; exact e.le, fun i h => by rw [s i h]; exact e.one i h, fun i h m hm => ?_, fun i h k hk => by rw [s i h]; exact e.low i h k hk, fun m hm k hk => ?_, e.asc, e.lt⟩
  · by_cases q : m < l.length
    · rw [s m q]; exact e.off i h m hm
    · obtain ⟨m', h3, h4⟩ := g m (by omega)
      rw [h4]; exact e.off i h m' (by omega)
  · obtain ⟨m', h3, h4⟩ := g m hm
    rw [h4]; exact e.zero m' h3 k hk
theorem EI.elim (e : EI A l P) (hr : l.length < A.length) (hu : row A l.length P * u = 1) : EI (LA.elim A l.length P u) (l ++ [P]) (P + 1) := by
  have hlP : lead A l.length u P = 1 := hu
  have hl0 : ∀ k, k < P → lead A l.length u k = 0 := fun k hk => by
    unfold lead
    rw [e.zero l.length (Nat.le_refl _) k hk]
    grind
  have hll : ∀ i (h : i < l.length), lead A l.length u l[i] = 0 := fun i h => hl0 _ (e.lt _ (List.getElem_mem _))
  have lg : (l ++ [P]).length = l.length + 1 := by simp
  have gi : ∀ i (h : i < (l ++ [P]).length) (q : i < l.length), (l ++ [P])[i] = l[i] := fun i h q => List.getElem_append_left q
  have gl : ∀ i (h : i < (l ++ [P]).length) (q : ¬ i < l.length), (l ++ [P])[i] = P := fun i h q => by
    rw [List.getElem_append_right (by omega)]
    simp
  refine ⟨by rw [elim_length, lg]; omega, fun i h => ?_, fun i h j hj => ?_, fun i h k hk => ?_, fun j hj k hk => ?_, ?_, fun x hx => ?_⟩
  · rw [elim_row hr]
    by_cases q : i < l.length
    · rw [gi i h q, if_neg (by omega), e.one i q, hll i q]
      grind
    · rw [gl i h q, if_pos (by omega), hlP]
  · rw [elim_row hr]
    by_cases q : i < l.length
    · rw [gi i h q]
      split
      · exact hll i q
      · show row A j l[i] - row A j P * lead A l.length u l[i] = 0
        rw [e.off i q j hj, hll i q]
        grind
    · rw [gl i h q, if_neg (by omega)]
      show row A j P - row A j P * lead A l.length u P = 0
      rw [hlP]
      grind
  · rw [elim_row hr]
    by_cases q : i < l.length
    · rw [gi i h q] at hk
      have := e.lt _ (List.getElem_mem q)
      rw [if_neg (by omega)]
      show row A i k - row A i P * lead A l.length u k = 0
      rw [e.low i q k hk, hl0 k (by omega)]
      grind
    · rw [gl i h q] at hk
      rw [if_pos (by omega)]
      exact hl0 k hk
  · rw [elim_row hr, if_neg (by omega)]
    show row A j k - row A j P * lead A l.length u k = 0
    by_cases q : k = P
    · rw [q, hlP]; grind
    · rw [e.zero j (by omega) k (by omega), hl0 k (by omega)]; grind
  · rw [List.pairwise_append]
    exact ⟨e.asc, by simp, fun a ha b hb => by rw [List.mem_singleton.mp hb]; exact e.lt a ha⟩
  · rcases List.mem_append.mp hx with hx | hx
    · exact Nat.lt_succ_of_lt (e.lt x hx)
    · rw [List.mem_singleton.mp hx]; omega
end LA
end

section
set_option linter.all false
namespace LA
open Lean.Grind
variable {F : Type} [CommRing F] [Fd F] {A B : List (Vc F)} {l : List Nat} {P : Nat}
/-- the coordinates of a sum at the leads -/
theorem EI.co (e : EI A l P) (c : Vc F) (i : Nat) (h : i < l.length) : lc c A l[i] = c i := lc_at (fun j hj => e.off i h j hj) (e.one i h)
theorem lc_none' {k : Nat} {c : Vc F} (h : ∀ j, c j * row A j k = 0) : lc c A k = 0 := lc_at.lc_none h
/-- rows with leads, and none besides -/
structure Rf (B : List (Vc F)) (l : List Nat) : Prop where
  len : l.length = B.length
  one : ∀ i (h : i < l.length), row B i l[i] = 1
  off : ∀ i (h : i < l.length) j, j ≠ i → row B j l[i] = 0
  low : ∀ i (h : i < l.length) k, k < l[i] → row B i k = 0
  asc : l.Pairwise (· < ·)
theorem EI.rf (e : EI A l P) : Rf (A.take l.length) l where
  len := by have := e.le; simp; omega
  one := fun i h => by rw [row_take h]; exact e.one i h
  off := fun i h j hj => by
    by_cases q : j < l.length
    · rw [row_take q]; exact e.off i h j hj
    · rw [row_out (by have := e.le; simp; omega)]
  low := fun i h k hk => by rw [row_take h]; exact e.low i h k hk
  asc := e.asc
theorem Rf.co (e : Rf B l) (c : Vc F) (i : Nat) (h : i < l.length) : lc c B l[i] = c i := lc_at (fun j hj => e.off i h j hj) (e.one i h)
/-- a sum by its coordinates -/
theorem Rf.eq (e : Rf B l) {x : Vc F} (hx : Sp B x) (k : Nat) : x k = lc (fun i => x (l.getD i 0)) B k := by
  obtain ⟨c, hc⟩ := hx.lc
  rw [hc k]
  refine lc_congr B _ _ (fun i hi => ?_) k
  have h : i < l.length := by rw [e.len]; exact hi
  rw [List.getD_eq_getElem?_getD, List.getElem?_eq_getElem h]
  show c i = x l[i]
  rw [hc, e.co c i h]
theorem Rf.zero (e : Rf B l) {x : Vc F} (hx : Sp B x) (h : ∀ i (h : i < l.length), x l[i] = 0) (k : Nat) : x k = 0 := by
  rw [e.eq hx k, lc_congr B _ (fun _ => 0) (fun i hi => ?_) k, lc_zero]
  have hi' : i < l.length := by rw [e.len]; exact hi
  rw [List.getD_eq_getElem?_getD, List.getElem?_eq_getElem hi']
  exact h i hi'
theorem Rf.ind (e : Rf B l) : Ind B := fun t ht j hj => by
  have h : j < l.length := by rw [e.len]; exact hj
  rw [← e.co t j h]
  exact ht _
theorem Rf.leads (e : Rf B l) (m : Nat) : m ∈ l ↔ ∃ x, Sp B x ∧ x m ≠ 0 ∧ ∀ k, k < m → x k = 0 := by
  constructor
  · intro h
    obtain ⟨i, hi, rfl⟩ := List.getElem_of_mem h
    exact ⟨row B i, row_mem i, by rw [e.one i hi]; exact Fd.one, e.low i hi⟩
  · rintro ⟨x, hx, hm, hk⟩
    refine Classical.byContradiction fun q => hm ?_
    rw [e.eq hx m]
    refine lc_none' fun j => ?_
    by_cases hj : j < l.length
    · rw [List.getD_eq_getElem?_getD, List.getElem?_eq_getElem hj]
      show x l[j] * row B j m = 0
      have hne : l[j] ≠ m := fun z => q (z ▸ List.getElem_mem hj)
      by_cases g : l[j] < m
      · rw [hk _ g]; grind
      · rw [e.low j hj m (by omega)]; grind
    · rw [row_out (by rw [← e.len]; omega)]; grind
theorem asc_ext : ∀ {l m : List Nat}, l.Pairwise (· < ·) → m.Pairwise (· < ·) → (∀ x, x ∈ l ↔ x ∈ m) → l = m
  | [], [], _, _, _ => rfl
  | [], y :: m, _, _, h => absurd ((h y).mpr (List.mem_cons_self ..)) (List.not_mem_nil)
  | x :: l, [], _, _, h => absurd ((h x).mp (List.mem_cons_self ..)) (List.not_mem_nil)
  | x :: l, y :: m, hl, hm, h => by
    rw [List.pairwise_cons] at hl hm
    have e : x = y := by
      rcases List.mem_cons.mp ((h x).mp (List.mem_cons_self ..)) with q | q
      · exact q
      · rcases List.mem_cons.mp ((h y).mpr (List.mem_cons_self ..)) with q2 | q2
        · exact q2.symm
        · have := hm.1 x q
          have := hl.1 y q2
          omega
    subst e
    rw [asc_ext hl.2 hm.2 fun z => ?_]
    constructor
    · intro hz
      rcases List.mem_cons.mp ((h z).mp (List.mem_cons_of_mem _ hz)) with q | q
      · have := hl.1 z hz; omega
      · exact q
    · intro hz
      rcases List.mem_cons.mp ((h z).mpr (List.mem_cons_of_mem _ hz)) with q | q
      · have := hm.1 z hz; omega
      · exact q
/-- one lot of such rows for what they span -/
theorem Rf.uniq {m : List Nat} (e : Rf A l) (f : Rf B m) (h : ∀ x, Sp A x ↔ Sp B x) : A = B ∧ l = m := by
  have hl : l = m := asc_ext e.asc f.asc fun x => by
    rw [e.leads, f.leads]
    constructor
    · rintro ⟨y, h1, h2⟩; exact ⟨y, (h y).mp h1, h2⟩
    · rintro ⟨y, h1, h2⟩; exact ⟨y, (h y).mpr h1, h2⟩
  subst hl
  refine ⟨?_, rfl⟩
  have hlen : A.length = B.length := by rw [← e.len, f.len]
  refine List.ext_getElem hlen fun i h1 h2 => ?_
  have hi : i < l.length := by rw [e.len]; exact h1
  rw [← row_at h1, ← row_at h2]
  funext k
  have hs : Sp A fun k => row A i k - row B i k := (row_mem i).sub ((h _).mpr (row_mem i))
  have := e.zero hs (fun j hj => by
    show row A i l[j] - row B i l[j] = 0
    by_cases q : i = j
    · subst q; rw [e.one i hj, f.one i hj]; grind
    · rw [e.off j hj i q, f.off j hj i q]; grind) k
  have : row A i k - row B i k = 0 := this
  grind
theorem Ind.ne (h : Ind A) {j : Nat} (hj : j < A.length) : ∃ k, row A j k ≠ 0 := by
  refine Classical.byContradiction fun q => ?_
  have := h (dl j) (fun k => by
    rw [lc_dl A j hj, ← row_at hj]
    exact Classical.byContradiction fun z => q ⟨k, z⟩) j hj
  simp only [dl, if_true] at this
  exact Fd.one this
/-- rows that are free have as many leads -/
theorem EI.full (e : EI A l P) (h : Ind A) (hw : ∀ j k, P ≤ k → row A j k = 0) : l.length = A.length := by
  refine Classical.byContradiction fun q => ?_
  have hr : l.length < A.length := by have := e.le; omega
  obtain ⟨k, hk⟩ := h.ne hr
  refine hk ?_
  by_cases g : k < P
  · exact e.zero _ (Nat.le_refl _) k g
  · exact hw _ k (by omega)
/-- what is left of a row at the leads nought -/
theorem Rf.rest (e : Rf B l) {x y z : Vc F} (h1 : Sp B fun k => x k - y k) (h2 : Sp B fun k => x k - z k) (hy : ∀ i (h : i < l.length), y l[i] = 0) (hz : ∀ i (h : i < l.length), z l[i] = 0) (k : Nat) : y k = z k := by
  have h3 : Sp B fun k => y k - z k := ((h2.sub h1)).congr fun k => by grind
  have := e.zero h3 (fun i h => by rw [hy i h, hz i h]; grind) k
  grind
end LA
end

section
set_option linter.all false
namespace LA
open Lean.Grind
variable {F : Type} [CommRing F] [Fd F] {A B V : List (Vc F)} {l m : List Nat} {P w : Nat}
/-! maps that keep sums -/
structure Lin (φ : Vc F → Vc F) : Prop where
  zero : φ (fun _ => 0) = fun _ => 0
  add : ∀ (x v : Vc F) (c : F) (k : Nat), φ (fun k => c * v k + x k) k = c * φ v k + φ x k
theorem Lin.lc {φ : Vc F → Vc F} (h : Lin φ) (A : List (Vc F)) (t : Vc F) (k : Nat) : LA.lc t (A.map φ) k = φ (LA.lc t A) k := lc_map φ (fun k => by rw [h.zero]) h.add A t k
theorem Lin.sp {φ : Vc F → Vc F} (h : Lin φ) {x : Vc F} (hx : Sp A x) : Sp (A.map φ) (φ x) := by
  obtain ⟨c, hc⟩ := hx.lc
  rw [show x = LA.lc c A from funext hc]
  exact (lc_sp (A.map φ) c).congr fun k => h.lc A c k
theorem Lin.sp' {φ : Vc F → Vc F} (h : Lin φ) {y : Vc F} (hy : Sp (A.map φ) y) : ∃ x, Sp A x ∧ ∀ k, y k = φ x k := by
  obtain ⟨c, hc⟩ := hy.lc
  exact ⟨LA.lc c A, lc_sp A c, fun k => by rw [hc, h.lc]⟩
def res (w : Nat) (x : Vc F) : Vc F := fun k => if k < w then x k else 0
def tr (w : Nat) (x : Vc F) : Vc F := fun k => x (w + k)
theorem res_lin : Lin (F := F) (res w) := ⟨by funext k; unfold res; split <;> rfl, fun x v c k => by unfold res; split <;> grind⟩
theorem tr_lin : Lin (F := F) (tr w) := ⟨rfl, fun x v c k => rfl⟩
theorem lc_drop : ∀ (r : Nat) (A : List (Vc F)) (c : Vc F), (∀ i, i < r → c i = 0) → ∀ k, lc c A k = lc (fun i => c (i + r)) (A.drop r) k
  | 0, A, c, _, k => rfl
  | r + 1, [], c, _, k => rfl
  | r + 1, v :: A, c, h, k => by
    have := lc_drop r A (fun i => c (i + 1)) (fun i hi => h (i + 1) (by omega)) k
    show c 0 * v k + lc (fun i => c (i + 1)) A k = _
    rw [this, h 0 (by omega)]
    show 0 * v k + lc (fun i => c (i + r + 1)) (A.drop r) k = lc (fun i => c (i + r + 1)) (A.drop r) k
    grind
theorem lc_take : ∀ (r : Nat) (A : List (Vc F)) (c : Vc F) (k : Nat), (∀ i, r ≤ i → c i * row A i k = 0) → lc c A k = lc c (A.take r) k
  | 0, A, c, k, h => by
    rw [lc_none' fun j => h j (Nat.zero_le _)]
    try rfl
  | r + 1, [], c, k, _ => rfl
  | r + 1, v :: A, c, k, h => by
    have := lc_take r A (fun i => c (i + 1)) k fun i hi => h (i + 1) (by omega)
    show c 0 * v k + lc (fun i => c (i + 1)) A k = c 0 * v k + lc (fun i => c (i + 1)) (A.take r) k
    rw [this]
/-! ### rows with what they are made of -/
def aug (w s : Nat) : List (Vc F) → List (Vc F)
  | [] => []
  | v :: V => (fun k => if k < w then v k else dl (w + s) k) :: aug w (s + 1) V
theorem aug_length : ∀ (V : List (Vc F)) (s : Nat), (aug w s V).length = V.length
  | [], _ => rfl
  | v :: V, s => by simp [aug, aug_length V]
theorem aug_lc : ∀ (V : List (Vc F)) (s : Nat) (t : Vc F) (k : Nat), lc t (aug w s V) k = if k < w then lc t V k else if w + s ≤ k ∧ k < w + s + V.length then t (k - w - s) else 0
  | [], s, t, k => by
    show (0 : F) = _
    split
    · rfl
    · rw [if_neg (by simp only [List.length_nil]; omega)]
  | v :: V, s, t, k => by
    have ih := aug_lc V (s + 1) (fun i => t (i + 1)) k
    show t 0 * (if k < w then v k else dl (w + s) k) + lc (fun i => t (i + 1)) (aug w (s + 1) V) k = _
    rw [ih]
    by_cases h : k < w
    · rw [if_pos h, if_pos h, if_pos h]; rfl
    · rw [if_neg h, if_neg h, if_neg h]
      unfold dl
      by_cases e : k = w + s
      · rw [if_pos e, if_neg (by omega), if_pos (by simp; omega), show k - w - s = 0 by omega]
        grind
      · rw [if_neg e]
        by_cases g : w + (s + 1) ≤ k ∧ k < w + (s + 1) + V.length
        · rw [if_pos g, if_pos (by simp; omega), show k - w - (s + 1) + 1 = k - w - s by omega]
          grind
        · rw [if_neg g, if_neg (by simp; omega)]
          grind
theorem aug_ind (V : List (Vc F)) : Ind (aug w 0 V) := fun t ht j hj => by
  rw [aug_length] at hj
  have := ht (w + j)
  rw [aug_lc, if_neg (by omega), if_pos (by omega), show w + j - w - 0 = j by omega] at this
  exact this
theorem aug_sp {x : Vc F} (h : Sp (aug w 0 V) x) : (∀ k, k < w → x k = lc (tr w x) V k) ∧ ∀ k, w + V.length ≤ k → x k = 0 := by
  obtain ⟨c, hc⟩ := h.lc
  have e : ∀ i, i < V.length → tr w x i = c i := fun i hi => by
    show x (w + i) = c i
    rw [hc, aug_lc, if_neg (by omega), if_pos (by omega), show w + i - w - 0 = i by omega]
  refine ⟨fun k hk => ?_, fun k hk => ?_⟩
  · rw [hc, aug_lc, if_pos hk]
    exact lc_congr V _ _ (fun i hi => (e i hi).symm) k
  · rw [hc, aug_lc, if_neg (by omega), if_neg (by omega)]
/-- what an elimination of such rows leaves -/
structure Tr (w : Nat) (V E : List (Vc F)) (l : List Nat) : Prop where
  ei : EI E l w
  len : E.length = V.length
  sp : ∀ x, Sp E x ↔ Sp (aug w 0 V) x
  ind : Ind E
variable {E : List (Vc F)}
/-- the sums that come to nothing -/
def Nl (w : Nat) (V : List (Vc F)) (t : Vc F) : Prop := (∀ k, k < w → lc t V k = 0) ∧ ∀ i, V.length ≤ i → t i = 0
def trs (w : Nat) (E : List (Vc F)) (l : List Nat) : List (Vc F) := (E.drop l.length).map (tr w)
theorem Tr.row (h : Tr w V E l) (j : Nat) : (∀ k, k < w → LA.row E j k = lc (tr w (LA.row E j)) V k) ∧ ∀ k, w + V.length ≤ k → LA.row E j k = 0 := aug_sp ((h.sp _).mp (row_mem j))
theorem row_drop (r j : Nat) : LA.row (A.drop r) j = LA.row A (r + j) := by
  unfold LA.row
  rw [List.getD_eq_getElem?_getD, List.getD_eq_getElem?_getD, List.getElem?_drop]
theorem Tr.null (h : Tr w V E l) (t : Vc F) : Sp (trs w E l) t ↔ Nl w V t := by
  constructor
  · intro ht
    obtain ⟨x, hx, e⟩ := tr_lin.sp' ht
    have hx0 : ∀ k, k < w → x k = 0 := fun k hk => by
      obtain ⟨c, hc⟩ := hx.lc
      rw [hc]
      refine lc_none' fun j => ?_
      rw [row_drop, h.ei.zero _ (by omega) k hk]
      grind
    have hE : Sp (aug w 0 V) x := (h.sp x).mp (Sp.mono (fun v hv => .mem (List.mem_of_mem_drop hv)) hx)
    obtain ⟨h1, h2⟩ := aug_sp hE
    rw [show t = tr w x from funext e]
    exact ⟨fun k hk => by rw [← h1 k hk]; exact hx0 k hk, fun i hi => h2 (w + i) (by omega)⟩
  · rintro ⟨h1, h2⟩
    have hx : Sp E (lc t (aug w 0 V)) := (h.sp _).mpr (lc_sp _ _)
    obtain ⟨c, hc⟩ := hx.lc
    have c0 : ∀ i, i < l.length → c i = 0 := fun i hi => by
      rw [← h.ei.co c i hi, ← hc, aug_lc, if_pos (h.ei.lt _ (List.getElem_mem hi))]
      exact h1 _ (h.ei.lt _ (List.getElem_mem hi))
    refine (lc_sp (trs w E l) fun i => c (i + l.length)).congr fun i => ?_
    unfold trs
    rw [tr_lin.lc]
    show lc (fun i => c (i + l.length)) (E.drop l.length) (w + i) = t i
    rw [← lc_drop _ _ _ c0, ← hc, aug_lc, if_neg (by omega)]
    split
    · rw [show w + i - w - 0 = i by omega]
    · exact (h2 i (by omega)).symm
theorem Tr.free (h : Tr w V E l) : Ind (trs w E l) := by
  intro s hs j hj
  have hlen : (trs w E l).length = E.length - l.length := by simp [trs]
  rw [hlen] at hj
  have q := h.ind (fun i => if i < l.length then 0 else s (i - l.length)) (fun k => by
    rw [lc_drop l.length _ _ (fun i hi => by rw [if_pos hi])]
    rw [lc_congr _ _ s (fun i _ => by rw [if_neg (by omega)]; congr 1; omega) k]
    by_cases hk : k < w
    · refine lc_none' fun j => ?_
      rw [row_drop, h.ei.zero _ (by omega) k hk]
      grind
    · have := hs (k - w)
      unfold trs at this
      rw [tr_lin.lc] at this
      unfold tr at this
      rw [show w + (k - w) = k by omega] at this
      exact this) (j + l.length) (by omega)
  rw [if_neg (by omega), show j + l.length - l.length = j by omega] at q
  exact q
theorem Tr.count (h : Tr w V E l) : (trs w E l).length + l.length = V.length := by
  have := h.ei.le
  have := h.len
  simp [trs]
  omega
/-- the rows themselves -/
def tops (w : Nat) (E : List (Vc F)) (l : List Nat) : List (Vc F) := (E.take l.length).map (res w)
theorem Tr.rf (h : Tr w V E l) : Rf (tops w E l) l := by
  have hz : res w (fun _ : Nat => (0 : F)) = fun _ => 0 := res_lin.zero
  have hl : ∀ i (hi : i < l.length), l[i] < w := fun i hi => h.ei.lt _ (List.getElem_mem hi)
  have e := h.ei.rf
  refine ⟨by rw [e.len]; simp [tops], fun i hi => ?_, fun i hi j hj => ?_, fun i hi k hk => ?_, e.asc⟩
  · unfold tops
    rw [row_map hz]
    unfold res
    rw [if_pos (hl i hi), e.one i hi]
  · unfold tops
    rw [row_map hz]
    unfold res
    rw [if_pos (hl i hi), e.off i hi j hj]
  · unfold tops
    rw [row_map hz]
    unfold res
    rw [if_pos (by have := hl i hi; omega), e.low i hi k hk]
theorem Tr.spans (h : Tr w V E l) (hV : ∀ v ∈ V, ∀ k, w ≤ k → v k = 0) (x : Vc F) : Sp (tops w E l) x ↔ Sp V x := by
  have hVs : ∀ (t : Vc F) k, w ≤ k → lc t V k = 0 := fun t k hk => lc_none' fun j => by
    by_cases hj : j < V.length
    · rw [row_at hj, hV _ (List.getElem_mem hj) k hk]; grind
    · rw [row_out (by omega)]; grind
  constructor
  · refine Sp.mono fun v hv => ?_
    obtain ⟨u, hu, rfl⟩ := List.mem_map.mp hv
    have hE : Sp (aug w 0 V) u := (h.sp u).mp (.mem (List.mem_of_mem_take hu))
    obtain ⟨h1, _⟩ := aug_sp hE
    refine (lc_sp V (tr w u)).congr fun k => ?_
    unfold res
    split
    · rename_i hk; exact (h1 k hk).symm
    · exact hVs _ k (by omega)
  · intro hx
    obtain ⟨t, ht⟩ := hx.lc
    have hE : Sp E (lc t (aug w 0 V)) := (h.sp _).mpr (lc_sp _ _)
    obtain ⟨c, hc⟩ := hE.lc
    refine (lc_sp (tops w E l) c).congr fun k => ?_
    unfold tops
    rw [res_lin.lc]
    unfold res
    rw [ht]
    split
    · rename_i hk
      rw [← lc_take l.length E c k fun i hi => by rw [h.ei.zero i hi k hk]; grind, ← hc, aug_lc, if_pos hk]
    · exact (hVs _ k (by omega)).symm
end LA
end

section
set_option linter.all false
namespace LA
open Lean.Grind
variable {F : Type} [CommRing F] [Fd F] {A B V E : List (Vc F)} {l m : List Nat} {P w : Nat}
/-! ### lots of leads -/
theorem asc_le : ∀ {l m : List Nat}, l.Pairwise (· < ·) → m.Pairwise (· < ·) → (∀ x, x ∈ l → x ∈ m) → l.length ≤ m.length
  | [], m, _, _, _ => by simp
  | x :: l, [], _, _, h => absurd (h x (List.mem_cons_self ..)) List.not_mem_nil
  | x :: l, y :: m, hl, hm, h => by
    rw [List.pairwise_cons] at hl hm
    have hs : ∀ z, z ∈ l → z ∈ m := fun z hz => by
      rcases List.mem_cons.mp (h z (List.mem_cons_of_mem _ hz)) with q | q
      · rcases List.mem_cons.mp (h x (List.mem_cons_self ..)) with q2 | q2
        · have := hl.1 z hz; omega
        · have := hl.1 z hz
          have := hm.1 x q2
          omega
      · exact q
    have := asc_le hl.2 hm.2 hs
    simp
    omega
theorem asc_eq {l m : List Nat} (hl : l.Pairwise (· < ·)) (hm : m.Pairwise (· < ·)) (h : ∀ x, x ∈ l → x ∈ m) (e : l.length = m.length) : l = m := by
  refine asc_ext hl hm fun x => ⟨h x, fun hx => ?_⟩
  refine Classical.byContradiction fun q => ?_
  have h2 : ∀ z, z ∈ l → z ∈ m.filter (fun y => decide (y ≠ x)) := fun z hz => List.mem_filter.mpr ⟨h z hz, by
    simp only [ne_eq, decide_not, Bool.not_eq_true', decide_eq_false_iff_not]
    rintro rfl
    exact q hz⟩
  have h3 := asc_le hl (hm.filter _) h2
  have h4 : (m.filter (fun y => decide (y ≠ x))).length < m.length := by
    have := List.length_filter_lt_length_iff_exists (p := fun y => decide (y ≠ x)) (l := m)
    rw [this]
    exact ⟨x, hx, by simp⟩
  omega
/-- a lot within another one with as many rows is the other one -/
theorem Rf.sub {C : List (Vc F)} (e : Rf B l) (f : Rf C m) (h : ∀ x, Sp B x → Sp C x) (hl : B.length = C.length) : B = C ∧ l = m := by
  have hlm : l = m := asc_eq e.asc f.asc (fun x hx => by
    rw [f.leads]
    obtain ⟨y, h1, h2⟩ := (e.leads x).mp hx
    exact ⟨y, h y h1, h2⟩) (by rw [e.len, f.len, hl])
  subst hlm
  refine ⟨List.ext_getElem hl fun i h1 h2 => ?_, rfl⟩
  have hi : i < l.length := by rw [e.len]; exact h1
  rw [← row_at h1, ← row_at h2]
  funext k
  have hs : Sp C fun k => row B i k - row C i k := (h _ (row_mem i)).sub (row_mem i)
  have := f.zero hs (fun j hj => by
    show row B i l[j] - row C i l[j] = 0
    by_cases q : i = j
    · subst q; rw [e.one i hj, f.one i hj]; grind
    · rw [e.off j hj i q, f.off j hj i q]; grind) k
  have : row B i k - row C i k = 0 := this
  grind
theorem Rf.le {C : List (Vc F)} (e : Rf B l) (f : Rf C m) (h : ∀ x, Sp B x → Sp C x) : B.length ≤ C.length := by
  rw [← e.len, ← f.len]
  refine asc_le e.asc f.asc fun x hx => ?_
  rw [f.leads]
  obtain ⟨y, h1, h2⟩ := (e.leads x).mp hx
  exact ⟨y, h y h1, h2⟩
/-! ### what an elimination leaves, from the ends -/
/-- the rows of A, eliminated over w places -/
structure El (w : Nat) (A E : List (Vc F)) (l : List Nat) : Prop where
  ei : EI E l w
  len : E.length = A.length
  sp : ∀ x, Sp E x ↔ Sp A x
  ind : Ind A → Ind E
def Wd (w : Nat) (A : List (Vc F)) : Prop := ∀ v ∈ A, ∀ k, w ≤ k → v k = 0
theorem Wd.sp (h : Wd w A) {x : Vc F} (hx : Sp A x) : ∀ k, w ≤ k → x k = 0 := fun k hk => by
  refine hx.ind (fun x => x k = 0) rfl fun x c v h1 hv => ?_
  show x k + c * v k = 0
  have h1 : x k = 0 := h1
  rw [h1, h v hv k hk]; grind
theorem Wd.row (h : Wd w A) (j k : Nat) (hk : w ≤ k) : row A j k = 0 := h.sp (row_mem j) k hk
theorem Wd.of (h : Wd w A) (hb : ∀ v ∈ B, Sp A v) : Wd w B := fun v hv => h.sp (hb v hv)
theorem El.tr (h : El w (aug w 0 V) E l) : Tr w V E l := ⟨h.ei, by rw [h.len, aug_length], h.sp, h.ind (aug_ind V)⟩
/-- the rows that lead -/
def bs (E : List (Vc F)) (l : List Nat) : List (Vc F) := E.take l.length
theorem El.rf (h : El w A E l) : Rf (bs E l) l := h.ei.rf
theorem El.bsp (h : El w A E l) (hw : Wd w A) (x : Vc F) : Sp (bs E l) x ↔ Sp A x := by
  rw [← h.sp]
  constructor
  · exact Sp.mono fun v hv => .mem (List.mem_of_mem_take hv)
  · intro hx
    obtain ⟨c, hc⟩ := hx.lc
    refine (lc_sp (bs E l) c).congr fun k => ?_
    rw [hc]
    refine (lc_take l.length E c k fun i hi => ?_).symm
    by_cases hk : k < w
    · rw [h.ei.zero i hi k hk]; grind
    · rw [hw.sp ((h.sp _).mp (row_mem i)) k (by omega)]; grind
theorem El.blen (h : El w A E l) : (bs E l).length = l.length := by
  have := h.ei.le
  simp [bs]
  omega
theorem El.full (h : El w A E l) (hw : Wd w A) (hi : Ind A) : l.length = A.length := by
  rw [← h.len]
  exact h.ei.full (h.ind hi) fun j k hk => hw.sp ((h.sp _).mp (row_mem j)) k hk
/-- dimension: any two eliminations of what spans the same -/
theorem El.same {A' E' : List (Vc F)} {l' : List Nat} {w' : Nat} (h : El w A E l) (hw : Wd w A) (h' : El w' A' E' l') (hw' : Wd w' A') (s : ∀ x, Sp A x ↔ Sp A' x) : bs E l = bs E' l' ∧ l = l' :=
  h.rf.uniq h'.rf fun x => by rw [h.bsp hw, h'.bsp hw', s]
/-! ### rows and columns -/
/-- the numbers of a column -/
def cols (w : Nat) (V : List (Vc F)) : List (Vc F) := (List.range w).map fun k j => row V j k
theorem cols_length : (cols w V).length = w := by simp [cols]
theorem cols_row {k : Nat} (h : k < w) (j : Nat) : row (cols w V) k j = row V j k := by
  rw [row_at (by rw [cols_length]; exact h)]
  unfold cols
  rw [List.getElem_map, List.getElem_range]
theorem cols_wd : Wd V.length (cols w V) := fun v hv j hj => by
  obtain ⟨k, _, rfl⟩ := List.mem_map.mp hv
  show row V j k = 0
  rw [row_out hj]
/-- a sum of columns, at one row -/
def dot : Nat → Vc F → Vc F → F
  | 0, _, _ => 0
  | w + 1, x, y => dot w x y + x w * y w
theorem lc_append : ∀ (A B : List (Vc F)) (t : Vc F) (k : Nat), lc t (A ++ B) k = lc t A k + lc (fun i => t (i + A.length)) B k
  | [], B, t, k => by show lc t B k = 0 + lc t B k; grind
  | v :: A, B, t, k => by
    have := lc_append A B (fun i => t (i + 1)) k
    show t 0 * v k + lc (fun i => t (i + 1)) (A ++ B) k = (t 0 * v k + lc (fun i => t (i + 1)) A k) + lc (fun i => t (i + (A.length + 1))) B k
    rw [this]
    have e : (fun i => t (i + A.length + 1)) = fun i => t (i + (A.length + 1)) := by funext i; congr 1
    rw [show lc (fun i => (fun i => t (i + 1)) (i + A.length)) B k = lc (fun i => t (i + (A.length + 1))) B k from by rw [← e]]
    grind
theorem cols_lc : ∀ (w : Nat) (V : List (Vc F)) (t : Vc F) (j : Nat), lc t (cols w V) j = dot w t (row V j)
  | 0, V, t, j => rfl
  | w + 1, V, t, j => by
    have h : cols (w + 1) V = cols w V ++ [fun j => row V j w] := by simp [cols, List.range_succ]
    rw [h, lc_append, cols_lc w, cols_length]
    show dot w t (row V j) + (t (0 + w) * row V j w + 0) = dot w t (row V j) + t w * row V j w
    rw [Nat.zero_add]
    grind
theorem dot_comm : ∀ (w : Nat) (x y : Vc F), dot w x y = dot w y x
  | 0, _, _ => rfl
  | w + 1, x, y => by
    show dot w x y + x w * y w = dot w y x + y w * x w
    rw [dot_comm w x y]; grind
theorem dot_add : ∀ (w : Nat) (x y v : Vc F) (c : F), dot w (fun k => x k + c * v k) y = dot w x y + c * dot w v y
  | 0, x, y, v, c => by show (0 : F) = 0 + c * 0; grind
  | w + 1, x, y, v, c => by
    have := dot_add w x y v c
    show dot w (fun k => x k + c * v k) y + (x w + c * v w) * y w = (dot w x y + x w * y w) + c * (dot w v y + v w * y w)
    rw [this]; grind
theorem dot_zero : ∀ (w : Nat) (y : Vc F), dot w (fun _ => 0) y = 0
  | 0, _ => rfl
  | w + 1, y => by
    have := dot_zero w y
    show dot w (fun _ => 0) y + 0 * y w = 0
    rw [this]; grind
/-- what is square to all rows -/
def Sq (w : Nat) (V : List (Vc F)) (x : Vc F) : Prop := (∀ v ∈ V, dot w v x = 0) ∧ ∀ k, w ≤ k → x k = 0
theorem Sq.sp {x y : Vc F} (h : Sq w V x) (hy : Sp V y) : dot w y x = 0 :=
  hy.ind (fun y => dot w y x = 0) (dot_zero w x) fun y c v h1 hv => by
    show dot w (fun k => y k + c * v k) x = 0
    have h1 : dot w y x = 0 := h1
    rw [dot_add, h1, h.1 v hv]; grind
theorem nl_cols (t : Vc F) : Nl V.length (cols w V) t ↔ Sq w V t := by
  unfold Nl Sq
  rw [cols_length]
  constructor
  · rintro ⟨h1, h2⟩
    refine ⟨fun v hv => ?_, h2⟩
    obtain ⟨j, hj, rfl⟩ := List.getElem_of_mem hv
    have := h1 j hj
    rw [cols_lc, row_at hj, dot_comm] at this
    exact this
  · rintro ⟨h1, h2⟩
    refine ⟨fun j hj => ?_, h2⟩
    rw [cols_lc, row_at hj, dot_comm]
    exact h1 _ (List.getElem_mem hj)
end LA
end

section
set_option linter.all false
namespace LA
open Lean.Grind
variable {F : Type} [CommRing F] [Fd F] {A B V E : List (Vc F)} {l m : List Nat} {P w : Nat}
theorem swp_sp {i j : Nat} (hi : i < A.length) (hj : j < A.length) (x : Vc F) : Sp (swp A i j) x ↔ Sp A x :=
  ⟨Sp.mono fun v hv => .mem ((swp_mem hi hj).mp hv), Sp.mono fun v hv => .mem ((swp_mem hi hj).mpr hv)⟩
theorem El.ex : ∀ (w : Nat) (A : List (Vc F)), ∃ E l, El w A E l
  | 0, A => ⟨A, [], .start A, rfl, fun x => Iff.rfl, id⟩
  | w + 1, A => by
    obtain ⟨E, l, h⟩ := El.ex w A
    by_cases g : ∃ j, l.length ≤ j ∧ row E j w ≠ 0
    · obtain ⟨j, h1, h2⟩ := g
      have hj : j < E.length := Classical.byContradiction fun q => h2 (by rw [row_out (by omega)])
      have hr : l.length < (swp E l.length j).length := by rw [swp_length]; omega
      have hrow : row (swp E l.length j) l.length w ≠ 0 := by
        rw [swp_row (by omega) hj]
        split
        · rename_i e; rw [e]; exact h2
        · rw [if_pos rfl]; exact h2
      obtain ⟨u, hu⟩ := Fd.inv _ hrow
      refine ⟨_, _, (h.ei.swap h1 hj).elim hr hu, by rw [elim_length, swp_length, h.len], fun x => ?_, fun hi => ?_⟩
      · rw [elim_sp hr hu, swp_sp (by omega) hj, h.sp]
      · exact elim_ind hr hu (swp_ind (by omega) hj (h.ind hi))
    · exact ⟨E, l, h.ei.skip fun j hj => Classical.byContradiction fun q => g ⟨j, hj, q⟩, h.len, h.sp, h.ind⟩
theorem aug_wd : Wd (w + V.length) (aug w 0 V) := fun v hv k hk => by
  obtain ⟨j, hj, rfl⟩ := List.getElem_of_mem hv
  have h := lc_dl (aug w 0 V) j hj k
  rw [← h, aug_lc, if_neg (by omega), if_neg (by omega)]
theorem trs_wd (h : Tr w V E l) : Wd V.length (trs w E l) := fun v hv k hk => by
  obtain ⟨u, hu, rfl⟩ := List.mem_map.mp hv
  exact (aug_sp ((h.sp u).mp (.mem (List.mem_of_mem_drop hu)))).2 _ (by omega)
theorem Tr.leads {E0 : List (Vc F)} {l0 : List Nat} (h : Tr w V E l) (h0 : El w V E0 l0) (hw : Wd w V) : tops w E l = bs E0 l0 ∧ l = l0 :=
  h.rf.uniq h0.rf fun x => by rw [h.spans hw, h0.bsp hw]
/-- rows that come to nothing: as many as are not led -/
theorem null_rank {N E0 E1 : List (Vc F)} {l0 l1 : List Nat} {w1 : Nat} (h0 : El w V E0 l0) (hw : Wd w V) (hN : ∀ x, Sp N x ↔ Nl w V x) (h1 : El w1 N E1 l1) (hw1 : Wd w1 N) : l1.length + l0.length = V.length := by
  obtain ⟨E, l, h⟩ := El.ex w (aug w 0 V)
  have t := h.tr
  obtain ⟨E2, l2, h2⟩ := El.ex V.length (trs w E l)
  have e2 := h2.full (trs_wd t) t.free
  have e1 := (h1.same hw1 h2 (trs_wd t) fun x => by rw [hN, t.null]).2
  have e0 := (t.leads h0 hw).2
  have := t.count
  rw [e1, e2, ← e0]
  exact this
theorem cols_cols (hw : Wd w V) : cols V.length (cols w V) = V := by
  refine List.ext_getElem (by rw [cols_length]) fun j h1 h2 => ?_
  rw [← row_at h1, ← row_at h2]
  rw [cols_length] at h1
  funext k
  rw [cols_row h1]
  by_cases hk : k < w
  · rw [cols_row hk]
  · rw [row_out (by rw [cols_length]; omega), hw.row j k (by omega)]
theorem lc_fun {C : List (Vc F)} : ∀ (B : List (Vc F)) (G : Nat → Vc F) (k : Nat), (∀ i, i < B.length → Sp C (G i)) → Sp C (fun j => lc (fun i => G i j) B k)
  | [], G, k, _ => .zero
  | v :: B, G, k, h => by
    have ih := lc_fun B (fun i => G (i + 1)) k fun i hi => h (i + 1) (by simp; omega)
    exact (ih.addV (v k) (h 0 (by simp))).congr fun j => by
      show lc (fun i => G (i + 1) j) B k + v k * G 0 j = G 0 j * v k + lc (fun i => G (i + 1) j) B k
      grind
theorem cols_le {E0 E1 : List (Vc F)} {l0 l1 : List Nat} (h0 : El w V E0 l0) (hw : Wd w V) (h1 : El V.length (cols w V) E1 l1) : l1.length ≤ l0.length := by
  have hs : ∀ x, Sp (cols w V) x → Sp (l0.map fun k => row (cols w V) k) x := fun x => Sp.mono fun v hv => by
    obtain ⟨k, hk, rfl⟩ := List.mem_map.mp hv
    have hk : k < w := List.mem_range.mp hk
    have q := lc_fun (C := l0.map fun k => row (cols w V) k) (bs E0 l0) (fun i j => row V j (l0.getD i 0)) k (fun i hi => by
      have hi' : i < l0.length := by rw [h0.blen] at hi; exact hi
      rw [List.getD_eq_getElem?_getD, List.getElem?_eq_getElem hi']
      refine (Sp.mem (List.mem_map.mpr ⟨l0[i], List.getElem_mem hi', rfl⟩)).congr fun j => ?_
      exact cols_row (h0.ei.lt _ (List.getElem_mem hi')) j)
    refine q.congr fun j => ?_
    exact (h0.rf.eq ((h0.bsp hw _).mpr (row_mem j)) k).symm
  obtain ⟨E2, l2, h2⟩ := El.ex V.length (l0.map fun k => row (cols w V) k)
  have hw2 : Wd V.length (l0.map fun k => row (cols w V) k) := fun v hv j hj => by
    obtain ⟨k, _, rfl⟩ := List.mem_map.mp hv
    exact cols_wd.row k j hj
  have := h1.rf.le h2.rf fun x hx => (h2.bsp hw2 x).mpr (hs x ((h1.bsp cols_wd x).mp hx))
  rw [h1.blen, h2.blen] at this
  have := h2.ei.le
  rw [h2.len] at this
  simp at this
  omega
theorem cols_rank {E0 E1 : List (Vc F)} {l0 l1 : List Nat} (h0 : El w V E0 l0) (hw : Wd w V) (h1 : El V.length (cols w V) E1 l1) : l1.length = l0.length := by
  have a := cols_le h0 hw h1
  have b := cols_le (w := V.length) (V := cols w V) (E1 := E0) (l1 := l0) h1 cols_wd (by rw [cols_cols hw, cols_length]; exact h0)
  omega
/-- what is square to all rows: as many as are not led -/
theorem perp_rank {N E0 E1 : List (Vc F)} {l0 l1 : List Nat} (h0 : El w V E0 l0) (hw : Wd w V) (hN : ∀ x, Sp N x ↔ Sq w V x) (h1 : El w N E1 l1) : l1.length + l0.length = w := by
  have hwN : Wd w N := fun v hv => ((hN v).mp (.mem hv)).2
  obtain ⟨E2, l2, h2⟩ := El.ex V.length (cols w V)
  have := null_rank h2 cols_wd (fun x => by rw [hN, nl_cols]) h1 hwN
  rw [cols_length, cols_rank h0 hw h2] at this
  exact this
theorem perp_perp {N M : List (Vc F)} (hw : Wd w V) (hN : ∀ x, Sp N x ↔ Sq w V x) (hM : ∀ x, Sp M x ↔ Sq w N x) (x : Vc F) : Sp M x ↔ Sp V x := by
  have hwN : Wd w N := fun v hv => ((hN v).mp (.mem hv)).2
  have hwM : Wd w M := fun v hv => ((hM v).mp (.mem hv)).2
  obtain ⟨E0, l0, h0⟩ := El.ex w V
  obtain ⟨E1, l1, h1⟩ := El.ex w N
  obtain ⟨E2, l2, h2⟩ := El.ex w M
  have a := perp_rank h0 hw hN h1
  have b := perp_rank h1 hwN hM h2
  have hVM : ∀ x, Sp V x → Sp M x := fun x => Sp.mono fun v hv => (hM v).mpr ⟨fun u hu => by
    have := ((hN u).mp (.mem hu)).1 v hv
    rw [dot_comm]
    exact this, hw v hv⟩
  have e := (h0.rf.sub h2.rf (fun x hx => (h2.bsp hwM x).mpr (hVM x ((h0.bsp hw x).mp hx))) (by rw [h0.blen, h2.blen]; omega)).1
  rw [← h2.bsp hwM, ← h0.bsp hw, e]
end LA
end

section
set_option linter.all false
namespace LA
open Lean.Grind
/-- a number as a residue -/
def cz {F : Type} [CommRing F] (x : Int) : F := @IntCast.intCast F Ring.intCast x
section
variable {F : Type} [CommRing F]
theorem cz_add (x y : Int) : cz (F := F) (x + y) = cz x + cz y := Ring.intCast_add x y
theorem cz_mul (x y : Int) : cz (F := F) (x * y) = cz x * cz y := Ring.intCast_mul x y
theorem cz_neg (x : Int) : cz (F := F) (-x) = -cz x := Ring.intCast_neg x
theorem cz_zero : cz (F := F) 0 = 0 := Ring.intCast_zero
theorem cz_one : cz (F := F) 1 = 1 := Ring.intCast_one
theorem cz_sub (x y : Int) : cz (F := F) (x - y) = cz x - cz y := by rw [Int.sub_eq_add_neg, cz_add, cz_neg]; grind
variable {p : Nat} [IsCharP F p]
theorem cz_eq {x y : Int} : cz (F := F) x = cz y ↔ x % p = y % p := IsCharP.intCast_ext_iff p
theorem cz_fmod (hp : 0 < p) (x : Int) : cz (F := F) (x.fmod p) = cz x := by
  rw [cz_eq (p := p), Int.fmod_eq_emod_of_nonneg _ (by omega)]
  exact Int.emod_emod_of_dvd x (Int.dvd_refl _)
theorem cz_inj {x y : Int} (hx : 0 ≤ x ∧ x < p) (hy : 0 ≤ y ∧ y < p) (h : cz (F := F) x = cz y) : x = y := by
  rw [cz_eq (p := p), Int.emod_eq_of_lt hx.1 hx.2, Int.emod_eq_of_lt hy.1 hy.2] at h
  exact h
/-- rows of numbers as rows of residues -/
def vc (r : List Int) : Vc F := fun k => cz (r.getD k 0)
theorem vc_out {r : List Int} {k : Nat} (h : r.length ≤ k) : vc (F := F) r k = 0 := by
  unfold vc
  rw [List.getD_eq_getElem?_getD, List.getElem?_eq_none h]
  exact cz_zero
theorem vc_at {r : List Int} {k : Nat} (h : k < r.length) : vc (F := F) r k = cz r[k] := by
  unfold vc
  rw [List.getD_eq_getElem?_getD, List.getElem?_eq_getElem h]
  rfl
theorem vc_inj {r s : List Int} (h : r.length = s.length) (hr : ∀ x ∈ r, 0 ≤ x ∧ x < (p : Int)) (hs : ∀ x ∈ s, 0 ≤ x ∧ x < (p : Int)) (e : vc (F := F) r = vc s) : r = s := by
  refine List.ext_getElem h fun k h1 h2 => ?_
  have := congrFun e k
  rw [vc_at h1, vc_at h2] at this
  exact cz_inj (F := F) (p := p) (hr _ (List.getElem_mem h1)) (hs _ (List.getElem_mem h2)) this
end
instance fd2 : Fd (Fin 2) := ⟨by decide, by decide⟩
instance fd3 : Fd (Fin 3) := ⟨by decide, by decide⟩
instance fd5 : Fd (Fin 5) := ⟨by decide, by decide⟩
end LA
end

section
set_option linter.all false
set_option maxRecDepth 100000
set_option maxHeartbeats 1000000
namespace K03
open PySem PD
/-- what a take leaves: a number below k, and a tin again -/
theorem take_pos (x y z k : Int) (hk : 0 < k) (hd : divOk k = true) (hx : 0 < x) : g__law_take [.ow true [.int x, .int y, .int z], .fz (.int k)] = some (.ok (.int (x.fmod k)), [.ow true [.int (x.fdiv k), .int y, .int z], .fz (.int k)]) := by
  have h0 : k ≠ 0 := by omega
  simp [g__law_take, runD, B__law_take, sSeq, sIf, bnd, PD.ret, lif, xBool, xBin, xIxO, xCall, sAsg, sSub, sRet, sSkip, gtD, intsD, ixD, L2.atI, L2.ixN, boolD, modD, fdivD, intD, xVar, sName, keepO, keepD, Cell.free, hx, h0, hd]

theorem sm_mod (w : Int) : small64 (w.fmod 40009 + 7) = true := by
  have h1 := Int.fmod_nonneg_of_pos w (b := 40009) (by decide)
  have h2 := Int.fmod_lt_of_pos w (b := 40009) (by decide)
  unfold small64
  simp only [Bool.and_eq_true, decide_eq_true_eq]
  omega
theorem sm_z {z : Int} (h1 : 0 ≤ z) (h2 : z < 1000000) : small64 (39373 + (z + 1)) = true := by
  unfold small64
  simp only [Bool.and_eq_true, decide_eq_true_eq]
  omega
theorem take_neg (x y z k : Int) (hk : 0 < k) (hd : divOk k = true) (hx : ¬ 0 < x) (z0 : 0 ≤ z) (z1 : z < 1000000) : ∃ v : Int, g__law_take [.ow true [.int x, .int y, .int z], .fz (.int k)] = some (.ok (.int (v.fmod k)), [.ow true [.int x, .int y, .int (z + 1)], .fz (.int k)]) := by
  have h0 : k ≠ 0 := by omega
  have d1 : divOk 1000003 = true := by decide
  have d2 : divOk 64 = true := by decide
  have s1 : small64 48271 = true := by decide
  have s2 := sm_z z0 z1
  refine ⟨?v, ?h⟩
  case h =>
   simp [g__law_take, runD, B__law_take, sSeq, sIf, bnd, PD.ret, lif, xBool, xBin, xIxO, xCall, sAsg, sSub, sRet, sSkip, gtD, intsD, ixD, L2.atI, L2.ixN, boolD, modD, fdivD, intD, addD, addI, mulD, mulI, mulOk, xVar, sName, keepO, keepD, Cell.free, hx, h0, d1, d2, s1, s2, sm_mod]
   rfl
theorem take_any (x y z k : Int) (hk : 0 < k) (hd : divOk k = true) (z0 : 0 ≤ z) (z1 : z < 1000000) : ∃ v x' z' : Int, g__law_take [.ow true [.int x, .int y, .int z], .fz (.int k)] = some (.ok (.int v), [.ow true [.int x', .int y, .int z'], .fz (.int k)]) ∧ 0 ≤ v ∧ v < k ∧ 0 ≤ z' ∧ z' ≤ z + 1 := by
  by_cases hx : 0 < x
  · exact ⟨_, _, _, take_pos x y z k hk hd hx, Int.fmod_nonneg_of_pos _ hk, Int.fmod_lt_of_pos _ hk, z0, by omega⟩
  · obtain ⟨v, h⟩ := take_neg x y z k hk hd hx z0 z1
    exact ⟨_, _, _, h, Int.fmod_nonneg_of_pos _ hk, Int.fmod_lt_of_pos _ hk, by omega, by omega⟩
end K03
namespace K03
open PySem PD
theorem ints_map (l : List Int) : ints? (l.map .int) = some l := by
  induction l with
  | nil => rfl
  | cons x l ih => simp [ints?, ih]
theorem comp_mul {p : Int} {a b : PyData} {l m : List Int} (hl : l.length ≤ 1000) (hs : ∀ x ∈ l, small64 x = true) :
    compD [3, 4] (sTup 2 (sCons (sName 3) (sCons (sName 4) sNil))) (PD.ret true) (xBin mulD (xVar 3) (xVar 4)) (pairL (l.map .int) (m.map .int)) [] [.fz (.int p), .fz a, .fz b, .un, .un] = some ((List.zipWith (· * ·) l m).map .int, [.fz (.int p), .fz a, .fz b, .un, .un]) := by
  have q := comp_map (is := [3, 4]) (set := sTup 2 (sCons (sName 3) (sCons (sName 4) sNil))) (el := xBin mulD (xVar 3) (xVar 4)) (ds := pairL (l.map .int) (m.map .int)) (acc := []) (δ := [.fz (.int p), .fz a, .fz b, .un, .un])
    (fun d => match d with | .tuple [.int x, .int y] => .int (x * y) | _ => .none) (by rw [pairL_length]; simp; omega) (fun d hd => by
      rw [pairL_ints] at hd
      obtain ⟨x, y, hx, hd⟩ : ∃ x y, x ∈ l ∧ d = .tuple [.int x, .int y] := by
        obtain ⟨j, hj, e⟩ := List.getElem_of_mem hd
        rw [List.getElem_zipWith] at e
        exact ⟨_, _, List.getElem_mem _, e.symm⟩
      subst hd
      have h1 := hs x hx
      refine ⟨_, _, by simp [sTup, sCons, sName, sNil, Cell.free]; rfl, by simp [xBin, xVar, bnd, lif, mulD, mulI, intsD, mulOk, h1]; rfl, by simp [noOw], by simp [wipeD]⟩)
  rw [q, pairL_ints, List.map_zipWith, List.map_zipWith]
  rfl
end K03
namespace K03
open PySem PD
/-- a row more -/
def lin (p : Int) (l m : List Int) (f : Int) : List Int := List.zipWith (fun o s => (o + f * s).fmod p) l m
theorem lin_map {p f : Int} {l m : List Int} : (pairL (l.map .int) (m.map .int)).map (fun d => match d with | .tuple [.int x, .int y] => PyData.int ((x + f * y).fmod p) | _ => .none) = (lin p l m f).map .int := by
  rw [pairL_ints, List.map_zipWith, lin, List.map_zipWith]
theorem pair_mem {l m : List Int} {d : PyData} (hd : d ∈ pairL (l.map .int) (m.map .int)) : ∃ x y : Int, d = .tuple [.int x, .int y] := by
  rw [pairL_ints] at hd
  obtain ⟨j, hj, e⟩ := List.getElem_of_mem hd
  rw [List.getElem_zipWith] at e
  exact ⟨_, _, e.symm⟩
theorem comp_lin {p f : Int} {a b : PyData} {l m : List Int} (hp : p ≠ 0) (hl : l.length ≤ 1000) (hf : small64 f = true) :
    compD [4, 5] (sTup 2 (sCons (sName 4) (sCons (sName 5) sNil))) (PD.ret true) (xBin modD (xCall intD (bnd (xBin addD (xVar 4) (xBin mulD (xVar 3) (xVar 5))) fun d => bnd (PD.ret []) fun ds => PD.ret (d :: ds))) (xVar 0)) (pairL (l.map .int) (m.map .int)) [] [.fz (.int p), .fz a, .fz b, .fz (.int f), .un, .un]
      = some ((lin p l m f).map .int, [.fz (.int p), .fz a, .fz b, .fz (.int f), .un, .un]) := by
  have q := PD.comp_map (is := [4, 5]) (set := sTup 2 (sCons (sName 4) (sCons (sName 5) sNil))) (el := xBin modD (xCall intD (bnd (xBin addD (xVar 4) (xBin mulD (xVar 3) (xVar 5))) fun d => bnd (PD.ret []) fun ds => PD.ret (d :: ds))) (xVar 0)) (ds := pairL (l.map .int) (m.map .int)) (acc := []) (δ := [.fz (.int p), .fz a, .fz b, .fz (.int f), .un, .un])
    (fun d => match d with | PyData.tuple [PyData.int x, PyData.int y] => PyData.int ((x + f * y).fmod p) | _ => PyData.none) (by rw [pairL_length]; simp; omega) (fun d hd => by
      obtain ⟨x, y, rfl⟩ := pair_mem hd
      exact ⟨_, _, by simp [sTup, sCons, sName, sNil, Cell.free]; rfl, by simp [xBin, xVar, xCall, bnd, lif, PD.ret, mulD, mulI, addD, addI, modD, intD, intsD, mulOk, hf, hp]; rfl, by simp [noOw], by simp [wipeD]⟩)
  rw [q, lin_map]
  rfl
theorem plus_eq {p f : Int} {a b : PyData} {l m : List Int} (hp : p ≠ 0) (ha : seqD a = some (l.map .int)) (hb : seqD b = some (m.map .int)) (hl : l.length ≤ 1000) (hf : small64 f = true) :
    g__law_plus [.fz (.int p), .fz a, .fz b, .fz (.int f)] = some (.ok (.tuple ((lin p l m f).map .int)), [.fz (.int p), .fz a, .fz b, .fz (.int f)]) := by
  have hc := comp_lin (p := p) (a := a) (b := b) (m := m) hp hl hf
  simp [g__law_plus, runD, B__law_plus, sRet, xCall, xCallF', xComp, bnd, PD.ret, lif, xVar, zipD, ha, hb, noOw, wipeD, keepO]
  unfold PD.ret at hc
  simp only [xBin, bnd, lif, xVar, xCall] at hc
  simp [xBin, bnd, lif, xVar, hc, backD, keepD, tupleD]
end K03
namespace K03
open PySem PD
/-- rows by factors, summed up from a line on -/
def comb (p : Int) : List Int → List (List Int) → List Int → List Int
  | line, r :: rows, f :: fs => comb p (lin p line r f) rows fs
  | line, _, _ => line
/-- data that are the rows -/
inductive Rows : List PyData → List (List Int) → Prop
  | nil : Rows [] []
  | cons {v : PyData} {vs : List PyData} {r : List Int} {rows : List (List Int)} : seqD v = some (r.map .int) → Rows vs rows → Rows (v :: vs) (r :: rows)
abbrev mixSet : Tg := sTup 2 (sCons (sName 5) (sCons (sName 6) sNil))
abbrev mixBody : MS := sAsg (xDef g__law_plus (bnd (xVar 0) fun d => bnd (bnd (xVar 4) fun d => bnd (bnd (xVar 5) fun d => bnd (bnd (xVar 6) fun d => bnd (PD.ret []) fun ds => PD.ret (d :: ds)) fun ds => PD.ret (d :: ds)) fun ds => PD.ret (d :: ds)) fun ds => PD.ret (d :: ds))) (sName 4)
theorem lin_len {p f : Int} {l m : List Int} : (lin p l m f).length ≤ l.length := by
  unfold lin
  rw [List.length_zipWith]
  omega
theorem mixed_loop {p : Int} (hp : p ≠ 0) (a b : PyData) (n : Int) : ∀ {vs : List PyData} {rows : List (List Int)}, Rows vs rows → ∀ (fs : List Int), (∀ f ∈ fs, small64 f = true) → ∀ (line : List Int), line.length ≤ 1000 → ∀ c5 c6 : Cell, c5.free = true → c6.free = true →
    ∃ c5' c6', loopD mixSet mixBody (pairL vs (fs.map .int)) [.fz (.int p), .fz a, .fz b, .fz (.int n), .fz (.tuple (line.map .int)), c5, c6] = some (.ok .nx, [.fz (.int p), .fz a, .fz b, .fz (.int n), .fz (.tuple ((comb p line rows fs).map .int)), c5', c6'])
  | _, _, .nil, fs, _, line, _, c5, c6, _, _ => ⟨c5, c6, by simp [pairL, loopD, comb]⟩
  | _, _, .cons _ _, [], _, line, _, c5, c6, _, _ => ⟨c5, c6, by simp [pairL, loopD, comb]⟩
  | _, _, .cons (v := v) (r := r) hv t, f :: fs, hf, line, hl, c5, c6, h5, h6 => by
    obtain ⟨d5, d6, e⟩ := mixed_loop hp a b n t fs (fun g hg => hf g (List.mem_cons_of_mem _ hg)) (lin p line r f) (Nat.le_trans lin_len hl) (.fz v) (.fz (.int f)) rfl rfl
    refine ⟨d5, d6, ?_⟩
    have q := plus_eq (p := p) (f := f) (a := .tuple (line.map .int)) (b := v) (l := line) (m := r) hp rfl hv hl (hf f (List.mem_cons_self ..))
    have h1 : mixSet (.tuple [v, .int f]) [.fz (.int p), .fz a, .fz b, .fz (.int n), .fz (.tuple (line.map .int)), c5, c6] = some [.fz (.int p), .fz a, .fz b, .fz (.int n), .fz (.tuple (line.map .int)), .fz v, .fz (.int f)] := by
      simp [mixSet, sTup, sCons, sName, sNil, h5, h6]
    have h2 : mixBody [.fz (.int p), .fz a, .fz b, .fz (.int n), .fz (.tuple (line.map .int)), .fz v, .fz (.int f)] = some (.ok .nx, [.fz (.int p), .fz a, .fz b, .fz (.int n), .fz (.tuple ((lin p line r f).map .int)), .fz v, .fz (.int f)]) := by
      simp [mixBody, sAsg, xDef, xVar, bnd, PD.ret, q, sName, Cell.free]
    show loopD mixSet mixBody (.tuple [v, .int f] :: pairL _ (fs.map .int)) _ = _
    unfold loopD
    simp only [h1, h2, e]
    rfl
theorem mixed_eq {p : Int} {a b : PyData} {n : Nat} {vs : List PyData} {rows : List (List Int)} {fs : List Int} (hp : p ≠ 0) (ha : seqD a = some vs) (hr : Rows vs rows) (hb : seqD b = some (fs.map .int)) (hf : ∀ f ∈ fs, small64 f = true) (hn : n ≤ 1000) :
    g__law_mixed [.fz (.int p), .fz a, .fz b, .fz (.int n)] = some (.ok (.tuple ((comb p (List.replicate n 0) rows fs).map .int)), [.fz (.int p), .fz a, .fz b, .fz (.int n)]) := by
  obtain ⟨c5, c6, e⟩ := mixed_loop hp a b n hr fs hf (List.replicate n 0) (by simp; exact hn) .un .un rfl rfl
  have hm : mulD (.tuple [.int 0]) (.int (n : Int)) = some (.tuple ((List.replicate n (0 : Int)).map .int)) := by
    simp [mulD, mulI, intsD, repT]
    omega
  have h0 : ((1 : Nat) ≤ sizeLine) := by rw [sizeLine_eq]; omega
  have q : sFor (xCallF' zipD (bnd (xVar 1) fun d => bnd (bnd (xVar 2) fun d => bnd (PD.ret []) fun ds => PD.ret (d :: ds)) fun ds => PD.ret (d :: ds))) mixSet mixBody [.fz (.int p), .fz a, .fz b, .fz (.int n), .fz (.tuple ((List.replicate n (0 : Int)).map .int)), .un, .un] = some (.ok .nx, [.fz (.int p), .fz a, .fz b, .fz (.int n), .fz (.tuple ((comb p (List.replicate n 0) rows fs).map .int)), c5, c6]) := by
    simp only [sFor, xCallF', bnd, PD.ret, lif, xVar, zipD, ha, hb, List.getElem?_cons_succ, List.getElem?_cons_zero]
    exact e
  show runD 7 (sSeq (sAsg (xBin mulD (xTup (bnd (PD.ret (.int 0)) fun d => bnd (PD.ret []) fun ds => PD.ret (d :: ds))) (xVar 3)) (sName 4)) (sSeq (sFor (xCallF' zipD (bnd (xVar 1) fun d => bnd (bnd (xVar 2) fun d => bnd (PD.ret []) fun ds => PD.ret (d :: ds)) fun ds => PD.ret (d :: ds))) mixSet mixBody) (sRet (xVar 4)))) _ = _
  have q0 : sAsg (xBin mulD (xTup (bnd (PD.ret (.int 0)) fun d => bnd (PD.ret []) fun ds => PD.ret (d :: ds))) (xVar 3)) (sName 4) [.fz (.int p), .fz a, .fz b, .fz (.int n), .un, .un, .un] = some (.ok .nx, [.fz (.int p), .fz a, .fz b, .fz (.int n), .fz (.tuple ((List.replicate n (0 : Int)).map .int)), .un, .un]) := by
    simp only [sAsg, xBin, xTup, bnd, PD.ret, lif, xVar, List.getElem?_cons_succ, List.getElem?_cons_zero, List.length_cons, List.length_nil, Nat.zero_add, h0, if_true, hm, sName, Cell.free]
    rfl
  simp only [runD, List.length_cons, List.length_nil]
  show (match sSeq _ _ [.fz (.int p), .fz a, .fz b, .fz (.int n), .un, .un, .un] with | some (.ok (.rt d), δ) => _ | some (.ok (.rf ds), δ) => _ | some (.ok .nx, δ) => _ | some (.ex c fs, δ) => _ | _ => _) = _
  unfold sSeq
  rw [q0]
  dsimp only
  rw [q]
  simp [sRet, bnd, xVar, PD.ret, keepO, keepD]
end K03
namespace K03
open PySem PD
/-- .. where a factor 0 is passed over -/
def combR (p : Int) : List Int → List (List Int) → List Int → List Int
  | line, r :: rows, f :: fs => combR p (if f = 0 then line else lin p line r f) rows fs
  | line, _, _ => line
def linD (p f : Int) (d : PyData) : PyData := match d with | PyData.tuple [PyData.int x, PyData.int y] => PyData.int ((x + f * y).fmod p) | _ => PyData.none
theorem linD_map {p f : Int} {l m : List Int} : (pairL (l.map .int) (m.map .int)).map (linD p f) = (lin p l m f).map .int := by
  rw [pairL_ints, List.map_zipWith, lin, List.map_zipWith]
  rfl
abbrev rowEl : M PyData := xBin modD (xBin addD (xVar 7) (xBin mulD (xVar 6) (xVar 8))) (xVar 0)
abbrev rowLc : M PyData := bnd (xComp (xCallF' zipD (bnd (xVar 4) fun d => bnd (bnd (xVar 5) fun d => bnd (PD.ret []) fun ds => PD.ret (d :: ds)) fun ds => PD.ret (d :: ds))) [7, 8] (sTup 2 (sCons (sName 7) (sCons (sName 8) sNil))) (PD.ret true) rowEl) fun ds => PD.ret (.list ds)
abbrev rowBody : MS := sIf (xTru (xVar 6)) (sAsg rowLc (sName 4)) sSkip
theorem comp_row {p f : Int} {a b n x y : PyData} {l m : List Int} (hp : p ≠ 0) (hl : l.length ≤ 1000) (hf : small64 f = true) :
    compD [7, 8] (sTup 2 (sCons (sName 7) (sCons (sName 8) sNil))) (PD.ret true) rowEl (pairL (l.map .int) (m.map .int)) [] [.fz (.int p), .fz a, .fz b, .fz n, .fz x, .fz y, .fz (.int f), .un, .un]
      = some ((lin p l m f).map .int, [.fz (.int p), .fz a, .fz b, .fz n, .fz x, .fz y, .fz (.int f), .un, .un]) := by
  have q := PD.comp_map (is := [7, 8]) (set := sTup 2 (sCons (sName 7) (sCons (sName 8) sNil))) (el := rowEl) (ds := pairL (l.map .int) (m.map .int)) (acc := []) (δ := [.fz (.int p), .fz a, .fz b, .fz n, .fz x, .fz y, .fz (.int f), .un, .un])
    (linD p f) (by rw [pairL_length]; simp; omega) (fun d hd => by
      obtain ⟨x, y, rfl⟩ := pair_mem hd
      exact ⟨_, _, by simp [sTup, sCons, sName, sNil, Cell.free]; rfl, by simp [rowEl, xBin, xVar, xCall, bnd, lif, PD.ret, mulD, mulI, addD, addI, modD, intD, intsD, mulOk, hf, hp, linD]; rfl, by simp [noOw], by simp [wipeD]⟩)
  rw [q, linD_map]
  rfl
theorem row_loop {p : Int} (hp : p ≠ 0) (a b n : PyData) : ∀ {vs : List PyData} {rows : List (List Int)}, Rows vs rows → ∀ (fs : List Int), (∀ f ∈ fs, small64 f = true) → ∀ (line : List Int), line.length ≤ 1000 → ∀ c5 c6 : Cell, c5.free = true → c6.free = true →
    ∃ c5' c6', loopD mixSet rowBody (pairL vs (fs.map .int)) [.fz (.int p), .fz a, .fz b, .fz n, .fz (.list (line.map .int)), c5, c6, .un, .un] = some (.ok .nx, [.fz (.int p), .fz a, .fz b, .fz n, .fz (.list ((combR p line rows fs).map .int)), c5', c6', .un, .un])
  | _, _, .nil, fs, _, line, _, c5, c6, _, _ => ⟨c5, c6, by simp [pairL, loopD, combR]⟩
  | _, _, .cons _ _, [], _, line, _, c5, c6, _, _ => ⟨c5, c6, by simp [pairL, loopD, combR]⟩
  | _, _, .cons (v := v) (r := r) hv t, f :: fs, hf, line, hl, c5, c6, h5, h6 => by
    have hl2 : (if f = 0 then line else lin p line r f).length ≤ 1000 := by
      split
      · exact hl
      · exact Nat.le_trans lin_len hl
    obtain ⟨d5, d6, e⟩ := row_loop hp a b n t fs (fun g hg => hf g (List.mem_cons_of_mem _ hg)) (if f = 0 then line else lin p line r f) hl2 (.fz v) (.fz (.int f)) rfl rfl
    refine ⟨d5, d6, ?_⟩
    have q := comp_row (p := p) (f := f) (a := a) (b := b) (n := n) (x := .list (line.map .int)) (y := v) (l := line) (m := r) hp hl (hf f (List.mem_cons_self ..))
    have h1 : mixSet (.tuple [v, .int f]) [.fz (.int p), .fz a, .fz b, .fz n, .fz (.list (line.map .int)), c5, c6, .un, .un] = some [.fz (.int p), .fz a, .fz b, .fz n, .fz (.list (line.map .int)), .fz v, .fz (.int f), .un, .un] := by
      simp [mixSet, sTup, sCons, sName, sNil, h5, h6]
    have hz : xCallF' zipD (bnd (xVar 4) fun d => bnd (bnd (xVar 5) fun d => bnd (PD.ret []) fun ds => PD.ret (d :: ds)) fun ds => PD.ret (d :: ds)) [.fz (.int p), .fz a, .fz b, .fz n, .fz (.list (line.map .int)), .fz v, .fz (.int f), .un, .un] = some (.ok (pairL (line.map .int) (r.map .int)), [.fz (.int p), .fz a, .fz b, .fz n, .fz (.list (line.map .int)), .fz v, .fz (.int f), .un, .un]) := by
      have hs : seqD (.list (line.map .int)) = some (line.map .int) := rfl
      simp [xCallF', bnd, xVar, PD.ret, lif, zipD, hs, hv]
    have hlc : rowLc [.fz (.int p), .fz a, .fz b, .fz n, .fz (.list (line.map .int)), .fz v, .fz (.int f), .un, .un] = some (.ok (.list ((lin p line r f).map .int)), [.fz (.int p), .fz a, .fz b, .fz n, .fz (.list (line.map .int)), .fz v, .fz (.int f), .un, .un]) := by
      have hx := xComp_eq (is := [7, 8]) (set := sTup 2 (sCons (sName 7) (sCons (sName 8) sNil))) hz (by simp [noOw]) q
      unfold rowLc
      rw [bnd_eq hx]
      rfl
    have h2 : rowBody [.fz (.int p), .fz a, .fz b, .fz n, .fz (.list (line.map .int)), .fz v, .fz (.int f), .un, .un] = some (.ok .nx, [.fz (.int p), .fz a, .fz b, .fz n, .fz (.list ((if f = 0 then line else lin p line r f).map .int)), .fz v, .fz (.int f), .un, .un]) := by
      by_cases h : f = 0
      · subst h
        simp [rowBody, sIf, xTru, xVar, bnd, lif, truthD, sSkip, PD.ret]
      · simp only [rowBody, sIf, xTru, xVar, bnd, lif, truthD, PD.ret]
        simp [h, sAsg, bnd, hlc, sName, Cell.free]
    show loopD mixSet rowBody (.tuple [v, .int f] :: pairL _ (fs.map .int)) _ = _
    unfold loopD
    simp only [h1, h2, e]
    rfl
end K03
namespace K03
open PySem PD
theorem rep_fits {n : Nat} (hn : n ≤ 1000) : 1 * (n : Int).toNat ≤ sizeLine := Nat.le_trans (by simp; exact hn) (Nat.le_trans (by decide : 1000 ≤ 16777216) (Nat.le_of_eq sizeLine_eq.symm))
theorem rep_row {n : Nat} (hn : n ≤ 1000) {f : M (List PyData)} {g : M PyData} {δ : Sg} (hl : f δ = some (.ok [.int 0], δ)) (hv : g δ = some (.ok (.int n), δ)) :
    xRepF f g δ = some (.ok ((List.replicate n (0 : Int)).map .int), δ) := by
  unfold xRepF
  rw [bnd_eq hl, bnd_eq hv]
  dsimp only
  rw [if_pos ⟨by omega, by omega, rep_fits hn⟩]
  simp [lif]
end K03
namespace K03
open PySem PD
def Tin (N : Int) (os : List PyData) : Prop := ∃ x y z : Int, os = [.int x, .int y, .int z] ∧ 0 ≤ z ∧ z ≤ N
theorem Tin.mono {N N' : Int} {os : List PyData} (h : Tin N os) (l : N ≤ N') : Tin N' os := by
  obtain ⟨x, y, z, e, h0, h1⟩ := h
  exact ⟨x, y, z, e, h0, by omega⟩
theorem take_tin {N k : Int} {os : List PyData} (h : Tin N os) (hN : N < 1000000) (hk : 0 < k) (hd : divOk k = true) :
    ∃ (v : Int) (os' : List PyData), g__law_take [.ow true os, .fz (.int k)] = some (.ok (.int v), [.ow true os', .fz (.int k)]) ∧ 0 ≤ v ∧ v < k ∧ Tin (N + 1) os' := by
  obtain ⟨x, y, z, rfl, z0, z1⟩ := h
  obtain ⟨v, x', z', e, h1, h2, h3, h4⟩ := take_any x y z k hk hd z0 (by omega)
  exact ⟨v, _, e, h1, h2, x', y, z', rfl, h3, by omega⟩
theorem w_take {b : Bool} {os : List PyData} {r : Sg} {N k : Int} {fs : M (List PyData)} {Q : PyData → Sg → Prop} (t : Tin N os) (hN : N < 1000000) (hk : 0 < k) (hd : divOk k = true)
    (f : Gd fs (.ow b os :: r) fun ds δ1 => ds = [.int k] ∧ δ1 = .ow b os :: r) (h : ∀ (v : Int) (os' : List PyData), 0 ≤ v → v < k → Tin (N + 1) os' → Q (.int v) (.ow b os' :: r)) : Gd (xDefO g__law_take 0 fs) (.ow b os :: r) Q := by
  obtain ⟨v, os', e, h1, h2, t'⟩ := take_tin t hN hk hd
  refine w_defO .z (f.imp fun ds δ1 q => ?_)
  obtain ⟨rfl, rfl⟩ := q
  exact ⟨b, os, true, os', .int v, _, _, .z, e, .z, h v os' h1 h2 t'⟩
theorem at_some {xs : List PyData} {v : Int} (h0 : 0 ≤ v) (h1 : v < xs.length) : ∃ d ∈ xs, L2.atI xs v = some d := by
  refine ⟨xs[v.toNat]'(by omega), List.getElem_mem _, ?_⟩
  unfold L2.atI L2.ixN
  rw [if_pos h0, if_pos h1]
  simp
/-- one of a list, by a take -/
theorem of_eq {N : Int} {os xs : List PyData} (t : Tin N os) (hN : N < 1000000) (h0 : 0 < xs.length) (h1 : xs.length < 1000000) :
    ∃ d ∈ xs, ∃ os', g__law_of [.ow true os, .fz (.list xs)] = some (.ok d, [.ow true os', .fz (.list xs)]) ∧ Tin (N + 1) os' := by
  have hd : divOk xs.length = true := by unfold divOk; simp only [Bool.and_eq_true, decide_eq_true_eq]; omega
  obtain ⟨v, os', e, v0, v1, t'⟩ := take_tin (k := xs.length) t hN (by omega) hd
  obtain ⟨d, hm, e2⟩ := at_some v0 v1
  refine ⟨d, hm, os', ?r, t'⟩
  walk_at "w_run"
  unfold B__law_of
  walk_at "wp"
  refine w_defO .z ?_
  walk_at "wp"
  refine w_lif rfl ?_
  walk_at "wp"
  refine ⟨_, _, _, _, _, _, _, .z, e, .z, ?_⟩
  refine w_lif e2 ?_
  exact ⟨rfl, rfl⟩
theorem of2_eq {N : Int} {os xs : List PyData} (t : Tin N os) (hN : N < 1000000) (h0 : 0 < xs.length) (h1 : xs.length < 1000000) :
    ∃ d ∈ xs, ∃ os', g__law_of2 [.ow true os, .ow true xs] = some (.ok d, [.ow true os', .ow true xs]) ∧ Tin (N + 1) os' := by
  have hd : divOk xs.length = true := by unfold divOk; simp only [Bool.and_eq_true, decide_eq_true_eq]; omega
  obtain ⟨v, os', e, v0, v1, t'⟩ := take_tin (k := xs.length) t hN (by omega) hd
  obtain ⟨d, hm, e2⟩ := at_some v0 v1
  refine ⟨d, hm, os', ?r, t'⟩
  walk_at "w_run"
  unfold B__law_of2
  walk_at "wp"
  refine w_ixO (.s .z) ?_
  refine w_defO .z ?_
  walk_at "wp"
  refine w_lenO (.s .z) ?_
  walk_at "wp"
  refine ⟨_, _, _, _, _, _, _, .z, e, .z, _, _, .s .z, ?_⟩
  refine w_lif e2 ?_
  exact ⟨rfl, rfl⟩
end K03
namespace K03
open PySem PD
theorem row_by_eq {p : Int} {a b : PyData} {n : Nat} {vs : List PyData} {rows : List (List Int)} {fs : List Int} (hp : p ≠ 0) (ha : seqD a = some vs) (hr : Rows vs rows) (hb : seqD b = some (fs.map .int)) (hf : ∀ f ∈ fs, small64 f = true) (hn : n ≤ 1000) :
    g_row_by [.fz (.int p), .fz a, .fz b, .fz (.int n)] = some (.ok (.tuple ((combR p (List.replicate n 0) rows fs).map .int)), [.fz (.int p), .fz a, .fz b, .fz (.int n)]) := by
  obtain ⟨c5, c6, e⟩ := row_loop hp a b (.int n) hr fs hf (List.replicate n 0) (by simp; exact hn) .un .un rfl rfl
  walk_at "w_run"
  unfold B_row_by
  walk_at "wp"
  refine ⟨n, rfl, by simp; omega, by omega, ?_⟩
  walk_at "wp"
  refine w_lif (o_zip ha hb) ?_
  have q : (List.replicate n [PyData.int 0]).flatten = (List.replicate n (0 : Int)).map .int := by simp
  rw [q]
  refine w_eq e ?_
  walk_at "wp"
  refine w_lif rfl ?_
  exact ⟨rfl, rfl⟩
end K03
namespace K03
open PySem PD
theorem all_map {f : PyData → Bool} {ds : List PyData} : allD [.list (ds.map fun d => .bool (f d))] = some (.bool (ds.all f)) := by
  have h : (ds.map fun d => PyData.bool (f d)) = (ds.map f).map .bool := by simp
  rw [h, o_all]
  simp
end K03
namespace K03
open PySem PD
inductive Sm : Nat → PyData → Prop
  | non {n : Nat} : Sm n .none
  | int {n : Nat} (i : Int) : Sm n (.int i)
  | bl {n : Nat} (b : Bool) : Sm n (.bool b)
  | tup {n : Nat} {ds : List PyData} (l : ds.length ≤ 1000000) (h : ∀ d ∈ ds, Sm n d) : Sm (n + 1) (.tuple ds)
  | lst {n : Nat} {ds : List PyData} (l : ds.length ≤ 1000000) (h : ∀ d ∈ ds, Sm n d) : Sm (n + 1) (.list ds)
theorem pair_self {ds : List PyData} {d : PyData} (h : d ∈ pairL ds ds) : ∃ x ∈ ds, d = .tuple [x, x] := by
  induction ds with
  | nil => cases h
  | cons y ds ih =>
    rcases List.mem_cons.mp h with rfl | h
    · exact ⟨y, List.mem_cons_self .., rfl⟩
    · obtain ⟨x, hx, e⟩ := ih h
      exact ⟨x, List.mem_cons_of_mem _ hx, e⟩
theorem same_comp {G : Sg → Option (Ans PyData × Sg)} {d : PyData} {ds : List PyData} (l : ds.length ≤ 1000000) (h : ∀ x ∈ ds, G [.fz x, .fz x] = some (.ok (.bool true), [.fz x, .fz x])) :
    compD [2, 3] (sTup 2 (sCons (sName 2) (sCons (sName 3) sNil))) (PD.ret true) (xDef G (bnd (xVar 2) fun d => bnd (bnd (xVar 3) fun d => bnd (PD.ret []) fun ds => PD.ret (d :: ds)) fun ds => PD.ret (d :: ds))) (pairL ds ds) [] [.fz d, .fz d, .un, .un]
      = some ((pairL ds ds).map (fun _ => .bool ((fun _ => true) d)), [.fz d, .fz d, .un, .un]) := by
  refine comp_fun _ (by rw [pairL_length]; omega) fun y hy => ?_
  obtain ⟨x, hx, rfl⟩ := pair_self hy
  walk_at "wp"
  exact ⟨_, _, h x hx, rfl, rfl, rfl⟩
theorem same_seq {G : Sg → Option (Ans PyData × Sg)} {d : PyData} {ds : List PyData} (hd : d = .tuple ds ∨ d = .list ds) (l : ds.length ≤ 1000000) (h : ∀ x ∈ ds, G [.fz x, .fz x] = some (.ok (.bool true), [.fz x, .fz x])) :
    runD 4 (B__law_same G) [.fz d, .fz d] = some (.ok (.bool true), [.fz d, .fz d]) := by
  have q := same_comp (d := d) l h
  have hs : seqD d = some ds := by rcases hd with rfl | rfl <;> rfl
  have hl : lenD [d] = some (.int ds.length) := by rcases hd with rfl | rfl <;> rfl
  have h1 : isiD ["list", "tuple"] d = some (.bool true) := by rcases hd with rfl | rfl <;> rfl
  walk_at "w_run"
  unfold B__law_same
  walk_at "wp"
  refine w_lif h1 ?_
  refine w_lif rfl ?_
  walk_at "wp"
  refine w_lif rfl ?_
  walk_at "wp"
  refine w_lif rfl ?_
  have hn : ∀ b : Bool, neD (.bool b) (.bool b) = some (.bool false) := by intro b; cases b <;> rfl
  refine w_lif (hn _) ?_
  refine w_lif rfl ?_
  walk_at "wp"
  refine w_lif rfl ?_
  walk_at "wp"
  refine w_lif rfl ?_
  refine w_lif (hn _) ?_
  refine w_lif rfl ?_
  walk_at "wp"
  refine w_lif hl ?_
  walk_at "wp"
  refine w_lif hl ?_
  refine w_lif (o_eqI _ _) ?_
  refine ⟨_, rfl, ?_⟩
  rw [decide_eq_true rfl]
  walk_at "wp"
  refine w_lif (o_zip hs hs) ?_
  refine ⟨rfl, _, _, q, ?_⟩
  walk_at "wp"
  refine w_lif (all_map (f := fun _ => true)) ?_
  exact ⟨by simp, rfl⟩
theorem same_eq : ∀ {n : Nat} {d : PyData}, Sm n d → ∀ m, n < m → gr__law_same m [.fz d, .fz d] = some (.ok (.bool true), [.fz d, .fz d])
  | _, _, _, 0, h => absurd h (by omega)
  | _, _, .non, m + 1, _ => by
    have h : ∀ b : Bool, eqD (.bool b) (.bool b) = some (.bool true) := by intro b; cases b <;> rfl
    show runD 4 (B__law_same (gr__law_same m)) _ = _
    walk_at "w_run"
    unfold B__law_same
    walk_at "wp"
    refine w_lif (a := .bool false) rfl ?_
    refine w_lif (a := false) rfl ?_
    walk_at "wp"
    refine w_lif (a := .bool true) rfl ?_
    refine w_lif (a := true) rfl ?_
    walk_at "wp"
    refine w_lif (a := .bool true) rfl ?_
    refine ⟨_, rfl, ?_⟩
    walk_at "wp"
    refine w_lif (a := .bool false) rfl ?_
    walk_at "wp"
    refine w_lif (a := .bool false) rfl ?_
    refine w_lif (h _) ?_
    refine ⟨_, rfl, ?_⟩
    walk_at "wp"
    refine w_lif (a := .bool true) rfl ?_
    walk_at "wp"
    refine w_lif (a := .bool true) rfl ?_
    refine w_lif (h _) ?_
    exact ⟨rfl, rfl⟩
  | _, _, .int i, m + 1, _ => by
    show runD 4 (B__law_same (gr__law_same m)) _ = _
    walk_at "w_run"
    unfold B__law_same
    walk_at "wp"
    refine w_lif (a := .bool false) rfl ?_
    refine w_lif (a := false) rfl ?_
    walk_at "wp"
    refine w_lif (a := .bool false) rfl ?_
    refine w_lif (a := false) rfl ?_
    walk_at "wp"
    refine w_lif (a := .bool false) rfl ?_
    refine w_lif (a := false) rfl ?_
    walk_at "wp"
    refine w_lif (a := .bool true) rfl ?_
    refine ⟨_, rfl, ?_⟩
    walk_at "wp"
    refine w_lif (a := .bool false) rfl ?_
    refine ⟨_, rfl, _, rfl, ?_⟩
    show Gd (cond true _ _) _ _
    walk_at "wp"
    refine w_lif (o_eqI _ _) ?_
    exact ⟨by simp, rfl⟩
  | _, _, .bl b, m + 1, _ => by
    have h : ∀ b : Bool, eqD (.bool b) (.bool b) = some (.bool true) := by intro b; cases b <;> rfl
    show runD 4 (B__law_same (gr__law_same m)) _ = _
    walk_at "w_run"
    unfold B__law_same
    walk_at "wp"
    refine w_lif (a := .bool false) rfl ?_
    refine w_lif (a := false) rfl ?_
    walk_at "wp"
    refine w_lif (a := .bool false) rfl ?_
    refine w_lif (a := false) rfl ?_
    walk_at "wp"
    refine w_lif (a := .bool true) rfl ?_
    refine w_lif (a := true) rfl ?_
    walk_at "wp"
    refine w_lif (h b) ?_
    refine ⟨_, rfl, ?_⟩
    walk_at "wp"
    refine w_lif (a := .bool true) rfl ?_
    walk_at "wp"
    refine w_lif (a := .bool true) rfl ?_
    refine w_lif (h _) ?_
    refine ⟨_, rfl, ?_⟩
    walk_at "wp"
    refine w_lif (a := .bool false) rfl ?_
    walk_at "wp"
    refine w_lif (a := .bool false) rfl ?_
    refine w_lif (h _) ?_
    exact ⟨rfl, rfl⟩
  | _, _, .tup l h, m + 1, hm => same_seq (.inl rfl) l fun x hx => same_eq (h x hx) m (by omega)
  | _, _, .lst l h, m + 1, hm => same_seq (.inr rfl) l fun x hx => same_eq (h x hx) m (by omega)
end K03
namespace K03
open PySem PD
/-! rows -/
def Res (p : Int) (r : List Int) : Prop := ∀ x ∈ r, 0 ≤ x ∧ x < p
abbrev rowT (r : List Int) : PyData := .tuple (r.map .int)
abbrev rowL (r : List Int) : PyData := .list (r.map .int)
theorem rows_T : ∀ rows : List (List Int), Rows (rows.map rowT) rows
  | [] => .nil
  | r :: rows => .cons rfl (rows_T rows)
theorem rows_L : ∀ rows : List (List Int), Rows (rows.map rowL) rows
  | [] => .nil
  | r :: rows => .cons rfl (rows_L rows)
theorem fmod_id {p x : Int} (h0 : 0 ≤ x) (h1 : x < p) : x.fmod p = x := by rw [Int.fmod_eq_emod_of_nonneg _ (by omega), Int.emod_eq_of_lt h0 h1]
theorem lin_res {p f : Int} {l m : List Int} (hp : 0 < p) : Res p (lin p l m f) := by
  intro x hx
  unfold lin at hx
  obtain ⟨i, hi, rfl⟩ := List.getElem_of_mem hx
  rw [List.getElem_zipWith]
  exact ⟨Int.fmod_nonneg_of_pos _ hp, Int.fmod_lt_of_pos _ hp⟩
theorem lin_length {p f : Int} {l m : List Int} : (lin p l m f).length = min l.length m.length := by
  unfold lin
  rw [List.length_zipWith]
theorem lin_zero {p : Int} {l m : List Int} (h : Res p l) (hl : l.length = m.length) : lin p l m 0 = l := by
  unfold lin
  apply List.ext_getElem
  · rw [List.length_zipWith]
    omega
  · intro i h1 h2
    rw [List.getElem_zipWith]
    obtain ⟨a, b⟩ := h l[i] (List.getElem_mem _)
    rw [Int.zero_mul, Int.add_zero]
    exact fmod_id a b
theorem comb_ok {p : Int} {n : Nat} (hp : 0 < p) : ∀ {rows : List (List Int)} {fs line : List Int}, (∀ r ∈ rows, r.length = n) → line.length = n → Res p line →
    combR p line rows fs = comb p line rows fs ∧ (comb p line rows fs).length = n ∧ Res p (comb p line rows fs)
  | [], fs, line, _, hl, hr => by simp [combR, comb, hl]; exact hr
  | r :: rows, [], line, _, hl, hr => by simp [combR, comb, hl]; exact hr
  | r :: rows, f :: fs, line, h, hl, hr => by
    have hrl : r.length = n := h r (List.mem_cons_self ..)
    have ih := comb_ok (n := n) hp (rows := rows) (fs := fs) (line := lin p line r f) (fun r hr => h r (List.mem_cons_of_mem _ hr)) (by rw [lin_length]; omega) (lin_res hp)
    refine ⟨?_, ih.2⟩
    show combR p (if f = 0 then line else lin p line r f) rows fs = comb p (lin p line r f) rows fs
    split
    · rename_i e
      rw [e] at ih ⊢
      rw [← ih.1, lin_zero hr (by omega)]
    · exact ih.1
theorem res_zero {p : Int} (hp : 0 < p) (n : Nat) : Res p (List.replicate n 0) := by
  intro x hx
  obtain ⟨_, rfl⟩ := List.mem_replicate.mp hx
  omega
/-! takes in a comprehension -/
theorem comp_take {b : Bool} {k : Int} {i : Nat} {r : Sg} {fs : M (List PyData)} (rv : PyData → Sg) (hs : ∀ os d, sName i d (.ow b os :: r) = some (.ow b os :: rv d)) (hw : ∀ os d, wipeD (.ow b os :: rv d) [i] = .ow b os :: r) (hn : ∀ os d, noOw (.ow b os :: rv d) [i] = true)
    (he : ∀ os d, Gd fs (.ow b os :: rv d) fun ds δ1 => ds = [.int k] ∧ δ1 = .ow b os :: rv d) (hk : 0 < k) (hd : divOk k = true) {N : Int} {os ds : List PyData} (t : Tin N os) (hN : 0 ≤ N) (hl : N + ds.length < 1000000) :
    ∃ (l : List Int) (os' : List PyData), l.length = ds.length ∧ Res k l ∧ Tin (N + ds.length) os' ∧ compD [i] (sName i) (PD.ret true) (xDefO g__law_take 0 fs) ds [] (.ow b os :: r) = some (l.map .int, .ow b os' :: r) := by
  obtain ⟨acc, δ', e, l, os', rfl, hj, hr, t', rfl⟩ := comp_inv (is := [i]) (set := sName i) (el := xDefO g__law_take 0 fs) (ds := ds) (acc := []) (δ := .ow b os :: r)
    (fun j acc δ => ∃ (l : List Int) (os' : List PyData), acc = l.map .int ∧ l.length = j ∧ Res k l ∧ Tin (N + j) os' ∧ δ = .ow b os' :: r)
    ⟨[], os, rfl, rfl, (fun x h => absurd h (List.not_mem_nil)), by simpa using t, rfl⟩ (by simp; omega) fun j d hj acc δ ⟨l, os', ea, el, hr, t', ed⟩ => by
      subst ea ed
      have hj' : j < ds.length := by
        obtain ⟨h, _⟩ := List.getElem?_eq_some_iff.mp hj
        exact h
      obtain ⟨y, δ3, e, v, os'', rfl, rfl, h0, h1, t''⟩ := w_take (b := b) (r := rv d) (Q := fun y δ3 => ∃ (v : Int) (os'' : List PyData), y = .int v ∧ δ3 = .ow b os'' :: rv d ∧ 0 ≤ v ∧ v < k ∧ Tin (N + j + 1) os'') t' (by omega) hk hd (he os' d)
        fun v os'' h0 h1 t'' => ⟨v, os'', rfl, rfl, h0, h1, t''⟩
      refine ⟨_, _, _, hs os' d, e, hn _ _, l ++ [v], os'', by simp, by simp [el], ?_, by rw [Int.natCast_add]; simpa [Int.add_assoc] using t'', hw _ _⟩
      intro x hx
      rcases List.mem_append.mp hx with hx | hx
      · exact hr x hx
      · rw [List.mem_singleton.mp hx]
        exact ⟨h0, h1⟩
  exact ⟨l, os', hj, hr, t', e⟩
end K03
namespace K03
open PySem PD
/-- data that stand in few levels -/
def Flat (n : Nat) (d : PyData) : Prop := d.canLay0 = true ∧ d.depth ≤ n
theorem flat_all {n : Nat} : ∀ {ds : List PyData}, (∀ d ∈ ds, Flat n d) → PyData.canLayAll0 ds = true ∧ PyData.depthAll ds ≤ n
  | [], _ => by simp [PyData.canLayAll0, PyData.depthAll]
  | d :: ds, h => by
    have h1 := h d (List.mem_cons_self ..)
    have h2 := flat_all fun x hx => h x (List.mem_cons_of_mem _ hx)
    rw [PyData.canLayAll0.eq_2, PyData.depthAll.eq_2]
    simp only [h1.1, h2.1, Bool.and_self, true_and]
    have := h1.2
    have := h2.2
    omega
theorem flat_int {n : Nat} (i : Int) : Flat n (.int i) := by simp [Flat, PyData.canLay0, PyData.depth]
theorem flat_tup {n : Nat} {ds : List PyData} (h : ∀ d ∈ ds, Flat n d) : Flat (n + 1) (.tuple ds) := by
  have := flat_all h
  simp [Flat, PyData.canLay0, PyData.depth, this.1]
  omega
theorem flat_lst {n : Nat} {ds : List PyData} (h : ∀ d ∈ ds, Flat n d) : Flat (n + 1) (.list ds) := by
  have := flat_all h
  simp [Flat, PyData.canLay0, PyData.depth, this.1]
  omega
theorem flat_row {r : List Int} : Flat 1 (rowT r) := flat_tup fun d hd => by
  obtain ⟨i, _, rfl⟩ := List.mem_map.mp hd
  exact flat_int i
theorem flat_rows {rows : List (List Int)} : Flat 2 (.list (rows.map rowT)) := flat_lst fun d hd => by
  obtain ⟨i, _, rfl⟩ := List.mem_map.mp hd
  exact flat_row
theorem Flat.shaped {n : Nat} {d : PyData} (h : Flat n d) (hn : n ≤ 64) : SeqAt.shaped d = true := by
  unfold SeqAt.shaped
  rw [h.1, decide_eq_true (Nat.le_trans h.2 hn)]
  rfl
theorem neD_nil {ds : List PyData} {n : Nat} (h : Flat n (.list ds)) (hn : n ≤ 64) : neD (.list ds) (.list []) = some (.bool (!ds.isEmpty)) := by
  have h2 : SeqAt.shaped (.list []) = true := rfl
  unfold neD
  rw [if_pos ⟨h.shaped hn, h2⟩]
  cases ds <;> simp [PyData.eqv, PyData.eqvAll]
theorem eqD_nil {ds : List PyData} {n : Nat} (h : Flat n (.list ds)) (hn : n ≤ 64) : eqD (.list ds) (.list []) = some (.bool ds.isEmpty) := by
  have h2 : SeqAt.shaped (.list []) = true := rfl
  unfold eqD
  rw [if_pos ⟨h.shaped hn, h2⟩]
  cases ds <;> simp [PyData.eqv, PyData.eqvAll]
structure Rw (p : Int) (n : Nat) (r : List Int) : Prop where
  len : r.length = n
  res : Res p r
/-- what a turn of the loop leaves -/
def VI (p : Int) (m : PyData) (n : Nat) (N : Int) (j : Nat) (δ : Sg) : Prop := ∃ (rows : List (List Int)) (os : List PyData) (c5 c6 : Cell), δ = [.ow true os, .fz (.int p), .fz m, .fz (.int n), .ow false (rows.map rowT), c5, c6, .un] ∧ c5.free = true ∧ c6.free = true ∧ rows.length = j ∧ (∀ r ∈ rows, Rw p n r) ∧ Tin (N + 8 * j) os
abbrev vBody : MS := (sSeq (sAsg (xDefO g__law_take 0 (bnd (PD.ret (.int 6)) fun d => bnd (PD.ret []) fun ds => PD.ret (d :: ds))) (sName 6))
  (sIf (xBool (xBin eqD (xVar 6) (PD.ret (.int 0)))) (sApp 4 (xBin mulD (xTup (bnd (PD.ret (.int 0)) fun d => bnd (PD.ret []) fun ds => PD.ret (d :: ds))) (xVar 3))) (sIf (xAndT (xBool (xBin eqD (xVar 6) (PD.ret (.int 1)))) (xBool (xCmpO neD 4 (bnd (xLst (PD.ret [])) fun ds => PD.ret (.list ds))))) (sApp 4 (xDef g__law_plus (bnd (xVar 1) fun d => bnd (bnd (xBin mulD (xTup (bnd (PD.ret (.int 0)) fun d => bnd (PD.ret []) fun ds => PD.ret (d :: ds))) (xVar 3)) fun d => bnd (bnd (xDef2 g__law_of2 0 4) fun d => bnd (bnd (xDefO g__law_take 0 (bnd (xVar 1) fun d => bnd (PD.ret []) fun ds => PD.ret (d :: ds))) fun d => bnd (PD.ret []) fun ds => PD.ret (d :: ds)) fun ds => PD.ret (d :: ds)) fun ds => PD.ret (d :: ds)) fun ds => PD.ret (d :: ds)))) (sApp 4 (xCall tupleD (bnd (bnd (xComp (xCallF' range1D (bnd (xVar 3) fun d => bnd (PD.ret []) fun ds => PD.ret (d :: ds))) [7] (sName 7) (PD.ret true) (xDefO g__law_take 0 (bnd (xVar 1) fun d => bnd (PD.ret []) fun ds => PD.ret (d :: ds)))) fun ds => PD.ret (.list ds)) fun d => bnd (PD.ret []) fun ds => PD.ret (d :: ds)))))))
theorem VI.more {p : Int} {m : PyData} {n : Nat} {N : Int} {j : Nat} {rows : List (List Int)} {os : List PyData} {c5 c6 : Cell} {r : List Int} (f5 : c5.free = true) (f6 : c6.free = true) (hj : rows.length = j) (hr : ∀ r ∈ rows, Rw p n r) (h : Rw p n r) (t : Tin (N + 8 * (j + 1)) os) :
    VI p m n N (j + 1) [.ow true os, .fz (.int p), .fz m, .fz (.int n), .ow false (rows.map rowT ++ [rowT r]), c5, c6, .un] :=
  ⟨rows ++ [r], os, c5, c6, by simp, f5, f6, by simp [hj], fun x hx => by
    rcases List.mem_append.mp hx with hx | hx
    · exact hr x hx
    · rw [List.mem_singleton.mp hx]; exact h, by simpa using t⟩
theorem range_take {j : Int} (h0 : 0 ≤ j) (h : j < 1000000) : range1D [.int j] = some (rangeL 0 j.toNat) := by
  unfold range1D fit62
  dsimp only
  rw [if_pos]
  simp only [Bool.and_eq_true, decide_eq_true_eq]
  omega
theorem rangeL_length (lo : Int) (n : Nat) : (rangeL lo n).length = n := by simp [rangeL]
theorem v_step {p : Int} {m : PyData} {n j : Nat} {N : Int} (hp : 0 < p) (hp2 : p < 1000) (hn : n ≤ 7) (hN : 0 ≤ N) (hj : N + 8 * j < 900000) {δ : Sg} (h : VI p m n N j δ) (d : PyData) :
    Gs (sName 5) d δ fun δ1 => Gd vBody δ1 fun fl δ2 => fl = .nx ∧ VI p m n N (j + 1) δ2 := by
  obtain ⟨rows, os, c5, c6, rfl, f5, f6, hl, hr, t⟩ := h
  have hdp : divOk p = true := by unfold divOk; simp only [Bool.and_eq_true, decide_eq_true_eq]; omega
  walk_at "wp"
  refine w_take (k := 6) t (by omega) (by decide) (by decide) (by walk_at "wp"; exact ⟨rfl, rfl⟩) fun v os' v0 v1 t' => ?_
  walk_at "wp"
  refine w_lif (o_eqI _ _) ?_
  refine w_lif rfl ?_
  refine w_by (fun h => ?_) fun h => ?_
  · refine w_app (.s (.s (.s (.s .z)))) ?_
    walk_at "wp"
    refine w_lif (o_tup0 n (by omega)) ?_
    refine ⟨_, _, _, .s (.s (.s (.s .z))), by simp; omega, .s (.s (.s (.s .z))), rfl, ?_⟩
    exact VI.more rfl rfl hl hr ⟨by simp, res_zero hp n⟩ (t'.mono (by omega))
  · walk_at "wp"
    refine w_lif (o_eqI _ _) ?_
    refine w_lif rfl ?_
    refine Gd.imp (Q := fun b δ => (b = true → rows ≠ []) ∧ δ = [.ow true os', .fz (.int p), .fz m, .fz (.int n), .ow false (rows.map rowT), .fz d, .fz (.int v), .un]) ?_ ?_
    · refine w_by (fun h => ?_) fun h => ?_
      · walk_at "wp"
        refine w_cmpO (.s (.s (.s (.s .z)))) ?_
        walk_at "wp"
        refine ⟨_, _, _, .s (.s (.s (.s .z))), neD_nil flat_rows (by omega), ?_⟩
        refine w_lif rfl ?_
        exact ⟨by simp, rfl⟩
      · walk_at "wp"
        exact ⟨by simp, rfl⟩
    · rintro b _ ⟨hb, rfl⟩
      refine w_by (fun h => ?_) fun h => ?_
      · have hne := hb h
        have hl0 : 0 < rows.length := List.length_pos_iff.mpr hne
        refine w_app (.s (.s (.s (.s .z)))) ?_
        obtain ⟨x, hx, os2, e2, t2⟩ := of2_eq (xs := rows.map rowT) t' (by omega) (by simpa using hl0) (by simp; omega)
        obtain ⟨r, hrm, rfl⟩ := List.mem_map.mp hx
        walk_at "wp"
        refine w_lif (o_tup0 n (by omega)) ?_
        walk_at "wp"
        refine w_def2 .z (.s (.s (.s (.s .z)))) (by decide) e2 .z (.s (.s (.s (.s .z)))) ?_
        walk_at "wp"
        refine w_take t2 (by omega) hp hdp (by walk_at "wp"; exact ⟨rfl, rfl⟩) fun w os3 w0 w1 t3 => ?_
        walk_at "wp"
        refine ⟨_, _, plus_eq (l := List.replicate n 0) (m := r) (by omega) rfl rfl (by simp; omega) (by unfold small64; simp only [Bool.and_eq_true, decide_eq_true_eq]; omega), ?_⟩
        refine ⟨_, _, _, .s (.s (.s (.s .z))), by simp; omega, .s (.s (.s (.s .z))), rfl, ?_⟩
        exact VI.more rfl rfl hl hr ⟨by rw [lin_length, (hr r hrm).len]; simp, lin_res hp⟩ (t3.mono (by omega))
      · refine w_app (.s (.s (.s (.s .z)))) ?_
        walk_at "wp"
        refine w_lif (range_take (by omega) (by omega)) ?_
        obtain ⟨l, os2, e1, e2, t2, e3⟩ := comp_take (b := true) (k := p) (i := 7) (r := [.fz (.int p), .fz m, .fz (.int n), .ow false (rows.map rowT), .fz d, .fz (.int v), .un]) (fs := bnd (xVar 1) fun d => bnd (PD.ret []) fun ds => PD.ret (d :: ds))
          (fun y => [.fz (.int p), .fz m, .fz (.int n), .ow false (rows.map rowT), .fz d, .fz (.int v), .fz y]) (fun _ _ => rfl) (fun _ _ => rfl) (fun _ _ => rfl) (fun _ _ => by walk_at "wp"; exact ⟨rfl, rfl⟩) hp hdp t' (by omega) (ds := rangeL 0 (n : Int).toNat) (by rw [rangeL_length]; omega)
        rw [rangeL_length] at e1 t2
        refine ⟨rfl, _, _, e3, ?_⟩
        walk_at "wp"
        refine w_lif rfl ?_
        refine ⟨_, _, _, .s (.s (.s (.s .z))), by simp; omega, .s (.s (.s (.s .z))), rfl, ?_⟩
        exact VI.more rfl rfl hl hr ⟨by simpa using e1, e2⟩ (t2.mono (by omega))
theorem vectors_eq {p : Int} {m n : Nat} {N : Int} {os : List PyData} (hp : 0 < p) (hp2 : p < 1000) (hm : m ≤ 100) (hn : n ≤ 7) (hN : 0 ≤ N) (hN2 : N ≤ 100000) (t : Tin N os) :
    ∃ (rows : List (List Int)) (os' : List PyData), rows.length = m ∧ (∀ r ∈ rows, Rw p n r) ∧ Tin (N + 8 * m) os' ∧ g__law_drawn_vectors [.ow true os, .fz (.int p), .fz (.int m), .fz (.int n)] = some (.ok (.tuple (rows.map rowT)), [.ow true os', .fz (.int p), .fz (.int m), .fz (.int n)]) := by
  have hl := loop_inv (set := sName 5) (b := vBody) (ds := rangeL 0 (m : Int).toNat) (δ := [.ow true os, .fz (.int p), .fz (.int m), .fz (.int n), .ow false [], .un, .un, .un]) (VI p (.int m) n N) ⟨[], os, .un, .un, rfl, rfl, rfl, rfl, fun r h => absurd h List.not_mem_nil, by simpa using t⟩ fun j d hj δ hv => by
    have hj' : j < m := by
      obtain ⟨h, _⟩ := List.getElem?_eq_some_iff.mp hj
      rw [rangeL_length] at h
      omega
    obtain ⟨δ1, e1, fl, δ2, e2, rfl, h⟩ := v_step hp hp2 hn hN (by omega) hv d
    exact ⟨δ1, δ2, e1, e2, h⟩
  obtain ⟨δ', e, rows, os', c5, c6, rfl, _, _, h1, h2, h3⟩ := hl
  rw [rangeL_length] at h1 h3
  refine ⟨rows, os', by simpa using h1, h2, by simpa using h3, ?_⟩
  walk_at "w_run"
  unfold B__law_drawn_vectors
  walk_at "wp"
  refine ⟨_, _, .s (.s (.s (.s .z))), rfl, .s (.s (.s (.s .z))), ?_⟩
  walk_at "wp"
  refine w_lif (range_take (by omega) (by omega)) ?_
  refine w_eq e ?_
  walk_at "wp"
  refine w_varO (.s (.s (.s (.s .z)))) (.s (.s (.s (.s .z)))) ?_
  walk_at "wp"
  refine w_lif rfl ?_
  exact ⟨rfl, rfl⟩
end K03
namespace K03
open PySem PD
theorem comp_filter {is : List Nat} {set : Tg} {t : M Bool} {el : M PyData} {δ : Sg} (f : PyData → Bool) : ∀ {ds acc : List PyData}, acc.length + ds.length ≤ 1000000 →
    (∀ d ∈ ds, Gs set d δ fun δ1 => Gd t δ1 fun b δ2 => b = f d ∧ (b = true → Gd el δ2 fun y δ3 => y = d ∧ noOw δ3 is = true ∧ wipeD δ3 is = δ) ∧ (b = false → noOw δ2 is = true ∧ wipeD δ2 is = δ)) →
    compD is set t el ds acc δ = some (acc ++ ds.filter f, δ)
  | [], acc, _, _ => by simp [compD]
  | d :: ds, acc, hl, h => by
    obtain ⟨δ1, e1, b, δ2, e2, hb, h1, h2⟩ := h d (List.mem_cons_self ..)
    have hs : acc.length < sizeLine := by rw [sizeLine_eq]; simp at hl; omega
    cases b with
    | true =>
      obtain ⟨y, δ3, e3, rfl, n, w⟩ := h1 rfl
      have q := comp_filter (is := is) (set := set) (t := t) (el := el) (δ := δ) f (ds := ds) (acc := acc ++ [y]) (by simp at hl ⊢; omega) fun d' hd => h d' (List.mem_cons_of_mem _ hd)
      unfold compD
      simp only [e1, e2, e3, hs, n, and_self, if_true, w, q, List.filter_cons, ← hb]
      simp
    | false =>
      obtain ⟨n, w⟩ := h2 rfl
      have q := comp_filter (is := is) (set := set) (t := t) (el := el) (δ := δ) f (ds := ds) (acc := acc) (by simp at hl ⊢; omega) fun d' hd => h d' (List.mem_cons_of_mem _ hd)
      unfold compD
      simp only [e1, e2, n, if_true, w, q, List.filter_cons, ← hb]
      simp
theorem o_list {xs : List PyData} (h : xs.length ≤ 1000000) : listD [.tuple xs] = some xs := by
  unfold listD
  dsimp only
  rw [if_pos (Nat.le_trans h (by rw [sizeLine_eq]; decide))]
theorem o_listL {xs : List PyData} (h : xs.length ≤ 1000000) : listD [.list xs] = some xs := by
  unfold listD
  dsimp only
  rw [if_pos (Nat.le_trans h (by rw [sizeLine_eq]; decide))]
theorem o_cat {xs ys : List PyData} (h : xs.length + ys.length ≤ 1000000) : catL (.list xs) (.list ys) = some (xs ++ ys) := by
  unfold catL
  dsimp only
  rw [if_pos (Nat.le_trans h (by rw [sizeLine_eq]; decide))]
theorem res_small {p : Int} {r : List Int} (hp2 : p < 1000) (h : Res p r) : ∀ x ∈ r, small64 x = true := fun x hx => by
  have := h x hx
  unfold small64
  simp only [Bool.and_eq_true, decide_eq_true_eq]
  omega
end K03
end

section
set_option linter.all false
set_option maxRecDepth 100000
set_option maxHeartbeats 1000000
namespace K03
open PySem PD LA
/-- what is wanted of a prime -/
structure Pr (p : Nat) : Prop where
  pos : 0 < p
  lt : p < 1000
  inv : ∀ r : Int, 0 < r → r < p → ∃ v : Int, g_inverse [.fz (.int p), .fz (.int r)] = some (.ok (.int v), [.fz (.int p), .fz (.int r)]) ∧ 0 ≤ v ∧ v < p ∧ (v * r).fmod p = 1
theorem pr2 : Pr 2 := ⟨by omega, by omega, fun r h0 h1 => by
  obtain rfl : r = 1 := by omega
  exact ⟨1, by with_unfolding_all rfl, by omega, by omega, by decide⟩⟩
theorem pr3 : Pr 3 := ⟨by omega, by omega, fun r h0 h1 => by
  rcases (by omega : r = 1 ∨ r = 2) with rfl | rfl
  · exact ⟨1, by with_unfolding_all rfl, by omega, by omega, by decide⟩
  · exact ⟨2, by with_unfolding_all rfl, by omega, by omega, by decide⟩⟩
theorem pr5 : Pr 5 := ⟨by omega, by omega, fun r h0 h1 => by
  rcases (by omega : r = 1 ∨ r = 2 ∨ r = 3 ∨ r = 4) with rfl | rfl | rfl | rfl
  · exact ⟨1, by with_unfolding_all rfl, by omega, by omega, by decide⟩
  · exact ⟨3, by with_unfolding_all rfl, by omega, by omega, by decide⟩
  · exact ⟨2, by with_unfolding_all rfl, by omega, by omega, by decide⟩
  · exact ⟨4, by with_unfolding_all rfl, by omega, by omega, by decide⟩⟩
def scl (p : Int) (r : List Int) (u : Int) : List Int := r.map fun x => (x * u).fmod p
def lss (p : Int) (r s : List Int) (c : Int) : List Int := List.zipWith (fun x y => (x - c * y).fmod p) r s
theorem o_subI (x y : Int) : subD (.int x) (.int y) = some (.int (x - y)) := rfl
theorem sm_of {p x : Int} (hp : p < 1000) (h0 : 0 ≤ x) (h1 : x < p) : small64 x = true := by
  unfold small64
  simp only [Bool.and_eq_true, decide_eq_true_eq]
  omega
theorem mulOk_r {x y : Int} (h : small64 y = true) : mulOk x y = true := by unfold mulOk; rw [h, Bool.or_true]
theorem mulOk_l {x y : Int} (h : small64 x = true) : mulOk x y = true := by unfold mulOk; rw [h, Bool.true_or]
theorem scaled_eq {p u : Int} {a : PyData} {r : List Int} (hp : p ≠ 0) (ha : seqD a = some (r.map .int)) (hl : r.length ≤ 1000) (hu : small64 u = true) :
    g__scaled [.fz (.int p), .fz a, .fz (.int u)] = some (.ok (.list ((scl p r u).map .int)), [.fz (.int p), .fz a, .fz (.int u)]) := by
  walk_at "w_run"
  unfold B__scaled
  walk_at "wp"
  refine w_lif ha ?_
  have q := comp_fun (is := [3]) (set := sName 3) (el := xBin modD (xBin mulD (xVar 3) (xVar 2)) (xVar 0)) (ds := r.map .int) (δ := [.fz (.int p), .fz a, .fz (.int u), .un])
    (fun d => match d with | .int x => .int ((x * u).fmod p) | _ => .none) (by simp; omega) fun d hd => by
      obtain ⟨x, _, rfl⟩ := List.mem_map.mp hd
      walk_at "wp"
      refine w_lif (o_mul (mulOk_r hu)) ?_
      walk_at "wp"
      refine w_lif (o_mod hp) ?_
      exact ⟨rfl, rfl, rfl⟩
  refine ⟨rfl, _, _, q, ?_⟩
  walk_at "wp"
  exact ⟨by rw [List.map_map]; unfold scl; rw [List.map_map]; rfl, rfl⟩
theorem less_eq {p c : Int} {a b : PyData} {r s : List Int} (hp : p ≠ 0) (ha : seqD a = some (r.map .int)) (hb : seqD b = some (s.map .int)) (hl : r.length ≤ 1000) (hc : small64 c = true) :
    g__less [.fz (.int p), .fz a, .fz b, .fz (.int c)] = some (.ok (.list ((lss p r s c).map .int)), [.fz (.int p), .fz a, .fz b, .fz (.int c)]) := by
  walk_at "w_run"
  unfold B__less
  walk_at "wp"
  refine w_lif (o_zip ha hb) ?_
  have q := comp_fun (is := [4, 5]) (set := sTup 2 (sCons (sName 4) (sCons (sName 5) sNil))) (el := xBin modD (xBin subD (xVar 4) (xBin mulD (xVar 3) (xVar 5))) (xVar 0)) (ds := pairL (r.map .int) (s.map .int)) (δ := [.fz (.int p), .fz a, .fz b, .fz (.int c), .un, .un])
    (fun d => match d with | .tuple [.int x, .int y] => .int ((x - c * y).fmod p) | _ => .none) (by rw [pairL_length]; simp; omega) fun d hd => by
      obtain ⟨x, y, rfl⟩ := pair_mem hd
      walk_at "wp"
      refine w_lif (o_mul (mulOk_l hc)) ?_
      refine w_lif (o_subI _ _) ?_
      walk_at "wp"
      refine w_lif (o_mod hp) ?_
      exact ⟨rfl, rfl, rfl⟩
  refine ⟨rfl, _, _, q, ?_⟩
  walk_at "wp"
  exact ⟨by rw [pairL_ints, List.map_zipWith]; unfold lss; rw [List.map_zipWith], rfl⟩
theorem res_scl {p u : Int} {r : List Int} (hp : 0 < p) : Res p (scl p r u) := fun x hx => by
  obtain ⟨y, _, rfl⟩ := List.mem_map.mp hx
  exact ⟨Int.fmod_nonneg_of_pos _ hp, Int.fmod_lt_of_pos _ hp⟩
theorem res_lss {p c : Int} {r s : List Int} (hp : 0 < p) : Res p (lss p r s c) := by
  intro x hx
  unfold lss at hx
  obtain ⟨i, hi, rfl⟩ := List.getElem_of_mem hx
  rw [List.getElem_zipWith]
  exact ⟨Int.fmod_nonneg_of_pos _ hp, Int.fmod_lt_of_pos _ hp⟩
theorem lss_length {p c : Int} {r s : List Int} : (lss p r s c).length = min r.length s.length := by unfold lss; rw [List.length_zipWith]
section
variable {p : Nat} [NeZero p]
theorem vc_scl (hp : 0 < p) (r : List Int) (u : Int) (k : Nat) : vc (F := Fin p) (scl p r u) k = vc r k * cz u := by
  by_cases h : k < r.length
  · rw [vc_at (by simpa [scl] using h), vc_at h]
    unfold scl
    rw [List.getElem_map, cz_fmod (p := p) hp, cz_mul]
  · rw [vc_out (by simpa [scl] using h), vc_out (by omega)]
    grind
theorem vc_lss (hp : 0 < p) {r s : List Int} (hl : r.length = s.length) (c : Int) (k : Nat) : vc (F := Fin p) (lss p r s c) k = vc r k - cz c * vc s k := by
  by_cases h : k < r.length
  · rw [vc_at (by rw [lss_length]; omega), vc_at h, vc_at (by omega)]
    unfold lss
    rw [List.getElem_zipWith, cz_fmod (p := p) hp, cz_sub, cz_mul]
  · rw [vc_out (by rw [lss_length]; omega), vc_out (by omega), vc_out (by omega)]
    grind
end
end K03
end

section
set_option linter.all false
set_option maxRecDepth 100000
set_option maxHeartbeats 1000000
namespace K03
open PySem PD LA
theorem w_loop2 {set : Tg} {b : MS} {Q : Flo → Sg → Prop} {ds : List PyData} {δ : Sg} (I : Nat → Sg → Prop) (h0 : I 0 δ)
    (step : ∀ (j : Nat) (d : PyData), ds[j]? = some d → ∀ δ, I j δ → Gs set d δ fun δ1 => Gd b δ1 fun fl δ2 => (fl = .nx ∨ fl = .ct) ∧ I (j + 1) δ2) (h : ∀ δ', I ds.length δ' → Q .nx δ') : Gd (loopD set b ds) δ Q := by
  induction ds generalizing δ I with
  | nil => exact ⟨.nx, δ, rfl, h δ h0⟩
  | cons d ds ih =>
    obtain ⟨δ1, e1, fl, δ2, e2, hf, h1⟩ := step 0 d rfl δ h0
    obtain ⟨fl', δ3, e3, q⟩ := ih (δ := δ2) (fun j => I (j + 1)) h1 (fun j d' q δ hi => step (j + 1) d' q δ hi) h
    refine ⟨fl', δ3, ?_, q⟩
    unfold loopD
    rw [e1]
    dsimp only
    rw [e2]
    rcases hf with rfl | rfl
    · exact e3
    · exact e3
theorem ix_nat {xs : List PyData} {k : Nat} {d : PyData} (h : xs[k]? = some d) : ixD (.list xs) (.int (k : Int)) = some d := by
  show L2.atI xs (k : Int) = some d
  have hk : k < xs.length := by
    obtain ⟨h, _⟩ := List.getElem?_eq_some_iff.mp h
    exact h
  unfold L2.atI L2.ixN
  rw [if_pos (by omega), if_pos (by omega)]
  simpa using h
theorem ix_natT {xs : List PyData} {k : Nat} {d : PyData} (h : xs[k]? = some d) : ixD (.tuple xs) (.int (k : Int)) = some d := ix_nat h
theorem ix_head {d : PyData} {ds : List PyData} : ixD (.list (d :: ds)) (.int 0) = some d := ix_nat (k := 0) rfl
theorem ix_rows {E : List (List Int)} {k : Nat} (h : k < E.length) : ixD (.list (E.map rowL)) (.int (k : Int)) = some (rowL E[k]) := ix_nat (by rw [List.getElem?_map, List.getElem?_eq_getElem h]; rfl)
theorem ix_ints {r : List Int} {k : Nat} (h : k < r.length) : ixD (rowL r) (.int (k : Int)) = some (.int r[k]) := ix_nat (by rw [List.getElem?_map, List.getElem?_eq_getElem h]; rfl)
theorem ix_intsT {r : List Int} {k : Nat} (h : k < r.length) : ixD (rowT r) (.int (k : Int)) = some (.int r[k]) := ix_natT (by rw [List.getElem?_map, List.getElem?_eq_getElem h]; rfl)
theorem rangeL_get {lo : Int} {n j : Nat} {d : PyData} (h : (rangeL lo n)[j]? = some d) : j < n ∧ d = .int (lo + (j : Int)) := by
  unfold rangeL at h
  rw [List.getElem?_map] at h
  by_cases hj : j < n
  · rw [List.getElem?_range hj] at h
    exact ⟨hj, (Option.some.inj h).symm⟩
  · rw [List.getElem?_eq_none (by simpa using hj)] at h
    cases h
theorem range2_take {i j : Int} (h0 : 0 ≤ i) (h1 : i < 1000000) (h2 : 0 ≤ j) (h : j < 1000000) : range2D [.int i, .int j] = some (rangeL i (j - i).toNat) := by
  unfold range2D fit62
  dsimp only
  rw [if_pos]
  simp only [Bool.and_eq_true, decide_eq_true_eq]
  omega
theorem Rows.length {vs : List PyData} {rows : List (List Int)} (h : Rows vs rows) : vs.length = rows.length := by
  induction h with
  | nil => rfl
  | cons _ _ ih => simp [ih]
theorem Rows.get {vs : List PyData} {rows : List (List Int)} (h : Rows vs rows) : ∀ (j : Nat) (d : PyData), vs[j]? = some d → ∃ r, rows[j]? = some r ∧ seqD d = some (r.map .int) := by
  induction h with
  | nil => intro j d h; cases h
  | @cons v vs r rows hv t ih =>
    intro j d h
    cases j with
    | zero => cases h; exact ⟨r, rfl, hv⟩
    | succ j => exact ih j d (by simpa using h)
def sqL (d : PyData) : PyData := .list ((seqD d).getD [])
theorem Rows.lists {vs : List PyData} {rows : List (List Int)} (h : Rows vs rows) : vs.map sqL = rows.map rowL := by
  induction h with
  | nil => rfl
  | cons hv t ih =>
    rw [List.map_cons, List.map_cons, ih]
    unfold sqL
    rw [hv]
    rfl
theorem o_listS {d : PyData} {xs : List PyData} (h : seqD d = some xs) (hl : xs.length ≤ 1000000) : listD [d] = some xs := by
  cases d <;> first | (cases h; done) | skip
  · cases h; exact o_listL hl
  · cases h; exact o_list hl
def Mt (p : Nat) (n : Nat) (rows : List (List Int)) : Prop := ∀ r ∈ rows, Rw p n r
abbrev vs (p : Nat) [NeZero p] (rows : List (List Int)) : List (Vc (Fin p)) := rows.map vc
section
variable {p : Nat} [NeZero p] [Fd (Fin p)]
theorem row_vs (E : List (List Int)) (j : Nat) (h : j < E.length) : row (vs p E) j = vc E[j] := by
  rw [row_at (by simpa using h)]
  simp
theorem vs_wd {n : Nat} {rows : List (List Int)} (h : Mt p n rows) : Wd n (vs p rows) := fun v hv k hk => by
  obtain ⟨r, hr, rfl⟩ := List.mem_map.mp hv
  exact vc_out (by rw [(h r hr).len]; exact hk)
theorem cz_ne {x : Int} (h0 : 0 ≤ x) (h1 : x < p) : cz (F := Fin p) x = 0 ↔ x = 0 := by
  constructor
  · intro h
    exact cz_inj (F := Fin p) (p := p) ⟨h0, h1⟩ ⟨by omega, by omega⟩ (by rw [h, cz_zero])
  · rintro rfl; exact cz_zero
abbrev nats (l : List Nat) : List PyData := l.map fun (n : Nat) => PyData.int (n : Int)
theorem getD_at {α : Type} {l : List α} {d : α} {k : Nat} (h : k < l.length) : l.getD k d = l[k] := by
  rw [List.getD_eq_getElem?_getD, List.getElem?_eq_getElem h]
  rfl
/-- the state of the elimination -/
def XI (p : Nat) [NeZero p] [Fd (Fin p)] (a : PyData) (n : Nat) (w : Nat) (rows : List (List Int)) (j : Nat) (δ : Sg) : Prop :=
  ∃ (E : List (List Int)) (l : List Nat) (c5 c6 c7 c8 : Cell), δ = [.fz (.int p), .fz a, .fz (.int w), .ow false (E.map rowL), .ow false (nats l), c5, c6, c7, c8, .un, .un, .un] ∧
    c5.free = true ∧ c6.free = true ∧ c7.free = true ∧ c8.free = true ∧ Mt p n E ∧ El j (vs p rows) (vs p E) l
abbrev xBody : MS := (sSeq (sAsg (xLenO 4) (sName 6))
  (sSeq (sAsg (bnd (xComp (xCallF' range2D (bnd (xVar 6) fun d => bnd (bnd (xLenO 3) fun d => bnd (PD.ret []) fun ds => PD.ret (d :: ds)) fun ds => PD.ret (d :: ds))) [10] (sName 10) (xTru (xBin ixD (xIxO 3 (xVar 10)) (xVar 5))) (xVar 10)) fun ds => PD.ret (.list ds)) (sName 7))
  (sSeq (sIf (xNotT (xTru (xVar 7))) (PD.ret .ct) sSkip)
  (sSeq (sAsg (xTup (bnd (xIxO 3 (xBin ixD (xVar 7) (PD.ret (.int 0)))) fun d => bnd (bnd (xIxO 3 (xVar 6)) fun d => bnd (PD.ret []) fun ds => PD.ret (d :: ds)) fun ds => PD.ret (d :: ds))) (sTup 2 (sCons (sSubT 3 (xVar 6)) (sCons (sSubT 3 (xBin ixD (xVar 7) (PD.ret (.int 0)))) sNil))))
  (sSeq (sAsg (xDef g__scaled (bnd (xVar 0) fun d => bnd (bnd (xIxO 3 (xVar 6)) fun d => bnd (bnd (xDef g_inverse (bnd (xVar 0) fun d => bnd (bnd (xBin ixD (xIxO 3 (xVar 6)) (xVar 5)) fun d => bnd (PD.ret []) fun ds => PD.ret (d :: ds)) fun ds => PD.ret (d :: ds))) fun d => bnd (PD.ret []) fun ds => PD.ret (d :: ds)) fun ds => PD.ret (d :: ds)) fun ds => PD.ret (d :: ds))) (sName 8))
  (sSeq (sOwn (xComp (xSeq (xVar 3)) [11] (sName 11) (PD.ret true) (xIf (xTru (xBin ixD (xVar 11) (xVar 5))) (xDef g__less (bnd (xVar 0) fun d => bnd (bnd (xVar 11) fun d => bnd (bnd (xVar 8) fun d => bnd (bnd (xBin ixD (xVar 11) (xVar 5)) fun d => bnd (PD.ret []) fun ds => PD.ret (d :: ds)) fun ds => PD.ret (d :: ds)) fun ds => PD.ret (d :: ds)) fun ds => PD.ret (d :: ds))) (xVar 11))) 3)
  (sSeq (sSub (xVar 8) 3 (xVar 6))
  (sApp 4 (xVar 5)))))))))
/-- whether a row has something at a place -/
def hit (E : List (List Int)) (P : Nat) : PyData → Bool
  | .int k => (E.getD k.toNat []).getD P 0 != 0
  | _ => false
theorem w_subT {i : Nat} {g : M PyData} {d : PyData} {δ : Sg} {b : Bool} {ds : List PyData} {Q : Sg → Prop} (a : At δ i (.ow b ds)) (h : Gd g δ fun k δ2 => ∃ b' ds' n j δ3, k = .int n ∧ At δ2 i (.ow b' ds') ∧ L2.ixN ds'.length n = some j ∧ Put δ2 i (.ow b' (ds'.set j d)) δ3 ∧ Q δ3) : Gs (sSubT i g) d δ Q := by
  obtain ⟨k, δ2, e, b', ds', n, j, δ3, rfl, a', ej, p, h⟩ := h
  exact ⟨δ3, by unfold sSubT; rw [a.get]; dsimp only; rw [e]; dsimp only; rw [a'.get]; dsimp only; rw [ej]; dsimp only; rw [p.set], h⟩
theorem ixN_nat {n k : Nat} (h : k < n) : L2.ixN n (k : Int) = some k := by
  unfold L2.ixN
  rw [if_pos (by omega), if_pos (by omega)]
  simp
/-- the row without what stands at a place -/
def clr (p : Int) (ld : List Int) (P : Nat) (r : List Int) : List Int := if r.getD P 0 ≠ 0 then lss p r ld (r.getD P 0) else r
theorem clr_rw {n P : Nat} {ld r : List Int} (hp : 0 < (p : Int)) (h : Rw p n r) (hl : ld.length = n) : Rw p n (clr p ld P r) := by
  unfold clr
  split
  · exact ⟨by rw [lss_length, h.len, hl]; omega, res_lss hp⟩
  · exact h
theorem vc_clr {n P : Nat} {ld r : List Int} (hp : 0 < p) (h : Rw p n r) (hl : ld.length = n) (k : Nat) : vc (F := Fin p) (clr p ld P r) k = vc r k - vc r P * vc ld k := by
  unfold clr
  split
  · rw [vc_lss hp (by rw [h.len, hl])]
    rfl
  · rename_i e
    have e : r.getD P 0 = 0 := Classical.byContradiction e
    have : vc (F := Fin p) r P = 0 := by unfold vc; rw [e]; exact cz_zero
    rw [this]
    grind
theorem x_step (pr : Pr p) {a : PyData} {n w : Nat} {rows : List (List Int)} (hm : rows.length ≤ 1000) (hn : n ≤ 1000) {P : Nat} (hP : P < n) {δ : Sg} (h : XI p a n w rows P δ) :
    Gs (sName 5) (.int (P : Int)) δ fun δ1 => Gd xBody δ1 fun fl δ2 => (fl = .nx ∨ fl = .ct) ∧ XI p a n w rows (P + 1) δ2 := by
  obtain ⟨E, l, c5, c6, c7, c8, rfl, f5, f6, f7, f8, mt, el⟩ := h
  have p0 : (p : Int) ≠ 0 := by have := pr.pos; omega
  have pp : 0 < (p : Int) := by have := pr.pos; omega
  have plt : (p : Int) < 1000 := by have := pr.lt; omega
  have hlen : E.length = rows.length := by have := el.len; simpa using this
  have hle : l.length ≤ E.length := by have := el.ei.le; simpa using this
  walk_at "wp"
  refine w_lenO (.s (.s (.s (.s .z)))) ?_
  rw [List.length_map]
  walk_at "wp"
  refine w_lenO (.s (.s (.s .z))) ?_
  rw [List.length_map]
  walk_at "wp"
  refine w_lif (range2_take (by omega) (by omega) (by omega) (by omega)) ?_
  have qf := comp_filter (is := [10]) (set := sName 10) (t := xTru (xBin ixD (xIxO 3 (xVar 10)) (xVar 5))) (el := xVar 10) (δ := [.fz (.int p), .fz a, .fz (.int w), .ow false (E.map rowL), .ow false (nats l), .fz (.int (P : Int)), .fz (.int (l.length : Nat)), c7, c8, .un, .un, .un]) (hit E P) (ds := rangeL l.length ((E.length : Int) - l.length).toNat) (acc := []) (by rw [rangeL_length]; simp; omega) fun d hd => by
    unfold rangeL at hd
    obtain ⟨i, hi, rfl⟩ := List.mem_map.mp hd
    have hi := List.mem_range.mp hi
    have hk : l.length + i < E.length := by omega
    have hrw := mt _ (List.getElem_mem hk)
    walk_at "wp"
    refine w_ixO (.s (.s (.s .z))) ?_
    walk_at "wp"
    refine ⟨_, _, .s (.s (.s .z)), ?_⟩
    refine w_lif (ix_rows (k := l.length + i) hk) ?_
    walk_at "wp"
    refine w_lif (ix_ints (k := P) (by rw [hrw.len]; exact hP)) ?_
    refine w_lif rfl ?_
    refine ⟨?_, fun _ => ?_, fun _ => ⟨rfl, rfl⟩⟩
    · unfold hit
      have e1 : ((l.length : Int) + (i : Nat)).toNat = l.length + i := by omega
      have e2 : E.getD (l.length + i) [] = E[l.length + i] := getD_at hk
      have e3 : (E[l.length + i]).getD P 0 = (E[l.length + i])[P]'(by rw [hrw.len]; exact hP) := getD_at _
      show _ = ((E.getD ((l.length : Int) + (i : Nat)).toNat []).getD P 0 != 0)
      rw [e1, e2, e3]
    · walk_at "wp"
      exact ⟨rfl, rfl, rfl⟩
  rw [List.nil_append] at qf
  refine ⟨rfl, _, _, qf, ?_⟩
  walk_at "wp"
  show Gs (sName 7) _ [.fz (.int p), .fz a, .fz (.int w), .ow false (E.map rowL), .ow false (nats l), .fz (.int (P : Int)), .fz (.int (l.length : Nat)), c7, c8, .un, .un, .un] _
  walk_at "wp"
  refine w_lif rfl ?_
  have hmem : ∀ k, l.length ≤ k → (hk : k < E.length) → (E[k].getD P 0 ≠ 0) → PyData.int (k : Int) ∈ (rangeL l.length ((E.length : Int) - l.length).toNat).filter (hit E P) := fun k h1 hk h2 => by
    refine List.mem_filter.mpr ⟨List.mem_map.mpr ⟨k - l.length, List.mem_range.mpr (by omega), congrArg PyData.int (by omega)⟩, ?_⟩
    show ((E.getD ((k : Int)).toNat []).getD P 0 != 0) = true
    rw [Int.toNat_natCast, getD_at (l := E) hk]
    exact bne_iff_ne.mpr h2
  cases hfl : (rangeL l.length ((E.length : Int) - l.length).toNat).filter (hit E P) with
  | nil =>
    show Gd (cond true _ _) _ _
    walk_at "wp"
    refine ⟨.inr rfl, E, l, _, _, _, c8, rfl, rfl, rfl, rfl, f8, mt, el.ei.skip fun j hj => ?_, el.len, el.sp, el.ind⟩
    by_cases g : j < E.length
    · rw [row_vs E j g]
      refine Classical.byContradiction fun q => ?_
      have := hmem j hj g (fun z => q (by unfold vc; rw [z]; exact cz_zero))
      rw [hfl] at this
      cases this
    · rw [row_out (by simp; omega)]
  | cons d ds =>
    obtain ⟨k, hk1, hk2, hk3, rfl⟩ : ∃ k : Nat, l.length ≤ k ∧ ∃ hk : k < E.length, E[k].getD P 0 ≠ 0 ∧ d = .int (k : Int) := by
      have hd : d ∈ (rangeL l.length ((E.length : Int) - l.length).toNat).filter (hit E P) := by rw [hfl]; exact List.mem_cons_self ..
      obtain ⟨h1, h2⟩ := List.mem_filter.mp hd
      obtain ⟨i, hi, rfl⟩ := List.mem_map.mp h1
      have hi := List.mem_range.mp hi
      have hk : l.length + i < E.length := by omega
      refine ⟨l.length + i, by omega, hk, ?_, congrArg PyData.int (by omega)⟩
      have h2 : ((E.getD ((l.length : Int) + (i : Nat)).toNat []).getD P 0 != 0) = true := h2
      rw [show ((l.length : Int) + (i : Nat)).toNat = l.length + i by omega, getD_at (l := E) hk] at h2
      exact bne_iff_ne.mp h2
    show Gd (cond false _ _) _ _
    have hr : l.length < E.length := by omega
    walk_at "wp"
    refine w_ixO (.s (.s (.s .z))) ?_
    walk_at "wp"
    refine w_lif ix_head ?_
    refine ⟨_, _, .s (.s (.s .z)), ?_⟩
    refine w_lif (ix_rows hk2) ?_
    walk_at "wp"
    refine w_ixO (.s (.s (.s .z))) ?_
    walk_at "wp"
    refine ⟨_, _, .s (.s (.s .z)), ?_⟩
    refine w_lif (ix_rows hr) ?_
    walk_at "wp"
    refine w_subT (.s (.s (.s .z))) ?_
    walk_at "wp"
    refine ⟨_, _, _, l.length, _, rfl, .s (.s (.s .z)), ixN_nat (by simp; omega), .s (.s (.s .z)), ?_⟩
    walk_at "wp"
    refine w_subT (.s (.s (.s .z))) ?_
    walk_at "wp"
    refine w_lif ix_head ?_
    refine ⟨_, _, _, k, _, rfl, .s (.s (.s .z)), ixN_nat (by simp; omega), .s (.s (.s .z)), ?_⟩
    rw [← List.map_set, ← List.map_set]
    have hE1 : (E.set l.length E[k]).set k E[l.length] = (E.set l.length E[k]).set k E[l.length] := rfl
    have mt1 : Mt p n ((E.set l.length E[k]).set k E[l.length]) := fun r hr' => by
      rcases List.mem_or_eq_of_mem_set hr' with h | rfl
      · rcases List.mem_or_eq_of_mem_set h with h | rfl
        · exact mt r h
        · exact mt _ (List.getElem_mem _)
      · exact mt _ (List.getElem_mem _)
    have vs1 : vs p ((E.set l.length E[k]).set k E[l.length]) = swp (vs p E) l.length k := by
      rw [swp_eq (by simpa using hr) (by simpa using hk2)]
      simp [List.map_set]
    have top1 : ((E.set l.length E[k]).set k E[l.length])[l.length]? = some E[k] := by
      by_cases e : k = l.length
      · subst e
        simp [hr]
      · rw [List.getElem?_set_ne (by omega), List.getElem?_set_self hr]
    have len1 : ((E.set l.length E[k]).set k E[l.length]).length = E.length := by simp
    generalize (E.set l.length E[k]).set k E[l.length] = E1 at mt1 vs1 top1 len1
    have hr1 : l.length < E1.length := by omega
    have et : E1[l.length] = E[k] := by
      rw [List.getElem?_eq_getElem hr1] at top1
      exact Option.some.inj top1
    have hrk := mt _ (List.getElem_mem hk2)
    have hrt := mt1 _ (List.getElem_mem hr1)
    have hPk : P < E[k].length := by rw [hrk.len]; exact hP
    have hPt : P < E1[l.length].length := by rw [hrt.len]; exact hP
    have hpiv : E1[l.length][P] = E[k].getD P 0 := by rw [getD_at hPk]; simp only [et]
    obtain ⟨pv0, pv1⟩ := hrt.res _ (List.getElem_mem hPt)
    obtain ⟨u, ei, u0, u1, hu⟩ := pr.inv (E1[l.length][P]) (by rw [hpiv] at *; omega) pv1
    walk_at "wp"
    refine w_ixO (.s (.s (.s .z))) ?_
    walk_at "wp"
    refine ⟨_, _, .s (.s (.s .z)), ?_⟩
    refine w_lif (ix_rows hr1) ?_
    walk_at "wp"
    refine w_ixO (.s (.s (.s .z))) ?_
    walk_at "wp"
    refine ⟨_, _, .s (.s (.s .z)), ?_⟩
    refine w_lif (ix_rows hr1) ?_
    walk_at "wp"
    refine w_lif (ix_ints hPt) ?_
    walk_at "wp"
    refine ⟨_, _, ei, ?_⟩
    walk_at "wp"
    refine ⟨_, _, scaled_eq (r := E1[l.length]) p0 rfl (by rw [hrt.len]; exact hn) (sm_of plt u0 u1), ?_⟩
    walk_at "wp"
    refine w_varO (.s (.s (.s .z))) (.s (.s (.s .z))) ?_
    refine w_lif rfl ?_
    have ldl : (scl p E1[l.length] u).length = n := by simp [scl, hrt.len]
    have qc := comp_fun (is := [11]) (set := sName 11) (el := xIf (xTru (xBin ixD (xVar 11) (xVar 5))) (xDef g__less (bnd (xVar 0) fun d => bnd (bnd (xVar 11) fun d => bnd (bnd (xVar 8) fun d => bnd (bnd (xBin ixD (xVar 11) (xVar 5)) fun d => bnd (PD.ret []) fun ds => PD.ret (d :: ds)) fun ds => PD.ret (d :: ds)) fun ds => PD.ret (d :: ds)) fun ds => PD.ret (d :: ds))) (xVar 11))
      (ds := E1.map rowL) (δ := [.fz (.int p), .fz a, .fz (.int w), .fz (.list (E1.map rowL)), .ow false (nats l), .fz (.int (P : Int)), .fz (.int (l.length : Nat)), .fz (.list (.int (k : Int) :: ds)), .fz (.list ((scl p E1[l.length] u).map .int)), .un, .un, .un])
      (fun d => match d with | .list xs => rowL (clr p (scl p E1[l.length] u) P ((ints? xs).getD [])) | d => d) (by simp; omega) fun d hd => by
      obtain ⟨r, hr', rfl⟩ := List.mem_map.mp hd
      have hrr := mt1 r hr'
      have hPr : P < r.length := by rw [hrr.len]; exact hP
      have gd : r.getD P 0 = r[P] := getD_at hPr
      obtain ⟨q0, q1⟩ := hrr.res _ (List.getElem_mem hPr)
      show Gs (sName 11) (rowL r) _ _
      walk_at "wp"
      refine w_lif (ix_ints hPr) ?_
      refine w_lif rfl ?_
      have hi : (ints? (r.map PyData.int)).getD [] = r := by rw [ints_map]; rfl
      refine w_by (fun h => ?_) fun h => ?_
      · have hne : r.getD P 0 ≠ 0 := by rw [gd]; exact bne_iff_ne.mp h
        walk_at "wp"
        refine w_lif (ix_ints hPr) ?_
        walk_at "wp"
        refine ⟨_, _, less_eq (r := r) (s := scl p E1[l.length] u) p0 rfl rfl (by rw [hrr.len]; exact hn) (sm_of plt q0 q1), ?_⟩
        refine ⟨?_, rfl, rfl⟩
        show _ = rowL (clr p (scl p E1[l.length] u) P ((ints? (r.map PyData.int)).getD []))
        rw [hi]
        unfold clr
        rw [if_pos hne, gd]
      · have hne : r.getD P 0 = 0 := by rw [gd]; simpa using h
        walk_at "wp"
        refine ⟨?_, rfl, rfl⟩
        show _ = rowL (clr p (scl p E1[l.length] u) P ((ints? (r.map PyData.int)).getD []))
        rw [hi]
        unfold clr
        rw [if_neg (fun z => z hne)]
    have hmap : (E1.map rowL).map (fun d => match d with | .list xs => rowL (clr p (scl p E1[l.length] u) P ((ints? xs).getD [])) | d => d) = (E1.map (clr p (scl p E1[l.length] u) P)).map rowL := by
      rw [List.map_map, List.map_map]
      refine List.map_congr_left fun r _ => ?_
      show rowL (clr p (scl p E1[l.length] u) P ((ints? (r.map PyData.int)).getD [])) = rowL (clr p (scl p E1[l.length] u) P r)
      rw [ints_map]
      rfl
    rw [hmap] at qc
    refine ⟨rfl, _, _, qc, ?_⟩
    refine ⟨_, _, .s (.s (.s .z)), rfl, .s (.s (.s .z)), ?_⟩
    show Nx _ _ _ [.fz (.int p), .fz a, .fz (.int w), .ow false ((E1.map (clr p (scl p E1[l.length] u) P)).map rowL), .ow false (nats l), .fz (.int (P : Int)), .fz (.int (l.length : Nat)), .fz (.list (.int (k : Int) :: ds)), .fz (.list ((scl p E1[l.length] u).map .int)), .un, .un, .un]
    walk_at "wp"
    refine w_sub ?_
    walk_at "wp"
    refine ⟨_, _, .s (.s (.s .z)), ?_⟩
    walk_at "wp"
    refine ⟨_, _, _, l.length, _, rfl, .s (.s (.s .z)), ixN_nat (by simp; omega), .s (.s (.s .z)), ?_⟩
    walk_at "wp"
    refine w_app (.s (.s (.s (.s .z)))) ?_
    walk_at "wp"
    refine ⟨_, _, _, .s (.s (.s (.s .z))), by simp; omega, .s (.s (.s (.s .z))), .inl rfl, ?_⟩
    have hpu : row (swp (vs p E) l.length k) l.length P * cz u = 1 := by
      rw [← vs1, row_vs E1 l.length hr1, vc_at hPt, ← cz_mul, ← cz_one, ← hu, cz_fmod (p := p) pr.pos, Int.mul_comm]
    have vs2 : vs p ((E1.map (clr p (scl p E1[l.length] u) P)).set l.length (scl p E1[l.length] u)) = LA.elim (swp (vs p E) l.length k) l.length P (cz u) := by
      have hld : vc (F := Fin p) (scl p E1[l.length] u) = lead (vs p E1) l.length (cz u) := by
        funext i
        unfold lead
        rw [vc_scl pr.pos, row_vs E1 l.length hr1]
      rw [← vs1]
      unfold LA.elim vs
      rw [List.map_set, List.map_map, List.map_map, hld]
      refine congrArg (fun A : List (Vc (Fin p)) => A.set l.length (lead (vs p E1) l.length (cz u))) ?_
      refine List.map_congr_left fun r hr' => ?_
      funext i
      show vc (clr p (scl p E1[l.length] u) P r) i = vc r i - vc r P * lead (vs p E1) l.length (cz u) i
      rw [vc_clr pr.pos (mt1 r hr') ldl, hld]
    have hrE : l.length < (vs p E).length := by simpa using hr
    have hkE : k < (vs p E).length := by simpa using hk2
    refine ⟨(E1.map (clr p (scl p E1[l.length] u) P)).set l.length (scl p E1[l.length] u), l ++ [P], .fz (.int (P : Int)), .fz (.int (l.length : Nat)), .fz (.list (.int (k : Int) :: ds)), .fz (.list ((scl p E1[l.length] u).map .int)), ?_, rfl, rfl, rfl, rfl, fun r hr' => ?_, ?_⟩
    · rw [List.map_set]
      simp
    · rcases List.mem_or_eq_of_mem_set hr' with h | rfl
      · obtain ⟨r', h', rfl⟩ := List.mem_map.mp h
        exact clr_rw pp (mt1 r' h') ldl
      · exact ⟨ldl, res_scl pp⟩
    · rw [vs2]
      refine ⟨(el.ei.swap hk1 hkE).elim (by rw [swp_length]; exact hrE) hpu, by rw [elim_length, swp_length, el.len], fun x => ?_, fun hi => ?_⟩
      · rw [elim_sp (by rw [swp_length]; exact hrE) hpu, swp_sp hrE hkE, el.sp]
      · exact elim_ind (by rw [swp_length]; exact hrE) hpu (swp_ind hrE hkE (el.ind hi))
theorem echelon_eq (pr : Pr p) {a : PyData} {ds : List PyData} {n w : Nat} {rows : List (List Int)} (ha : seqD a = some ds) (hr : Rows ds rows) (mt : Mt p n rows) (hm : rows.length ≤ 1000) (hn : n ≤ 1000) (hw : w ≤ n) :
    ∃ (E : List (List Int)) (l : List Nat), g__echelon [.fz (.int p), .fz a, .fz (.int w)] = some (.ok (.tuple [.list (E.map rowL), .list (nats l)]), [.fz (.int p), .fz a, .fz (.int w)]) ∧ Mt p n E ∧ El w (vs p rows) (vs p E) l := by
  have q := comp_fun (is := [9]) (set := sName 9) (el := bnd (xCallF listD (bnd (xVar 9) fun d => bnd (PD.ret []) fun ds => PD.ret (d :: ds))) fun ds => PD.ret (.list ds)) (ds := ds) (δ := [.fz (.int p), .fz a, .fz (.int w), .un, .un, .un, .un, .un, .un, .un, .un, .un]) sqL (by rw [hr.length]; omega) fun d hd => by
    obtain ⟨j, hj, e⟩ := List.getElem_of_mem hd
    obtain ⟨r, hr1, hr2⟩ := hr.get j d (by rw [List.getElem?_eq_getElem hj, e])
    have hrl : r ∈ rows := List.mem_of_getElem? hr1
    walk_at "wp"
    refine w_lif (o_listS hr2 (by simp [(mt r hrl).len]; omega)) ?_
    walk_at "wp"
    exact ⟨by unfold sqL; rw [hr2]; rfl, rfl, rfl⟩
  rw [hr.lists] at q
  suffices H : Gd B__echelon [.fz (.int p), .fz a, .fz (.int w), .un, .un, .un, .un, .un, .un, .un, .un, .un] fun fl δ' => ∃ (E : List (List Int)) (l : List Nat), fl = .rt (.tuple [.list (E.map rowL), .list (nats l)]) ∧ keepO [.fz (.int p), .fz a, .fz (.int w)] δ' = some [.fz (.int p), .fz a, .fz (.int w)] ∧ Mt p n E ∧ El w (vs p rows) (vs p E) l by
    obtain ⟨fl, δ', e, E, l, h1, h2, h3, h4⟩ := H
    refine ⟨E, l, ?_, h3, h4⟩
    walk_at "w_run"
    exact ⟨fl, δ', e, h1, h2⟩
  unfold B__echelon
  walk_at "wp"
  refine w_lif ha ?_
  refine ⟨rfl, _, _, q, ?_⟩
  refine ⟨_, _, .s (.s (.s .z)), rfl, .s (.s (.s .z)), ?_⟩
  show Nx _ _ _ [.fz (.int p), .fz a, .fz (.int w), .ow false (rows.map rowL), .un, .un, .un, .un, .un, .un, .un, .un]
  walk_at "wp"
  refine ⟨_, _, .s (.s (.s (.s .z))), rfl, .s (.s (.s (.s .z))), ?_⟩
  walk_at "wp"
  refine w_lif (range_take (by omega) (by omega)) ?_
  refine w_loop2 (XI p a n w rows) ⟨rows, [], .un, .un, .un, .un, rfl, rfl, rfl, rfl, rfl, mt, .start _, rfl, fun x => Iff.rfl, id⟩ (fun j d hj δ hi => ?_) ?_
  · obtain ⟨h1, hd⟩ := rangeL_get hj
    rw [Int.zero_add] at hd
    rw [hd]
    exact x_step pr hm hn (by omega) hi
  · rintro δ ⟨E, l, c5, c6, c7, c8, rfl, _, _, _, _, h1, h2⟩
    rw [rangeL_length] at h2
    walk_at "wp"
    refine w_varO (.s (.s (.s .z))) (.s (.s (.s .z))) ?_
    walk_at "wp"
    refine w_varO (.s (.s (.s (.s .z)))) (.s (.s (.s (.s .z)))) ?_
    walk_at "wp"
    exact ⟨E, l, rfl, rfl, h1, by simpa using h2⟩
end
end K03
end

section
set_option linter.all false
set_option maxRecDepth 100000
set_option maxHeartbeats 1000000
namespace K03
open PySem PD LA
theorem comp_ff {is : List Nat} {set : Tg} {t : M Bool} {el : M PyData} {δ : Sg} (f : PyData → Bool) (g : PyData → PyData) : ∀ {ds acc : List PyData}, acc.length + ds.length ≤ 1000000 →
    (∀ d ∈ ds, Gs set d δ fun δ1 => Gd t δ1 fun b δ2 => b = f d ∧ (b = true → Gd el δ2 fun y δ3 => y = g d ∧ noOw δ3 is = true ∧ wipeD δ3 is = δ) ∧ (b = false → noOw δ2 is = true ∧ wipeD δ2 is = δ)) →
    compD is set t el ds acc δ = some (acc ++ (ds.filter f).map g, δ)
  | [], acc, _, _ => by simp [compD]
  | d :: ds, acc, hl, h => by
    obtain ⟨δ1, e1, b, δ2, e2, hb, h1, h2⟩ := h d (List.mem_cons_self ..)
    have hs : acc.length < sizeLine := by rw [sizeLine_eq]; simp at hl; omega
    cases b with
    | true =>
      obtain ⟨y, δ3, e3, rfl, n, w⟩ := h1 rfl
      have q := comp_ff (is := is) (set := set) (t := t) (el := el) (δ := δ) f g (ds := ds) (acc := acc ++ [g d]) (by simp at hl ⊢; omega) fun d' hd => h d' (List.mem_cons_of_mem _ hd)
      unfold compD
      simp only [e1, e2, e3, hs, n, and_self, if_true, w, q, List.filter_cons, ← hb]
      simp
    | false =>
      obtain ⟨n, w⟩ := h2 rfl
      have q := comp_ff (is := is) (set := set) (t := t) (el := el) (δ := δ) f g (ds := ds) (acc := acc) (by simp at hl ⊢; omega) fun d' hd => h d' (List.mem_cons_of_mem _ hd)
      unfold compD
      simp only [e1, e2, n, if_true, w, q, List.filter_cons, ← hb]
      simp
theorem filter_first {f : PyData → Bool} : ∀ {ds : List PyData} {m : Nat} {d : PyData}, ds[m]? = some d → f d = true → (∀ k d', k < m → ds[k]? = some d' → f d' = false) → ∃ t, ds.filter f = d :: t
  | x :: ds, 0, d, e, h, _ => by
    cases e
    exact ⟨_, by rw [List.filter_cons, if_pos h]⟩
  | x :: ds, m + 1, d, e, h, hk => by
    obtain ⟨t, q⟩ := filter_first (ds := ds) (m := m) (by simpa using e) h fun k d' hk' e' => hk (k + 1) d' (by omega) (by simpa using e')
    refine ⟨t, ?_⟩
    rw [List.filter_cons, if_neg (by rw [hk 0 x (by omega) rfl]; exact Bool.false_ne_true), q]
theorem truth_seq {a : PyData} {ds : List PyData} (h : seqD a = some ds) : truthD a = some (!ds.isEmpty) := by
  cases a <;> first | (cases h; done) | skip
  · cases h; rfl
  · cases h; rfl
theorem len_seq {a : PyData} {ds : List PyData} (h : seqD a = some ds) : lenD [a] = some (.int ds.length) := by
  cases a <;> first | (cases h; done) | skip
  · cases h; rfl
  · cases h; rfl
theorem ix_seq {a : PyData} {ds : List PyData} (h : seqD a = some ds) {k : Nat} {d : PyData} (e : ds[k]? = some d) : ixD a (.int (k : Int)) = some d := by
  cases a <;> first | (cases h; done) | skip
  · cases h; exact ix_nat e
  · cases h; exact ix_natT e
theorem Rows.get' {vs : List PyData} {rows : List (List Int)} (h : Rows vs rows) {j : Nat} {r : List Int} (e : rows[j]? = some r) : ∃ d, vs[j]? = some d ∧ seqD d = some (r.map .int) := by
  have hj : j < vs.length := by
    rw [h.length]
    obtain ⟨h, _⟩ := List.getElem?_eq_some_iff.mp e
    exact h
  obtain ⟨r', h1, h2⟩ := h.get j vs[j] (List.getElem?_eq_getElem hj)
  rw [e] at h1
  cases h1
  exact ⟨_, List.getElem?_eq_getElem hj, h2⟩
theorem width_eq {p : Nat} {a : PyData} {ds : List PyData} {n : Nat} {rows : List (List Int)} (ha : seqD a = some ds) (hr : Rows ds rows) (mt : Mt p n rows) :
    g__width [.fz a] = some (.ok (.int ((if rows = [] then 0 else n : Nat) : Int)), [.fz a]) := by
  walk_at "w_run"
  unfold B__width
  walk_at "wp"
  refine w_lif (truth_seq ha) ?_
  cases rows with
  | nil =>
    cases hr
    show Gd (cond false _ _) _ _
    walk_at "wp"
    exact ⟨rfl, rfl⟩
  | cons r rows =>
    obtain ⟨d, h1, h2⟩ := hr.get' (j := 0) rfl
    have : ds.isEmpty = false := by cases ds <;> first | (cases h1; done) | rfl
    rw [this]
    show Gd (cond true _ _) _ _
    walk_at "wp"
    refine w_lif (ix_seq ha (k := 0) h1) ?_
    walk_at "wp"
    refine w_lif (len_seq h2) ?_
    have := (mt r (List.mem_cons_self ..)).len
    exact ⟨by simp [this], rfl⟩
section
variable {p : Nat} [NeZero p] [Fd (Fin p)]
/-- the basis of some rows -/
structure Bs (p : Nat) [NeZero p] [Fd (Fin p)] (n : Nat) (rows : List (List Int)) (B : List (List Int)) (l : List Nat) : Prop where
  mt : Mt p n B
  rf : Rf (vs p B) l
  sp : ∀ x, Sp (vs p B) x ↔ Sp (vs p rows) x
  few : B.length ≤ rows.length
theorem vs_take (E : List (List Int)) (k : Nat) : vs p (E.take k) = (vs p E).take k := List.map_take
theorem bs_of {n w : Nat} {rows E : List (List Int)} {l : List Nat} (hmt : Mt p n rows) (hw : w = if rows = [] then 0 else n) (mt : Mt p n E) (el : El w (vs p rows) (vs p E) l) : Bs p n rows (E.take l.length) l := by
  have hlen : E.length = rows.length := by have := el.len; simpa using this
  refine ⟨fun r hr => mt r (List.mem_of_mem_take hr), by rw [vs_take]; exact el.rf, fun x => ?_, by simp; omega⟩
  rw [vs_take]
  refine el.bsp ?_ x
  by_cases e : rows = []
  · rw [e]; intro v hv; cases hv
  · rw [hw, if_neg e]; exact vs_wd hmt
theorem tuple_rows (B : List (List Int)) : (B.map rowL).map (fun d => match d with | .list xs => PyData.tuple xs | d => d) = B.map rowT := by
  rw [List.map_map]
  rfl
theorem cut_to {xs : List PyData} (k : Nat) : cutD xs none (some (k : Int)) = xs.take k := by
  unfold cutD HT.sIx
  dsimp only
  rw [if_neg (by omega)]
  simp
theorem cut_from {xs : List PyData} (k : Nat) : cutD xs (some (k : Int)) none = xs.drop k := by
  unfold cutD HT.sIx
  dsimp only
  rw [if_neg (by omega), Int.toNat_natCast]
  by_cases h : k ≤ xs.length
  · rw [Nat.min_eq_left h]
    exact List.take_of_length_le (by simp)
  · rw [Nat.min_eq_right (by omega), List.drop_of_length_le (Nat.le_refl _), List.drop_of_length_le (by omega)]
    simp
theorem basis_eq (pr : Pr p) {a : PyData} {ds : List PyData} {n : Nat} {rows : List (List Int)} (ha : seqD a = some ds) (hr : Rows ds rows) (mt : Mt p n rows) (hm : rows.length ≤ 1000) (hn : n ≤ 1000) :
    ∃ (B : List (List Int)) (l : List Nat), g_basis [.fz (.int p), .fz a] = some (.ok (.tuple (B.map rowT)), [.fz (.int p), .fz a]) ∧ Bs p n rows B l := by
  obtain ⟨E, l, e, mtE, el⟩ := echelon_eq pr ha hr mt hm hn (w := if rows = [] then 0 else n) (by split <;> omega)
  have hlen : E.length = rows.length := by have := el.len; simpa using this
  refine ⟨E.take l.length, l, ?_, bs_of mt rfl mtE el⟩
  walk_at "w_run"
  unfold B_basis
  walk_at "wp"
  refine ⟨_, _, width_eq ha hr mt, ?_⟩
  walk_at "wp"
  refine ⟨_, _, e, ?_⟩
  walk_at "wp"
  refine w_lif rfl ?_
  refine ⟨_, rfl, ?_⟩
  refine w_lif rfl ?_
  refine w_lif rfl ?_
  rw [List.length_map, cut_to, ← List.map_take]
  have q := comp_fun (is := [4]) (set := sName 4) (el := xCall tupleD (bnd (xVar 4) fun d => bnd (PD.ret []) fun ds => PD.ret (d :: ds))) (ds := (E.take l.length).map rowL) (δ := [.fz (.int p), .fz a, .fz (.list (E.map rowL)), .fz (.list (nats l)), .un])
    (fun d => match d with | .list xs => PyData.tuple xs | d => d) (by simp; omega) fun d hd => by
      obtain ⟨r, _, rfl⟩ := List.mem_map.mp hd
      walk_at "wp"
      refine w_lif rfl ?_
      exact ⟨rfl, rfl, rfl⟩
  rw [tuple_rows] at q
  refine ⟨rfl, _, _, q, ?_⟩
  walk_at "wp"
  refine w_lif rfl ?_
  exact ⟨rfl, rfl⟩
theorem lead_eq {r : List Int} {m : Nat} (hl : r.length ≤ 1000) (hm : m < r.length) (h1 : r[m] ≠ 0) (h0 : ∀ k (hk : k < m), r[k] = 0) : g__lead [.fz (rowT r)] = some (.ok (.int (m : Int)), [.fz (rowT r)]) := by
  walk_at "w_run"
  unfold B__lead
  walk_at "wp"
  refine w_lif rfl ?_
  have q := comp_ff (is := [1, 2]) (set := sTup 2 (sCons (sName 1) (sCons (sName 2) sNil))) (t := xTru (xVar 2)) (el := xVar 1) (ds := enumL (r.map .int)) (acc := []) (δ := [.fz (rowT r), .un, .un])
    (fun d => match d with | .tuple [_, .int y] => y != 0 | _ => false) (fun d => match d with | .tuple [x, _] => x | d => d) (by simp [enumL]; omega) fun d hd => by
      unfold enumL at hd
      obtain ⟨⟨y, i⟩, hy, rfl⟩ := List.mem_map.mp hd
      have hy' := List.mem_zipIdx' hy
      obtain ⟨z, rfl⟩ : ∃ z, y = .int z := by
        have hi : i < r.length := by simpa using hy'.1
        have := hy'.2
        rw [List.getElem_map] at this
        exact ⟨_, this⟩
      walk_at "wp"
      refine w_lif rfl ?_
      refine ⟨rfl, fun _ => ?_, fun _ => ⟨rfl, rfl⟩⟩
      walk_at "wp"
      exact ⟨rfl, rfl, rfl⟩
  have hg : ∀ k (hk : k < r.length), (enumL (r.map PyData.int))[k]? = some (.tuple [.int (k : Int), .int r[k]]) := fun k hk => by
    unfold enumL
    rw [List.getElem?_map, List.getElem?_zipIdx, List.getElem?_map, List.getElem?_eq_getElem hk]
    simp
  obtain ⟨t, ht⟩ := filter_first (f := fun d => match d with | .tuple [_, .int y] => y != 0 | _ => false) (hg m hm) (bne_iff_ne.mpr h1) fun k d' hk e => by
    rw [hg k (by omega)] at e
    cases e
    show (r[k] != 0) = false
    rw [h0 k hk]
    rfl
  rw [List.nil_append, ht] at q
  refine ⟨rfl, _, _, q, ?_⟩
  walk_at "wp"
  refine w_lif ix_head ?_
  exact ⟨rfl, rfl⟩
theorem rf_lt {n : Nat} {B : List (List Int)} {l : List Nat} (mt : Mt p n B) (rf : Rf (vs p B) l) {i : Nat} (h : i < l.length) : l[i] < n := by
  refine Classical.byContradiction fun q => ?_
  have h1 := rf.one i h
  rw [(vs_wd mt).row i l[i] (by omega)] at h1
  exact Fd.one h1.symm
theorem reduced_eq (pr : Pr p) {b : PyData} {n : Nat} {x : List Int} {B : List (List Int)} {l : List Nat} (hb : seqD b = some (x.map .int)) (hx : Rw p n x) (mt : Mt p n B) (rf : Rf (vs p B) l) (hm : B.length ≤ 1000) (hn : n ≤ 1000) :
    ∃ y : List Int, g__reduced [.fz (.int p), .fz b, .fz (.tuple (B.map rowT))] = some (.ok (rowT y), [.fz (.int p), .fz b, .fz (.tuple (B.map rowT))]) ∧ Rw p n y ∧ (Sp (vs p B) fun k => vc x k - vc y k) ∧ ∀ i (h : i < l.length), vc (F := Fin p) y l[i] = 0 := by
  have p0 : (p : Int) ≠ 0 := by have := pr.pos; omega
  have pp : 0 < (p : Int) := by have := pr.pos; omega
  have plt : (p : Int) < 1000 := by have := pr.lt; omega
  have hlB : l.length = B.length := by rw [rf.len]; simp
  suffices H : Gd B__reduced [.fz (.int p), .fz b, .fz (.tuple (B.map rowT)), .un, .un, .un] fun fl δ' => ∃ y : List Int, (fl = .rt (rowT y) ∧ keepO [.fz (.int p), .fz b, .fz (.tuple (B.map rowT))] δ' = some [.fz (.int p), .fz b, .fz (.tuple (B.map rowT))]) ∧ Rw p n y ∧ (Sp (vs p B) fun k => vc x k - vc y k) ∧ ∀ i (h : i < l.length), vc (F := Fin p) y l[i] = 0 by
    obtain ⟨fl, δ', e, y, h1, h2⟩ := H
    refine ⟨y, ?_, h2⟩
    walk_at "w_run"
    exact ⟨fl, δ', e, h1⟩
  unfold B__reduced
  walk_at "wp"
  refine w_lif (o_listS hb (by simp [hx.len]; omega)) ?_
  walk_at "wp"
  refine w_lif rfl ?_
  refine w_loop (fun j δ => ∃ (y : List Int) (c4 c5 : Cell), δ = [.fz (.int p), .fz b, .fz (.tuple (B.map rowT)), .fz (rowL y), c4, c5] ∧ c4.free = true ∧ c5.free = true ∧ Rw p n y ∧ (Sp (vs p B) fun k => vc x k - vc y k) ∧ ∀ i (h : i < l.length), i < j → vc (F := Fin p) y l[i] = 0)
    ⟨x, .un, .un, rfl, rfl, rfl, hx, Sp.zero.congr fun k => by grind, fun i _ h => by cases h⟩ (fun j d hj δ hi => ?_) ?_
  · obtain ⟨y, c4, c5, rfl, f4, f5, hy, hs, hz⟩ := hi
    have hjB : j < B.length := by
      obtain ⟨h, _⟩ := List.getElem?_eq_some_iff.mp hj
      simpa using h
    obtain rfl : rowT B[j] = d := by
      rw [List.getElem?_map, List.getElem?_eq_getElem hjB] at hj
      exact Option.some.inj hj
    have hjl : j < l.length := by omega
    have hBj := mt _ (List.getElem_mem hjB)
    have hlj := rf_lt mt rf hjl
    have o1 := rf.one j hjl
    rw [row_vs B j hjB] at o1
    have hne : B[j][l[j]]'(by rw [hBj.len]; exact hlj) ≠ 0 := fun z => by
      rw [vc_at (by rw [hBj.len]; exact hlj), z, cz_zero] at o1
      exact Fd.one o1.symm
    have hlow : ∀ k (hk : k < l[j]), B[j][k]'(by rw [hBj.len]; omega) = 0 := fun k hk => by
      have := rf.low j hjl k hk
      rw [row_vs B j hjB, vc_at (by rw [hBj.len]; omega)] at this
      obtain ⟨q0, q1⟩ := hBj.res _ (List.getElem_mem (l := B[j]) (n := k) (by rw [hBj.len]; omega))
      exact (cz_ne q0 q1).mp this
    have hly : l[j] < y.length := by rw [hy.len]; exact hlj
    obtain ⟨q0, q1⟩ := hy.res _ (List.getElem_mem hly)
    have hstep : ∀ y' : List Int, Rw p n y' → (∀ k, vc (F := Fin p) y' k = vc y k - vc y l[j] * vc B[j] k) → (Sp (vs p B) fun k => vc x k - vc y' k) ∧ ∀ i (h : i < l.length), i < j + 1 → vc (F := Fin p) y' l[i] = 0 := fun y' hy' e => by
      constructor
      · have hB : Sp (vs p B) (vc B[j]) := .mem (List.mem_map.mpr ⟨B[j], List.getElem_mem hjB, rfl⟩)
        exact (hs.addV (vc y l[j]) hB).congr fun k => by rw [e k]; grind
      · intro i h hij
        rw [e]
        by_cases g : i = j
        · subst g
          rw [o1]
          grind
        · have := rf.off i h j (by omega)
          rw [row_vs B j hjB] at this
          rw [this, hz i h (by omega)]
          grind
    walk_at "wp"
    refine ⟨_, _, lead_eq (by rw [hBj.len]; exact hn) (by rw [hBj.len]; exact hlj) hne hlow, ?_⟩
    refine w_lif (ix_ints hly) ?_
    walk_at "wp"
    refine w_lif rfl ?_
    refine w_by (fun h => ?_) fun h => ?_
    · walk_at "wp"
      refine ⟨_, _, less_eq (r := y) (s := B[j]) p0 rfl rfl (by rw [hy.len]; exact hn) (sm_of plt q0 q1), ?_⟩
      walk_at "wp"
      have hrw : Rw p n (lss p y B[j] y[l[j]]) := ⟨by rw [lss_length, hy.len, hBj.len]; omega, res_lss pp⟩
      obtain ⟨h1, h2⟩ := hstep _ hrw fun k => by
        rw [vc_lss pr.pos (by rw [hy.len, hBj.len]), vc_at hly]
      exact ⟨rfl, lss p y B[j] y[l[j]], .fz (rowT B[j]), .fz (.int y[l[j]]), rfl, rfl, rfl, hrw, h1, h2⟩
    · walk_at "wp"
      have e0 : y[l[j]] = 0 := by simpa using h
      obtain ⟨h1, h2⟩ := hstep y hy fun k => by
        rw [vc_at hly, e0, cz_zero]
        grind
      exact ⟨rfl, y, .fz (rowT B[j]), .fz (.int y[l[j]]), rfl, rfl, rfl, hy, h1, h2⟩
  · rintro δ ⟨y, c4, c5, rfl, _, _, hy, hs, hz⟩
    walk_at "wp"
    refine w_lif rfl ?_
    exact ⟨y, ⟨rfl, rfl⟩, hy, hs, fun i h => hz i h (by simp; omega)⟩
end
end K03
end

section
set_option linter.all false
set_option maxRecDepth 100000
set_option maxHeartbeats 1000000
namespace K03
open PySem PD LA
section
variable {p : Nat} [NeZero p] [Fd (Fin p)]
theorem vc_lin (hp : 0 < p) {l m : List Int} (h : l.length = m.length) (f : Int) (k : Nat) : vc (F := Fin p) (lin p l m f) k = vc l k + cz f * vc m k := by
  by_cases hk : k < l.length
  · rw [vc_at (by rw [lin_length]; omega), vc_at hk, vc_at (by omega)]
    unfold lin
    rw [List.getElem_zipWith, cz_fmod (p := p) hp, cz_add, cz_mul]
  · rw [vc_out (by rw [lin_length]; omega), vc_out (by omega), vc_out (by omega)]
    grind
theorem vc_comb (hp : 0 < p) {n : Nat} : ∀ {rows : List (List Int)} {fs line : List Int}, Mt p n rows → line.length = n → fs.length = rows.length → ∀ k, vc (F := Fin p) (comb p line rows fs) k = vc line k + lc (vc fs) (vs p rows) k
  | [], fs, line, _, _, _, k => by
    rw [show comb p line [] fs = line by simp [comb]]
    show vc (F := Fin p) line k = vc line k + 0
    grind
  | r :: rows, [], line, _, _, h, k => by simp at h
  | r :: rows, f :: fs, line, mt, hl, h, k => by
    have hr := mt r (List.mem_cons_self ..)
    have ih := vc_comb (n := n) hp (rows := rows) (fs := fs) (line := lin p line r f) (fun r h => mt r (List.mem_cons_of_mem _ h)) (by rw [lin_length, hr.len]; omega) (by simpa using h) k
    show vc (F := Fin p) (comb p (lin p line r f) rows fs) k = vc line k + (vc (f :: fs) 0 * vc r k + lc (fun i => vc (f :: fs) (i + 1)) (vs p rows) k)
    rw [ih, vc_lin hp (by rw [hl, hr.len])]
    have e : (fun i => vc (F := Fin p) (f :: fs) (i + 1)) = vc fs := by funext i; unfold vc; rw [List.getD_cons_succ]
    have e0 : vc (F := Fin p) (f :: fs) 0 = cz f := rfl
    rw [e, e0]
    grind
theorem vc_zeros (n k : Nat) : vc (F := Fin p) (List.replicate n 0) k = 0 := by
  by_cases h : k < n
  · rw [vc_at (by simpa using h), List.getElem_replicate]; exact cz_zero
  · rw [vc_out (by simp; omega)]
theorem row_by_vc (pr : Pr p) {a b : PyData} {ds : List PyData} {n : Nat} {rows : List (List Int)} {fs : List Int} (ha : seqD a = some ds) (hr : Rows ds rows) (mt : Mt p n rows) (hb : seqD b = some (fs.map .int)) (hf : Res p fs) (hl : fs.length = rows.length) (hn : n ≤ 1000) :
    ∃ y : List Int, g_row_by [.fz (.int p), .fz a, .fz b, .fz (.int n)] = some (.ok (rowT y), [.fz (.int p), .fz a, .fz b, .fz (.int n)]) ∧ Rw p n y ∧ ∀ k, vc (F := Fin p) y k = lc (vc fs) (vs p rows) k := by
  have pp : 0 < (p : Int) := by have := pr.pos; omega
  obtain ⟨c1, c2, c3⟩ := comb_ok (p := p) (n := n) (rows := rows) (fs := fs) (line := List.replicate n 0) pp (fun r h => (mt r h).len) (by simp) (res_zero pp n)
  refine ⟨comb p (List.replicate n 0) rows fs, ?_, ⟨c2, c3⟩, fun k => ?_⟩
  · have := row_by_eq (p := p) (a := a) (b := b) (n := n) (by omega) ha hr hb (res_small (by have := pr.lt; omega) hf) hn
    rw [c1] at this
    exact this
  · rw [vc_comb pr.pos mt (by simp) hl, vc_zeros]
    grind
theorem dot_cons : ∀ (w : Nat) (x y : Vc (Fin p)), dot (w + 1) x y = x 0 * y 0 + dot w (fun i => x (i + 1)) (fun i => y (i + 1))
  | 0, x, y => by show (0 : Fin p) + x 0 * y 0 = x 0 * y 0 + 0; grind
  | w + 1, x, y => by
    have := dot_cons w x y
    show dot (w + 1) x y + x (w + 1) * y (w + 1) = x 0 * y 0 + (dot w (fun i => x (i + 1)) (fun i => y (i + 1)) + x (w + 1) * y (w + 1))
    rw [this]; grind
theorem cz_dot : ∀ {l m : List Int}, l.length = m.length → cz (F := Fin p) (List.zipWith (· * ·) l m).sum = dot l.length (vc l) (vc m)
  | [], m, h => cz_zero
  | x :: l, [], h => by simp at h
  | x :: l, y :: m, h => by
    have ih := cz_dot (l := l) (m := m) (by simpa using h)
    show cz (F := Fin p) (x * y + (List.zipWith (· * ·) l m).sum) = dot (l.length + 1) _ _
    rw [dot_cons, cz_add, cz_mul, ih]
    rfl
theorem rw_eq {n : Nat} {x y : List Int} (hx : Rw p n x) (hy : Rw p n y) (h : ∀ k, vc (F := Fin p) x k = vc y k) : x = y :=
  vc_inj (F := Fin p) (p := p) (by rw [hx.len, hy.len]) hx.res hy.res (funext h)
theorem vs_inj {n : Nat} {A B : List (List Int)} (ha : Mt p n A) (hb : Mt p n B) (h : vs p A = vs p B) : A = B := by
  have hl : A.length = B.length := by have := congrArg List.length h; simpa using this
  refine List.ext_getElem hl fun i h1 h2 => ?_
  refine rw_eq (ha _ (List.getElem_mem h1)) (hb _ (List.getElem_mem h2)) fun k => ?_
  rw [← row_vs A i h1, ← row_vs B i h2, h]
theorem rest_zero {n : Nat} {x y : List Int} {rows B : List (List Int)} {l : List Nat} (bs : Bs p n rows B l) (hs : Sp (vs p rows) fun k => vc x k - vc y k) (hz : ∀ i (h : i < l.length), vc (F := Fin p) y l[i] = 0) : (∀ k, vc (F := Fin p) y k = 0) ↔ Sp (vs p rows) (vc x) := by
  constructor
  · intro h
    exact hs.congr fun k => by rw [h k]; grind
  · intro h k
    have : Sp (vs p B) (vc y) := (bs.sp _).mpr ((h.sub hs).congr fun k => by grind)
    exact bs.rf.zero this hz k
theorem any_ints (y : List Int) : any2D [rowT y] = some (.bool (y.any fun v => v != 0)) := by
  have h : ((y.map PyData.int).all simpleD) = true := by
    rw [List.all_eq_true]
    intro d hd
    obtain ⟨v, _, rfl⟩ := List.mem_map.mp hd
    rfl
  unfold any2D
  dsimp only
  rw [if_pos h, List.any_map]
  rfl
theorem any_zero {n : Nat} {y : List Int} (hy : Rw p n y) : (y.any fun v => v != 0) = false ↔ ∀ k, vc (F := Fin p) y k = 0 := by
  rw [List.any_eq_false]
  constructor
  · intro h k
    by_cases hk : k < y.length
    · rw [vc_at hk]
      have := h _ (List.getElem_mem hk)
      have : y[k] = 0 := by simpa using this
      rw [this]; exact cz_zero
    · exact vc_out (by omega)
  · intro h v hv
    obtain ⟨k, hk, rfl⟩ := List.getElem_of_mem hv
    have := h k
    rw [vc_at hk] at this
    obtain ⟨q0, q1⟩ := hy.res _ (List.getElem_mem hk)
    have := (cz_ne q0 q1).mp this
    simpa using this
end
end K03
end

section
set_option linter.all false
set_option maxRecDepth 100000
set_option maxHeartbeats 1000000
namespace K03
open PySem PD LA
def unit (m j : Nat) : List Int := (List.range m).map fun i => if j = i then 1 else 0
def wide (rows : List (List Int)) : List (List Int) := (List.range rows.length).map fun j => rows.getD j [] ++ unit rows.length j
theorem unit_length {m j : Nat} : (unit m j).length = m := by simp [unit]
theorem wide_length {rows : List (List Int)} : (wide rows).length = rows.length := by simp [wide]
theorem wide_get {rows : List (List Int)} {j : Nat} (h : j < rows.length) : (wide rows)[j]'(by rw [wide_length]; exact h) = rows[j] ++ unit rows.length j := by
  unfold wide
  rw [List.getElem_map, List.getElem_range, getD_at h]
section
variable {p : Nat} [NeZero p] [Fd (Fin p)]
theorem wide_mt {n : Nat} {rows : List (List Int)} (pr : Pr p) (h2 : 1 < p) (mt : Mt p n rows) : Mt p (n + rows.length) (wide rows) := fun r hr => by
  obtain ⟨j, hj, rfl⟩ := List.getElem_of_mem hr
  rw [wide_length] at hj
  rw [wide_get hj]
  have := mt _ (List.getElem_mem hj)
  refine ⟨by rw [List.length_append, this.len, unit_length], fun x hx => ?_⟩
  rcases List.mem_append.mp hx with hx | hx
  · exact this.res x hx
  · obtain ⟨i, _, rfl⟩ := List.mem_map.mp hx
    split <;> omega
theorem aug_row (w : Nat) : ∀ (V : List (Vc (Fin p))) (s j : Nat), j < V.length → ∀ k, row (aug w s V) j k = if k < w then row V j k else dl (w + s + j) k
  | v :: V, s, 0, _, k => rfl
  | v :: V, s, j + 1, h, k => by
    have := aug_row w V (s + 1) j (by simpa using h) k
    show row (aug w (s + 1) V) j k = if k < w then row V j k else dl (w + s + (j + 1)) k
    rw [this, show w + (s + 1) + j = w + s + (j + 1) by omega]
theorem vc_append {a b : List Int} (k : Nat) : vc (F := Fin p) (a ++ b) k = if k < a.length then vc a k else vc b (k - a.length) := by
  unfold vc
  rw [List.getD_eq_getElem?_getD, List.getElem?_append]
  split
  · rw [List.getD_eq_getElem?_getD]
  · rw [List.getD_eq_getElem?_getD]
theorem vc_unit {m j : Nat} (hj : j < m) (k : Nat) : vc (F := Fin p) (unit m j) k = dl j k := by
  by_cases h : k < m
  · rw [vc_at (by rw [unit_length]; exact h)]
    unfold unit dl
    rw [List.getElem_map, List.getElem_range]
    by_cases e : j = k
    · rw [if_pos e, if_pos e.symm]; exact cz_one
    · rw [if_neg e, if_neg (Ne.symm e)]; exact cz_zero
  · rw [vc_out (by rw [unit_length]; omega)]
    unfold dl
    rw [if_neg (by omega)]
theorem wide_vs {n : Nat} {rows : List (List Int)} (mt : Mt p n rows) : vs p (wide rows) = aug n 0 (vs p rows) := by
  refine List.ext_getElem (by rw [aug_length]; simp [wide_length]) fun j h1 h2 => ?_
  have hj : j < rows.length := by rw [aug_length] at h2; simpa using h2
  rw [← row_at h2]
  funext k
  rw [aug_row n (vs p rows) 0 j (by simpa using hj), row_vs rows j hj]
  have hl := (mt _ (List.getElem_mem hj)).len
  have e : (vs p (wide rows))[j] = vc (rows[j] ++ unit rows.length j) := by
    rw [List.getElem_map, wide_get hj]
  rw [e, vc_append, hl]
  split
  · rfl
  · rw [vc_unit hj]
    unfold dl
    by_cases g : k = n + j
    · rw [if_pos (by omega), if_pos (by omega)]
    · rw [if_neg (by omega), if_neg (by omega)]
theorem o_catL {a b : List PyData} (h : a.length + b.length ≤ 1000000) : catL (.list a) (.list b) = some (a ++ b) := o_cat h
end
end K03
end

section
set_option linter.all false
set_option maxRecDepth 100000
set_option maxHeartbeats 1000000
namespace K03
open PySem PD LA
section
variable {p : Nat} [NeZero p] [Fd (Fin p)]
theorem Mt.take {n k : Nat} {E : List (List Int)} (h : Mt p n E) : Mt p n (E.take k) := fun r hr => h r (List.mem_of_mem_take hr)
theorem Mt.drop {n k : Nat} {E : List (List Int)} (h : Mt p n E) : Mt p n (E.drop k) := fun r hr => h r (List.mem_of_mem_drop hr)
theorem mt_head {w m : Nat} {E : List (List Int)} (h : Mt p (w + m) E) : Mt p w (E.map (List.take w)) := fun r hr => by
  obtain ⟨x, hx, rfl⟩ := List.mem_map.mp hr
  have := h x hx
  exact ⟨by rw [List.length_take, this.len]; omega, fun y hy => this.res y (List.mem_of_mem_take hy)⟩
theorem mt_tail {w m : Nat} {E : List (List Int)} (h : Mt p (w + m) E) : Mt p m (E.map (List.drop w)) := fun r hr => by
  obtain ⟨x, hx, rfl⟩ := List.mem_map.mp hr
  have := h x hx
  exact ⟨by rw [List.length_drop, this.len]; omega, fun y hy => this.res y (List.mem_of_mem_drop hy)⟩
theorem vc_drop (w : Nat) (r : List Int) : vc (F := Fin p) (r.drop w) = tr w (vc r) := by
  funext k
  show cz ((r.drop w).getD k 0) = cz (r.getD (w + k) 0)
  rw [List.getD_eq_getElem?_getD, List.getD_eq_getElem?_getD, List.getElem?_drop]
theorem vc_take (w : Nat) (r : List Int) : vc (F := Fin p) (r.take w) = res w (vc r) := by
  funext k
  unfold res vc
  rw [List.getD_eq_getElem?_getD, List.getD_eq_getElem?_getD, List.getElem?_take]
  split
  · rfl
  · exact cz_zero
theorem vs_tail (w : Nat) (E : List (List Int)) : vs p (E.map (List.drop w)) = (vs p E).map (tr w) := by
  unfold vs
  rw [List.map_map, List.map_map]
  exact List.map_congr_left fun r _ => vc_drop w r
theorem vs_head (w : Nat) (E : List (List Int)) : vs p (E.map (List.take w)) = (vs p E).map (res w) := by
  unfold vs
  rw [List.map_map, List.map_map]
  exact List.map_congr_left fun r _ => vc_take w r
theorem nl_w {n : Nat} {rows : List (List Int)} (x : Vc (Fin p)) : Nl (if rows = [] then 0 else n) (vs p rows) x ↔ Nl n (vs p rows) x := by
  by_cases e : rows = []
  · subst e
    rw [if_pos rfl]
    constructor
    · rintro ⟨_, h⟩; exact ⟨fun k _ => rfl, h⟩
    · rintro ⟨_, h⟩; exact ⟨fun k _ => rfl, h⟩
  · rw [if_neg e]
/-! columns -/
def colsI (w : Nat) (rows : List (List Int)) : List (List Int) := (List.range w).map fun k => rows.map fun r => r.getD k 0
theorem colsI_length {w : Nat} {rows : List (List Int)} : (colsI w rows).length = w := by simp [colsI]
theorem colsI_mt {w : Nat} {rows : List (List Int)} (pp : 0 < p) (mt : Mt p w rows) : Mt p rows.length (colsI w rows) := fun r hr => by
  obtain ⟨k, hk, rfl⟩ := List.mem_map.mp hr
  have hk := List.mem_range.mp hk
  refine ⟨by simp, fun x hx => ?_⟩
  obtain ⟨r, hr, rfl⟩ := List.mem_map.mp hx
  rw [getD_at (by rw [(mt r hr).len]; exact hk)]
  exact (mt r hr).res _ (List.getElem_mem _)
theorem colsI_vs {w : Nat} {rows : List (List Int)} : vs p (colsI w rows) = cols w (vs p rows) := by
  unfold vs colsI cols
  rw [List.map_map]
  refine List.map_congr_left fun k _ => ?_
  funext j
  show vc (rows.map fun r => r.getD k 0) j = row (rows.map vc) j k
  by_cases hj : j < rows.length
  · rw [vc_at (by simpa using hj), List.getElem_map]
    have := row_vs (p := p) rows j hj
    unfold vs at this
    rw [this]
    rfl
  · rw [vc_out (by simp; omega), row_out (by simp; omega)]
/-! a row as a tuple -/
theorem eqv_ints : ∀ (x y : List Int), PyData.eqvAll (x.map .int) (y.map .int) = decide (x = y)
  | [], [] => by simp [PyData.eqvAll]
  | [], y :: ys => by simp [PyData.eqvAll]
  | x :: xs, [] => by simp [PyData.eqvAll]
  | x :: xs, y :: ys => by
    have := eqv_ints xs ys
    simp [PyData.eqvAll, PyData.eqv, this]
    by_cases h : x = y <;> simp [h]
theorem ne_rows (x y : List Int) : neD (rowT x) (rowT y) = some (.bool (decide (x ≠ y))) := by
  unfold neD
  rw [if_pos ⟨(flat_row (r := x)).shaped (by omega), (flat_row (r := y)).shaped (by omega)⟩]
  simp [rowT, PyData.eqv, eqv_ints]
theorem eq_rows (x y : List Int) : eqD (rowT x) (rowT y) = some (.bool (decide (x = y))) := by
  unfold eqD
  rw [if_pos ⟨(flat_row (r := x)).shaped (by omega), (flat_row (r := y)).shaped (by omega)⟩]
  simp [rowT, PyData.eqv, eqv_ints]
end
end K03
end

section
set_option linter.all false
set_option maxRecDepth 100000
set_option maxHeartbeats 1000000
namespace K03
open PySem PD LA
section
variable {p : Nat} [NeZero p] [Fd (Fin p)]
inductive FF (p : Nat) [NeZero p] [Fd (Fin p)] (n : Nat) (rows : List (List Int)) (x : List Int) : PyData → Prop
  | no : ¬ Sp (vs p rows) (vc x) → FF p n rows x .none
  | yes {t : List Int} {B : List (List Int)} {l : List Nat} : Rw p rows.length t → (∀ k, lc (vc t) (vs p rows) k = vc x k) → Mt p rows.length B → Rf (vs p B) l → (∀ z, Sp (vs p B) z ↔ Nl n (vs p rows) z) → (∀ i (h : i < l.length), vc (F := Fin p) t l[i] = 0) → FF p n rows x (rowT t)
def pickI (x : List Int) (l : List Nat) : List Int := l.map fun k => x.getD k 0
theorem pick_res {n : Nat} {x : List Int} {l : List Nat} (hx : Rw p n x) (h : ∀ k ∈ l, k < n) : Res p (pickI x l) := fun v hv => by
  obtain ⟨k, hk, rfl⟩ := List.mem_map.mp hv
  rw [getD_at (by rw [hx.len]; exact h k hk)]
  exact hx.res _ (List.getElem_mem _)
theorem pick_vc {x : List Int} {l : List Nat} (i : Nat) (h : i < l.length) : vc (F := Fin p) (pickI x l) i = vc x (l.getD i 0) := by
  rw [vc_at (by simpa [pickI] using h), getD_at h]
  unfold pickI
  rw [List.getElem_map]
  rfl
theorem sp_nil {x : Vc (Fin p)} : Sp (vs p []) x ↔ ∀ k, x k = 0 := by
  constructor
  · intro h k
    exact h.ind (fun x => x k = 0) rfl fun x c v _ hv => by cases hv
  · intro h
    exact Sp.zero.congr fun k => (h k).symm
theorem rf_nil : Rf (vs p []) [] where
  len := rfl
  one := fun i h => by cases h
  off := fun i h => by cases h
  low := fun i h => by cases h
  asc := .nil
inductive RF (p : Nat) [NeZero p] [Fd (Fin p)] (n : Nat) (rows : List (List Int)) (g : List Int) : PyData → Prop
  | no : (∀ y, Nl n (vs p rows) y → dot rows.length y (vc g) = 0) → RF p n rows g .none
  | yes {t : List Int} {B : List (List Int)} {l : List Nat} : Rw p rows.length t → Nl n (vs p rows) (vc t) → dot rows.length (vc t) (vc g) = (1 : Fin p) → Mt p rows.length B → Rf (vs p B) l → (∀ z, Nl n (vs p rows) z → dot rows.length z (vc g) = 0 → Sp (vs p B) z) → (∀ i (h : i < l.length), vc (F := Fin p) t l[i] = 0) → RF p n rows g (rowT t)
theorem dot_sub (w : Nat) (x v y : Vc (Fin p)) (c : Fin p) : dot w (fun k => x k - c * v k) y = dot w x y - c * dot w v y := by
  have := dot_add w x y v (-c)
  rw [show (fun k => x k - c * v k) = fun k => x k + -c * v k from by funext k; grind, this]
  grind
theorem dot_sp {w : Nat} {A : List (Vc (Fin p))} {g x : Vc (Fin p)} (h : ∀ v ∈ A, dot w v g = 0) (hx : Sp A x) : dot w x g = 0 :=
  hx.ind (fun x => dot w x g = 0) (dot_zero w g) fun x c v h1 hv => by
    show dot w (fun k => x k + c * v k) g = 0
    have h1 : dot w x g = 0 := h1
    rw [dot_add, h1, h v hv]; grind
end
end K03
end

section
set_option linter.all false
set_option maxRecDepth 100000
set_option maxHeartbeats 1000000
namespace LA
open Lean.Grind
variable {F : Type} [CommRing F] [Fd F] {A B V N : List (Vc F)} {l m : List Nat} {w r s : Nat}
def Rk (V : List (Vc F)) (r : Nat) : Prop := ∃ B l, Rf B l ∧ (∀ x, Sp B x ↔ Sp V x) ∧ B.length = r
theorem Rk.uniq {V' : List (Vc F)} (h : Rk V r) (h' : Rk V' s) (e : ∀ x, Sp V x ↔ Sp V' x) : r = s := by
  obtain ⟨B, l, h1, h2, rfl⟩ := h
  obtain ⟨C, m, g1, g2, rfl⟩ := h'
  rw [(h1.uniq g1 fun x => by rw [h2, g2, e]).1]
theorem Rf.rk (h : Rf B l) (e : ∀ x, Sp B x ↔ Sp V x) : Rk V B.length := ⟨B, l, h, e, rfl⟩
theorem El.rk {E : List (Vc F)} (h : El w V E l) (hw : Wd w V) : Rk V l.length := ⟨bs E l, l, h.rf, h.bsp hw, h.blen⟩
theorem Rk.ex (hw : Wd w V) : ∃ r, Rk V r := by
  obtain ⟨E, l, h⟩ := El.ex w V
  exact ⟨_, h.rk hw⟩
theorem Rk.full (hw : Wd w V) (hi : Ind V) : Rk V V.length := by
  obtain ⟨E, l, h⟩ := El.ex w V
  rw [← h.full hw hi]
  exact h.rk hw
theorem Rk.null (hw : Wd w V) (hN : ∀ x, Sp N x ↔ Nl w V x) (hwN : Wd V.length N) (h0 : Rk V r) (h1 : Rk N s) : s + r = V.length := by
  obtain ⟨E, l, e⟩ := El.ex w V
  obtain ⟨E1, l1, e1⟩ := El.ex V.length N
  have := null_rank e hw hN e1 hwN
  rw [← (e.rk hw).uniq h0 fun _ => Iff.rfl, ← (e1.rk hwN).uniq h1 fun _ => Iff.rfl]
  exact this
theorem Rk.perp (hw : Wd w V) (hN : ∀ x, Sp N x ↔ Sq w V x) (h0 : Rk V r) (h1 : Rk N s) : s + r = w := by
  have hwN : Wd w N := fun v hv => ((hN v).mp (.mem hv)).2
  obtain ⟨E, l, e⟩ := El.ex w V
  obtain ⟨E1, l1, e1⟩ := El.ex w N
  have := perp_rank e hw hN e1
  rw [← (e.rk hw).uniq h0 fun _ => Iff.rfl, ← (e1.rk hwN).uniq h1 fun _ => Iff.rfl]
  exact this
theorem sp_append (x : Vc F) : Sp (A ++ B) x → ∃ y z, Sp A y ∧ Sp B z ∧ ∀ k, x k = y k + z k := fun h =>
  h.ind (fun x => ∃ y z, Sp A y ∧ Sp B z ∧ ∀ k, x k = y k + z k) ⟨_, _, .zero, .zero, fun k => by grind⟩ fun x c v ⟨y, z, h1, h2, h3⟩ hv => by
    rcases List.mem_append.mp hv with hv | hv
    · exact ⟨_, z, .add c h1 hv, h2, fun k => by have := h3 k; grind⟩
    · exact ⟨y, _, h1, .add c h2 hv, fun k => by have := h3 k; grind⟩
theorem sp_append_congr {A' B' : List (Vc F)} (h1 : ∀ x, Sp A x ↔ Sp A' x) (h2 : ∀ x, Sp B x ↔ Sp B' x) (x : Vc F) : Sp (A ++ B) x ↔ Sp (A' ++ B') x := by
  constructor
  · refine Sp.mono fun v hv => ?_
    rcases List.mem_append.mp hv with hv | hv
    · exact Sp.mono (fun u hu => .mem (List.mem_append_left _ hu)) ((h1 v).mp (.mem hv))
    · exact Sp.mono (fun u hu => .mem (List.mem_append_right _ hu)) ((h2 v).mp (.mem hv))
  · refine Sp.mono fun v hv => ?_
    rcases List.mem_append.mp hv with hv | hv
    · exact Sp.mono (fun u hu => .mem (List.mem_append_left _ hu)) ((h1 v).mpr (.mem hv))
    · exact Sp.mono (fun u hu => .mem (List.mem_append_right _ hu)) ((h2 v).mpr (.mem hv))
theorem lc_lin : Lin (F := F) (fun z => lc z A) := ⟨funext fun k => lc_zero A k, fun x v c k => by
  have := lc_add A x v c k
  show lc (fun k => c * v k + x k) A k = c * lc v A k + lc x A k
  rw [show (fun k => c * v k + x k) = fun k => x k + c * v k from by funext k; grind, this]
  grind⟩
theorem meet_free {J : List (Vc F)} (hA : Ind A) (hB : Ind B) (hwA : Wd w A) (hwB : Wd w B) (hJ : Ind J) (hN : ∀ x, Sp J x → Nl w (A ++ B) x) : Ind (J.map fun z => lc z A) := by
  intro t ht j hj
  refine hJ t (fun k => ?_) j (by simpa using hj)
  have hz := hN _ (lc_sp J t)
  have h1 : ∀ k, lc (lc t J) A k = 0 := fun k => by
    have := ht k
    rw [lc_lin.lc] at this
    exact this
  have z1 := hA _ h1
  have h2 : ∀ k, lc (fun i => lc t J (i + A.length)) B k = 0 := fun k => by
    by_cases hk : k < w
    · have := hz.1 k hk
      rw [lc_append, h1] at this
      grind
    · exact hwB.sp (lc_sp _ _) k (by omega)
  have z2 := hB _ h2
  by_cases g : k < A.length
  · exact z1 k g
  · by_cases g2 : k < A.length + B.length
    · have := z2 (k - A.length) (by omega)
      rw [show k - A.length + A.length = k by omega] at this
      exact this
    · exact hz.2 k (by simp; omega)
theorem meet_in {z : Vc F} (hwA : Wd w A) (hwB : Wd w B) (hz : Nl w (A ++ B) z) : Sp A (lc z A) ∧ Sp B (lc z A) := by
  refine ⟨lc_sp _ _, ((lc_sp B fun i => z (i + A.length)).smul (-1)).congr fun k => ?_⟩
  by_cases hk : k < w
  · have := hz.1 k hk
    rw [lc_append] at this
    grind
  · rw [hwA.sp (lc_sp _ _) k (by omega), hwB.sp (lc_sp _ _) k (by omega)]
    grind
end LA
namespace K03
open PySem PD LA
section
variable {p : Nat} [NeZero p] [Fd (Fin p)]
theorem Bs.rk {n : Nat} {rows B : List (List Int)} {l : List Nat} (h : Bs p n rows B l) : Rk (vs p rows) B.length := by
  have := h.rf.rk h.sp
  simpa using this
theorem vs_append (A B : List (List Int)) : vs p (A ++ B) = vs p A ++ vs p B := by simp [vs]
theorem mt_append {n : Nat} {A B : List (List Int)} (ha : Mt p n A) (hb : Mt p n B) : Mt p n (A ++ B) := fun r hr => by
  rcases List.mem_append.mp hr with h | h
  · exact ha r h
  · exact hb r h
theorem o_addT {xs ys : List PyData} (h : xs.length + ys.length ≤ 1000000) : addD (.tuple xs) (.tuple ys) = some (.tuple (xs ++ ys)) := by
  show (match catT (.tuple xs) (.tuple ys) with | some c => some c | none => _) = _
  unfold catT
  dsimp only
  rw [if_pos (Nat.le_trans h (by rw [sizeLine_eq]; decide))]
end
end K03
end

section
set_option Elab.async false
set_option linter.all false
set_option maxRecDepth 100000
set_option maxHeartbeats 2000000
namespace K03
open PySem PD
def tups (p : Nat) : Nat → List (List Int)
  | 0 => [[]]
  | n + 1 => (tups p n).flatMap fun t => (List.range p).map fun k : Nat => t ++ [(k : Int)]
def tup1 (p : Nat) (t : List Int) : List (List Int) := (List.range p).map fun k : Nat => t ++ [(k : Int)]
theorem tups_length (p : Nat) : ∀ n, (tups p n).length = p ^ n
  | 0 => rfl
  | n + 1 => by
    have h : ∀ l : List (List Int), (l.flatMap fun t => (List.range p).map fun k : Nat => t ++ [(k : Int)]).length = l.length * p := by
      intro l
      induction l with
      | nil => simp
      | cons a l ih => rw [List.flatMap_cons, List.length_append, ih, List.length_map, List.length_range, List.length_cons, Nat.succ_mul]; omega
    rw [tups, h, tups_length p n, Nat.pow_succ]
theorem add_row {t : List Int} {k : Int} (ht : t.length ≤ 1000) : addD (rowT t) (.tuple [.int k]) = some (rowT (t ++ [k])) := by
  have e : catT (rowT t) (.tuple [.int k]) = some (rowT (t ++ [k])) := by
    unfold rowT catT
    simp only
    rw [if_pos (by rw [List.length_map, sizeLine_eq]; simp; omega), List.map_append]
    rfl
  have e0 : addI (rowT t) (.tuple [.int k]) = none := rfl
  unfold addD
  simp only [e0, e]
theorem catL_le {xs ys : List PyData} (h : xs.length + ys.length ≤ 1000000) : catL (.list xs) (.list ys) = some (xs ++ ys) := by
  unfold catL
  simp only
  rw [if_pos (by rw [sizeLine_eq]; omega)]
theorem tup1_data {p : Nat} {t : List Int} : ((rangeL 0 (p : Int).toNat).map fun d => match d with | .int k => rowT (t ++ [k]) | _ => .none) = (tup1 p t).map rowT := by
  unfold rangeL tup1
  rw [List.map_map, List.map_map]
  refine List.map_congr_left fun k _ => ?_
  simp
theorem tup_inner {p : Nat} {c a x3 : PyData} (hp : p ≤ 1000) (t : List Int) (ht : t.length ≤ 1000) (acc : List PyData) (hl : acc.length + p ≤ 1000000) :
    Gd (sAsg (bnd (xBinF catL (xVar 4) (bnd (xComp (xCallF' range1D (bnd (xVar 0) fun d => bnd (PD.ret []) fun ds => PD.ret (d :: ds))) [6] (sName 6) (PD.ret true) (xBin addD (xVar 5) (xTup (bnd (xVar 6) fun d => bnd (PD.ret []) fun ds => PD.ret (d :: ds))))) fun ds => PD.ret (.list ds))) fun ds => PD.ret (.list ds)) (sName 4))
      [.fz (.int p), .fz c, .fz a, .fz x3, .fz (.list acc), .fz (rowT t), .un] fun fl δ2 => fl = .nx ∧ δ2 = [.fz (.int p), .fz c, .fz a, .fz x3, .fz (.list (acc ++ (tup1 p t).map rowT)), .fz (rowT t), .un] := by
  walk_at "wp"
  refine w_lif (range_take (by omega) (by omega)) ?_
  have q := comp_fun (is := [6]) (set := sName 6) (el := xBin addD (xVar 5) (xTup (bnd (xVar 6) fun d => bnd (PD.ret []) fun ds => PD.ret (d :: ds)))) (ds := rangeL 0 (p : Int).toNat) (δ := [.fz (.int p), .fz c, .fz a, .fz x3, .fz (.list acc), .fz (rowT t), .un])
    (fun d => match d with | .int k => rowT (t ++ [k]) | _ => .none) (by rw [rangeL_length]; omega) fun d hd => by
      obtain ⟨k, hk, rfl⟩ : ∃ k : Nat, k < p ∧ d = .int (k : Int) := by
        unfold rangeL at hd
        obtain ⟨i, hi, rfl⟩ := List.mem_map.mp hd
        have := List.mem_range.mp hi
        exact ⟨i, by simpa using this, by simp⟩
      walk_at "wp"
      refine w_lif (add_row ht) ?_
      exact ⟨rfl, rfl, rfl⟩
  refine ⟨rfl, _, _, q, ?_⟩
  walk_at "wp"
  rw [tup1_data]
  refine w_lif (catL_le (by rw [List.length_map]; unfold tup1; rw [List.length_map, List.length_range]; exact hl)) ?_
  walk_at "wp"
  exact ⟨_, rfl, rfl, rfl⟩
def TI (p : Nat) (c : PyData) (a x3 : PyData) (L : List (List Int)) (j : Nat) (δ : Sg) : Prop := ∃ y5 : Cell, y5.free = true ∧ δ = [.fz (.int p), .fz c, .fz a, .fz x3, .fz (.list (((L.take j).flatMap (tup1 p)).map rowT)), y5, .un]
theorem flat_len (p : Nat) : ∀ l : List (List Int), (l.flatMap (tup1 p)).length = l.length * p
  | [] => by simp
  | a :: l => by
    rw [List.flatMap_cons, List.length_append, flat_len p l, List.length_cons, Nat.succ_mul]
    unfold tup1
    rw [List.length_map, List.length_range]
    omega
theorem take_flat {p : Nat} {L : List (List Int)} {j : Nat} {t : List Int} (h : L[j]? = some t) : (L.take (j + 1)).flatMap (tup1 p) = (L.take j).flatMap (tup1 p) ++ tup1 p t := by
  rw [List.take_succ, h]
  simp
theorem tup_step {p : Nat} {c x3 : PyData} {L : List (List Int)} (hp : p ≤ 1000) (hL : ∀ t ∈ L, t.length ≤ 1000) (hl : (L.length + 1) * p ≤ 1000000) (y4 y5 : Cell) (h4 : y4.free = true) (h5 : y5.free = true) :
    Gd (sSeq (sAsg (bnd (xLst (PD.ret [])) fun ds => PD.ret (.list ds)) (sName 4))
      (sSeq (sFor (xSeq (xVar 2)) (sName 5) (sAsg (bnd (xBinF catL (xVar 4) (bnd (xComp (xCallF' range1D (bnd (xVar 0) fun d => bnd (PD.ret []) fun ds => PD.ret (d :: ds))) [6] (sName 6) (PD.ret true) (xBin addD (xVar 5) (xTup (bnd (xVar 6) fun d => bnd (PD.ret []) fun ds => PD.ret (d :: ds))))) fun ds => PD.ret (.list ds))) fun ds => PD.ret (.list ds)) (sName 4)))
      (sAsg (xVar 4) (sName 2))))
      [.fz (.int p), .fz c, .fz (.list (L.map rowT)), .fz x3, y4, y5, .un] fun fl δ2 => fl = .nx ∧ ∃ z5 : Cell, z5.free = true ∧ δ2 = [.fz (.int p), .fz c, .fz (.list ((L.flatMap (tup1 p)).map rowT)), .fz x3, .fz (.list ((L.flatMap (tup1 p)).map rowT)), z5, .un] := by
  walk_at "wp"
  refine w_lif rfl ?_
  refine w_loop (TI p c (.list (L.map rowT)) x3 L) ⟨y5, h5, rfl⟩ (fun j d e δ hi => ?_) fun δ' hi => ?_
  · obtain ⟨y, hy, rfl⟩ := hi
    rw [List.getElem?_map] at e
    cases et : L[j]? with
    | none => rw [et] at e; cases e
    | some t =>
      rw [et] at e
      cases e
      have hj : j < L.length := (List.getElem?_eq_some_iff.mp et).1
      have q := tup_inner (c := c) (a := .list (L.map rowT)) (x3 := x3) hp t (hL t (List.mem_of_getElem? et)) (((L.take j).flatMap (tup1 p)).map rowT) (by
        rw [List.length_map, flat_len, List.length_take, Nat.min_eq_left (by omega)]
        have := Nat.mul_le_mul_right p (show j + 1 ≤ L.length + 1 by omega)
        rw [Nat.succ_mul] at this
        omega)
      refine ⟨[.fz (.int p), .fz c, .fz (.list (L.map rowT)), .fz x3, .fz (.list (((L.take j).flatMap (tup1 p)).map rowT)), .fz (rowT t), .un], ?_, ?_⟩
      · simp [sName, hy]
      · obtain ⟨fl, δ2, e1, rfl, rfl⟩ := q
        exact ⟨_, _, e1, rfl, .fz (rowT t), rfl, by rw [take_flat et, List.map_append]⟩
  · obtain ⟨y, hy, rfl⟩ := hi
    rw [List.length_map, List.take_length]
    walk_at "wp"
    exact ⟨rfl, y, hy, rfl⟩
theorem tups_mem {p : Nat} : ∀ {n : Nat} {t : List Int}, t ∈ tups p n → t.length = n
  | 0, t, h => by
    rw [tups, List.mem_singleton] at h
    rw [h]; rfl
  | n + 1, t, h => by
    rw [tups, List.mem_flatMap] at h
    obtain ⟨u, hu, h⟩ := h
    obtain ⟨k, _, rfl⟩ := List.mem_map.mp h
    rw [List.length_append, tups_mem hu]; rfl
theorem tuples_eq {p n : Nat} (hp : p ≤ 1000) (hn : n ≤ 1000) (hb : ∀ j, j < n → (p ^ j + 1) * p ≤ 1000000) :
    g__law_tuples [.fz (.int p), .fz (.int n)] = some (.ok (.list ((tups p n).map rowT)), [.fz (.int p), .fz (.int n)]) := by
  walk_at "w_run"
  unfold B__law_tuples
  walk_at "wp"
  refine w_lif (range_take (by omega) (by omega)) ?_
  refine w_loop (fun j δ => ∃ y3 y4 y5 : Cell, y3.free = true ∧ y4.free = true ∧ y5.free = true ∧ δ = [.fz (.int p), .fz (.int n), .fz (.list ((tups p j).map rowT)), y3, y4, y5, .un]) ⟨.un, .un, .un, rfl, rfl, rfl, rfl⟩ (fun j d e δ hi => ?_) fun δ' hi => ?_
  · obtain ⟨y3, y4, y5, h3, h4, h5, rfl⟩ := hi
    have hj : j < n := by
      obtain ⟨h, _⟩ := List.getElem?_eq_some_iff.mp e
      rw [rangeL_length] at h
      omega
    refine ⟨[.fz (.int p), .fz (.int n), .fz (.list ((tups p j).map rowT)), .fz d, y4, y5, .un], by simp [sName, h3], ?_⟩
    obtain ⟨fl, δ2, e1, rfl, z5, hz, rfl⟩ := tup_step (c := .int n) (x3 := d) (L := tups p j) hp (fun t ht => by rw [tups_mem ht]; omega) (by rw [tups_length]; exact hb j hj) y4 y5 h4 h5
    exact ⟨_, _, e1, rfl, .fz d, _, z5, rfl, rfl, hz, rfl⟩
  · rw [rangeL_length] at hi
    obtain ⟨y3, y4, y5, h3, h4, h5, rfl⟩ := hi
    walk_at "wp"
    exact ⟨rfl, rfl⟩
end K03
end

section
set_option Elab.async false
set_option linter.all false
set_option maxRecDepth 100000
set_option maxHeartbeats 2000000
namespace K03
open PySem PD LA
/-! ### the order of rows -/
def lexLt (a b : List Int) : Prop := ∃ k, (∀ i, i < k → a.getD i 0 = b.getD i 0) ∧ a.getD k 0 < b.getD k 0
theorem lex_asym {a b : List Int} (h : lexLt a b) (h' : lexLt b a) : False := by
  obtain ⟨k, h1, h2⟩ := h
  obtain ⟨m, g1, g2⟩ := h'
  rcases Nat.lt_trichotomy k m with q | q | q
  · have := g1 k q; omega
  · subst q; omega
  · have := h1 m q; omega
theorem getD_app1 {a : List Int} {x : Int} {i : Nat} (h : i < a.length) : (a ++ [x]).getD i 0 = a.getD i 0 := by
  rw [List.getD_eq_getElem?_getD, List.getD_eq_getElem?_getD, List.getElem?_append_left h]
theorem getD_app2 {a : List Int} {x : Int} : (a ++ [x]).getD a.length 0 = x := by
  rw [List.getD_eq_getElem?_getD, List.getElem?_append_right (Nat.le_refl _)]
  simp
theorem lex_app {a b : List Int} {x y : Int} (hl : a.length = b.length) (h : lexLt a b) : lexLt (a ++ [x]) (b ++ [y]) := by
  obtain ⟨k, h1, h2⟩ := h
  have hk : k < a.length := by
    refine Classical.byContradiction fun q => ?_
    rw [List.getD_eq_getElem?_getD, List.getElem?_eq_none (by omega), List.getD_eq_getElem?_getD, List.getElem?_eq_none (by omega)] at h2
    exact absurd h2 (by simp)
  refine ⟨k, fun i hi => ?_, ?_⟩
  · rw [getD_app1 (by omega), getD_app1 (by omega)]
    exact h1 i hi
  · rw [getD_app1 hk, getD_app1 (by omega)]
    exact h2
theorem tups_sorted (p : Nat) : ∀ n, (tups p n).Pairwise lexLt
  | 0 => by simp [tups]
  | n + 1 => by
    rw [tups, List.pairwise_flatMap]
    refine ⟨fun t ht => ?_, ?_⟩
    · refine List.Pairwise.map _ (fun i j (h : i < j) => ?_) List.pairwise_lt_range
      refine ⟨t.length, fun k hk => ?_, ?_⟩
      · rw [getD_app1 hk, getD_app1 hk]
      · rw [getD_app2, getD_app2]
        omega
    · refine List.Pairwise.imp_of_mem (R := lexLt) (fun {a b} ha hb h x hx y hy => ?_) (tups_sorted p n)
      obtain ⟨i, _, rfl⟩ := List.mem_map.mp hx
      obtain ⟨j, _, rfl⟩ := List.mem_map.mp hy
      exact lex_app (by rw [tups_mem ha, tups_mem hb]) h
theorem tups_res {p : Nat} : ∀ {n : Nat} {t : List Int}, t ∈ tups p n → Rw p n t
  | 0, t, h => by
    rw [tups, List.mem_singleton] at h
    subst h
    exact ⟨rfl, fun x hx => by cases hx⟩
  | n + 1, t, h => by
    refine ⟨tups_mem h, ?_⟩
    rw [tups, List.mem_flatMap] at h
    obtain ⟨u, hu, h⟩ := h
    obtain ⟨k, hk, rfl⟩ := List.mem_map.mp h
    have hk := List.mem_range.mp hk
    intro x hx
    rcases List.mem_append.mp hx with hx | hx
    · exact (tups_res hu).res x hx
    · rw [List.mem_singleton.mp hx]
      omega
theorem tups_all {p : Nat} : ∀ {n : Nat} {t : List Int}, Rw p n t → t ∈ tups p n
  | 0, t, h => by
    have := List.length_eq_zero_iff.mp h.len
    rw [this, tups]
    exact List.mem_singleton.mpr rfl
  | n + 1, t, h => by
    rcases List.eq_nil_or_concat t with e | ⟨u, x, e⟩
    · rw [e] at h
      exact absurd h.len (by simp)
    · rw [List.concat_eq_append] at e
      subst e
      have hl : u.length = n := by have := h.len; simp at this; exact this
      have hx := h.res x (by simp)
      rw [tups, List.mem_flatMap]
      refine ⟨u, tups_all ⟨hl, fun y hy => h.res y (by simp [hy])⟩, List.mem_map.mpr ⟨x.toNat, List.mem_range.mpr (by omega), ?_⟩⟩
      rw [Int.toNat_of_nonneg hx.1]
theorem tups_first {p n : Nat} {F : List Int → Bool} {y : List Int} (hy : Rw p n y) (hF : F y = true) (hm : ∀ z, Rw p n z → F z = true → z ≠ y → lexLt y z) : ∃ tl, (tups p n).filter F = y :: tl := by
  have hs : ((tups p n).filter F).Pairwise lexLt := (tups_sorted p n).sublist List.filter_sublist
  have hy' : y ∈ (tups p n).filter F := List.mem_filter.mpr ⟨tups_all hy, hF⟩
  cases e : (tups p n).filter F with
  | nil => rw [e] at hy'; cases hy'
  | cons h tl =>
    by_cases q : h = y
    · exact ⟨tl, by rw [q]⟩
    · rw [e] at hs hy'
      have hh : h ∈ (tups p n).filter F := by rw [e]; exact List.mem_cons_self ..
      obtain ⟨g1, g2⟩ := List.mem_filter.mp hh
      rcases List.mem_cons.mp hy' with r | r
      · exact absurd r.symm q
      · exact (lex_asym ((List.pairwise_cons.mp hs).1 y r) (hm h (tups_res g1) g2 q)).elim
theorem lex_ne {a b : List Int} (h : lexLt a b) : a ≠ b := fun e => lex_asym (e ▸ h) (e ▸ h)
theorem tups_nodup (p n : Nat) : (tups p n).Nodup := (tups_sorted p n).imp fun h => lex_ne h
theorem o_neI (x y : Int) : neD (.int x) (.int y) = some (.bool (decide (x ≠ y))) := by simp [neD, SeqAt.shaped, PyData.eqv, PyData.canLay0, PyData.depth]; rfl
/-! ### the law's lead -/
theorem first_or : ∀ r : List Int, (∀ x ∈ r, x = 0) ∨ ∃ m, ∃ h : m < r.length, r[m] ≠ 0 ∧ ∀ k (hk : k < m), r[k] = 0
  | [] => .inl fun x hx => by cases hx
  | x :: r => by
    by_cases h : x = 0
    · rcases first_or r with q | ⟨m, hm, h1, h2⟩
      · refine .inl fun y hy => ?_
        rcases List.mem_cons.mp hy with rfl | hy
        · exact h
        · exact q y hy
      · refine .inr ⟨m + 1, by simp; omega, by simpa using h1, fun k hk => ?_⟩
        cases k with
        | zero => simpa using h
        | succ k => simpa using h2 k (by omega)
    · exact .inr ⟨0, by simp, by simpa using h, fun k hk => absurd hk (by omega)⟩
theorem enum_at {r : List Int} {k : Nat} (hk : k < r.length) : (enumL (r.map PyData.int))[k]? = some (.tuple [.int (k : Int), .int r[k]]) := by
  unfold enumL
  rw [List.getElem?_map, List.getElem?_zipIdx, List.getElem?_map, List.getElem?_eq_getElem hk]
  simp
theorem ll_comp {r : List Int} (hl : r.length ≤ 1000) : compD [2, 3] (sTup 2 (sCons (sName 2) (sCons (sName 3) sNil))) (xBool (xBin neD (xVar 3) (PD.ret (.int 0)))) (xVar 2) (enumL (r.map .int)) [] [.fz (rowT r), .un, .un, .un] =
    some (((enumL (r.map .int)).filter (fun d => match d with | .tuple [_, .int y] => y != 0 | _ => false)).map (fun d => match d with | .tuple [x, _] => x | d => d), [.fz (rowT r), .un, .un, .un]) := by
  have q := comp_ff (is := [2, 3]) (set := sTup 2 (sCons (sName 2) (sCons (sName 3) sNil))) (t := xBool (xBin neD (xVar 3) (PD.ret (.int 0)))) (el := xVar 2) (ds := enumL (r.map .int)) (acc := []) (δ := [.fz (rowT r), .un, .un, .un])
    (fun d => match d with | .tuple [_, .int y] => y != 0 | _ => false) (fun d => match d with | .tuple [x, _] => x | d => d) (by simp [enumL]; omega) fun d hd => by
      unfold enumL at hd
      obtain ⟨⟨y, i⟩, hy, rfl⟩ := List.mem_map.mp hd
      have hy' := List.mem_zipIdx' hy
      obtain ⟨z, rfl⟩ : ∃ z, y = .int z := by
        have hi : i < r.length := by simpa using hy'.1
        have := hy'.2
        rw [List.getElem_map] at this
        exact ⟨_, this⟩
      walk_at "wp"
      refine w_lif (o_neI _ _) ?_
      refine w_lif rfl ?_
      refine ⟨?_, fun _ => ?_, fun _ => ⟨rfl, rfl⟩⟩
      · simp [bne, BEq.beq]
      · walk_at "wp"
        exact ⟨rfl, rfl, rfl⟩
  rw [List.nil_append] at q
  exact q
theorem lead_some {r : List Int} {m : Nat} (hl : r.length ≤ 1000) (hm : m < r.length) (h1 : r[m] ≠ 0) (h0 : ∀ k (hk : k < m), r[k] = 0) : g__law_lead [.fz (rowT r)] = some (.ok (.int (m : Int)), [.fz (rowT r)]) := by
  walk_at "w_run"
  unfold B__law_lead
  walk_at "wp"
  refine w_lif rfl ?_
  have q := ll_comp hl
  obtain ⟨t, ht⟩ := filter_first (f := fun d => match d with | .tuple [_, .int y] => y != 0 | _ => false) (enum_at hm) (bne_iff_ne.mpr h1) fun k d' hk e => by
    rw [enum_at (by omega)] at e
    cases e
    show (r[k] != 0) = false
    rw [h0 k hk]
    rfl
  rw [ht] at q
  refine ⟨rfl, _, _, q, ?_⟩
  walk_at "wp"
  show Gs (sName 1) _ [.fz (rowT r), .un, .un, .un] _
  walk_at "wp"
  refine w_lif (neD_nil (n := 2) (flat_lst fun d hd => ?_) (by omega)) ?_
  · obtain ⟨e, he, rfl⟩ := List.mem_map.mp hd
    rw [← ht] at he
    have he := (List.mem_filter.mp he).1
    unfold enumL at he
    obtain ⟨⟨y, i⟩, hy, rfl⟩ := List.mem_map.mp he
    exact flat_int _
  · refine w_lif rfl ?_
    show Gd (cond true _ _) _ _
    walk_at "wp"
    refine w_lif ix_head ?_
    exact ⟨rfl, rfl⟩
theorem lead_none {r : List Int} (hl : r.length ≤ 1000) (h0 : ∀ x ∈ r, x = 0) : g__law_lead [.fz (rowT r)] = some (.ok (.int (-1)), [.fz (rowT r)]) := by
  walk_at "w_run"
  unfold B__law_lead
  walk_at "wp"
  refine w_lif rfl ?_
  have q := ll_comp hl
  have ht : (enumL (r.map PyData.int)).filter (fun d => match d with | .tuple [_, .int y] => y != 0 | _ => false) = [] := by
    rw [List.filter_eq_nil_iff]
    intro d hd
    obtain ⟨k, hk, e⟩ := List.getElem_of_mem hd
    have hk' : k < r.length := by simpa [enumL] using hk
    have := enum_at hk'
    rw [List.getElem?_eq_getElem hk, e] at this
    cases this
    show ¬ (r[k] != 0) = true
    rw [h0 _ (List.getElem_mem hk')]
    decide
  rw [ht] at q
  refine ⟨rfl, _, _, q, ?_⟩
  walk_at "wp"
  show Gs (sName 1) _ [.fz (rowT r), .un, .un, .un] _
  walk_at "wp"
  refine w_lif (neD_nil (n := 2) (flat_lst fun d hd => by cases hd) (by omega)) ?_
  refine w_lif rfl ?_
  show Gd (cond false _ _) _ _
  walk_at "wp"
  refine w_lif rfl ?_
  exact ⟨rfl, rfl⟩
end K03
end

section
set_option Elab.async false
set_option linter.all false
set_option maxRecDepth 100000
set_option maxHeartbeats 2000000
namespace K03
open PySem PD LA
section
variable {p : Nat} [NeZero p] [Fd (Fin p)]
/-! ### vectors as rows -/
theorem cz_nat : ∀ n : Nat, cz (F := Fin p) (n : Int) = Fin.ofNat p n
  | 0 => by
    rw [show ((0 : Nat) : Int) = 0 from rfl, cz_zero]
    apply Fin.ext
    simp
  | n + 1 => by
    rw [show ((n + 1 : Nat) : Int) = (n : Int) + 1 from rfl, cz_add, cz_nat n, cz_one]
    apply Fin.ext
    show ((n % p) + 1 % p) % p = (n + 1) % p
    rw [← Nat.add_mod]
theorem cz_val (f : Fin p) : cz (F := Fin p) (f.val : Int) = f := by
  rw [cz_nat]
  apply Fin.ext
  simp [Fin.ofNat, Nat.mod_eq_of_lt f.isLt]
def rowOf (w : Nat) (x : Vc (Fin p)) : List Int := (List.range w).map fun k => ((x k).val : Int)
theorem rowOf_rw (w : Nat) (x : Vc (Fin p)) : Rw p w (rowOf w x) := ⟨by simp [rowOf], fun y hy => by
  obtain ⟨k, _, rfl⟩ := List.mem_map.mp hy
  have := (x k).isLt
  omega⟩
theorem rowOf_vc {w : Nat} {x : Vc (Fin p)} (h : ∀ k, w ≤ k → x k = 0) : vc (F := Fin p) (rowOf w x) = x := by
  funext k
  by_cases hk : k < w
  · rw [vc_at (by simpa [rowOf] using hk)]
    unfold rowOf
    rw [List.getElem_map, List.getElem_range, cz_val]
  · rw [vc_out (by simp [rowOf]; omega), h k (by omega)]
/-! ### sums -/
theorem comb_rw (hp : 0 < (p : Int)) {n : Nat} : ∀ {rows : List (List Int)} {fs line : List Int}, Mt p n rows → Rw p n line → Rw p n (comb p line rows fs)
  | [], fs, line, _, h => by rw [show comb p line [] fs = line by simp [comb]]; exact h
  | r :: rows, [], line, _, h => by rw [show comb p line (r :: rows) [] = line by simp [comb]]; exact h
  | r :: rows, f :: fs, line, mt, h => by
    have hr := mt r (List.mem_cons_self ..)
    rw [show comb p line (r :: rows) (f :: fs) = comb p (lin p line r f) rows fs by simp [comb]]
    exact comb_rw hp (fun r h => mt r (List.mem_cons_of_mem _ h)) ⟨by rw [lin_length, hr.len, h.len]; omega, lin_res hp⟩
theorem zrow (hp : 0 < p) (n : Nat) : Rw p n (List.replicate n 0) := ⟨by simp, fun x hx => by
  obtain ⟨_, rfl⟩ := List.mem_replicate.mp hx
  omega⟩
def mix (p : Nat) (w : Nat) (V : List (List Int)) (fs : List Int) : List Int := comb p (List.replicate w 0) V fs
theorem mix_rw (hp : 0 < p) {w : Nat} {V : List (List Int)} (mt : Mt p w V) (fs : List Int) : Rw p w (mix p w V fs) := comb_rw (by omega) mt (zrow hp w)
theorem mix_vc (hp : 0 < p) {w : Nat} {V : List (List Int)} (mt : Mt p w V) {fs : List Int} (hl : fs.length = V.length) : vc (F := Fin p) (mix p w V fs) = lc (vc fs) (vs p V) := by
  funext k
  unfold mix
  rw [vc_comb hp mt (by simp) hl, vc_zeros]
  grind
theorem mix_sp (hp : 0 < p) {w : Nat} {V : List (List Int)} (mt : Mt p w V) {r : List Int} : (∃ fs ∈ tups p V.length, r = mix p w V fs) ↔ Rw p w r ∧ Sp (vs p V) (vc r) := by
  constructor
  · rintro ⟨fs, hf, rfl⟩
    refine ⟨mix_rw hp mt fs, ?_⟩
    rw [mix_vc hp mt (tups_mem hf)]
    exact lc_sp _ _
  · rintro ⟨hr, hs⟩
    obtain ⟨t, ht⟩ := hs.lc
    have e : lc (vc (rowOf V.length t)) (vs p V) = lc t (vs p V) := by
      funext k
      refine lc_congr _ _ _ (fun i hi => ?_) k
      have hi : i < V.length := by simpa using hi
      rw [vc_at (by simpa [rowOf] using hi)]
      unfold rowOf
      rw [List.getElem_map, List.getElem_range, cz_val]
    refine ⟨rowOf V.length t, tups_all (rowOf_rw _ _), ?_⟩
    refine rw_eq hr (mix_rw hp mt _) fun k => ?_
    rw [mix_vc hp mt (rowOf_rw (p := p) V.length t).len, e]
    exact ht k
theorem mixed_val (pr : Pr p) {a b : PyData} {ds : List PyData} {w : Nat} {V : List (List Int)} {fs : List Int} (ha : seqD a = some ds) (hr : Rows ds V) (hb : seqD b = some (fs.map .int)) (hf : Rw p V.length fs) (hw : w ≤ 1000) :
    g__law_mixed [.fz (.int p), .fz a, .fz b, .fz (.int (w : Int))] = some (.ok (rowT (mix p w V fs)), [.fz (.int p), .fz a, .fz b, .fz (.int (w : Int))]) :=
  mixed_eq (by have := pr.pos; omega) ha hr hb (res_small (by have := pr.lt; omega) hf.res) hw
/-! ### the law's sums: a dict, then in order -/
def kk (r : List Int) : List L2.Key := r.map .inl
theorem keysL_ints : ∀ r : List Int, keysL (r.map .int) = some (kk r)
  | [] => rfl
  | x :: r => by
    show (match keyOf (.int x), keysL (r.map .int) with | some k, some ks => some (k :: ks) | _, _ => none) = _
    rw [keysL_ints r]
    rfl
theorem kk_inj {a b : List Int} (h : kk a = kk b) : a = b := by
  unfold kk at h
  exact List.map_inj_right (fun _ _ e => Sum.inl.inj e) |>.mp h
theorem keyD_kk (r : List Int) : keyD (kk r) = rowT r := by
  unfold keyD kk rowT
  rw [List.map_map]
  rfl
def put1 (L : List (List Int)) (r : List Int) : List (List Int) := if r ∈ L then L else L ++ [r]
theorem put1_mem {L : List (List Int)} {r x : List Int} : x ∈ put1 L r ↔ x ∈ L ∨ x = r := by
  unfold put1
  split
  · constructor
    · exact .inl
    · rintro (h | rfl)
      · exact h
      · assumption
  · simp
theorem put1_nodup {L : List (List Int)} {r : List Int} (h : L.Nodup) : (put1 L r).Nodup := by
  unfold put1
  split
  · exact h
  · rename_i n
    rw [List.nodup_append]
    refine ⟨h, by simp, fun a ha b hb => ?_⟩
    rw [List.mem_singleton.mp hb]
    rintro rfl
    exact n ha
def kvT (L : List (List Int)) : List (List L2.Key × PyData) := L.map fun r => (kk r, .bool true)
theorem put_kvT (L : List (List Int)) (r : List Int) (hl : L.length ≤ 1000) : putDi (.t (kvT L)) (rowT r) (.bool true) = some (.t (kvT (put1 L r))) := by
  show (if (kvT L).length < sizeLine then (keysOf (rowT r)).map fun q => DiO.t (putA (kvT L) q (.bool true)) else none) = _
  rw [if_pos (by unfold kvT; rw [List.length_map, sizeLine_eq]; omega)]
  show (keysL (r.map .int)).map _ = _
  rw [keysL_ints]
  show some (DiO.t (putA (kvT L) (kk r) (.bool true))) = _
  have hany : ((kvT L).any fun kv => decide (kv.1 = kk r)) = decide (r ∈ L) := by
    rw [Bool.eq_iff_iff, List.any_eq_true, decide_eq_true_eq]
    constructor
    · rintro ⟨kv, h1, h2⟩
      obtain ⟨x, hx, rfl⟩ := List.mem_map.mp h1
      rw [← kk_inj (of_decide_eq_true h2)]
      exact hx
    · intro h
      exact ⟨_, List.mem_map.mpr ⟨r, h, rfl⟩, by simp⟩
  unfold putA put1
  rw [hany]
  by_cases h : r ∈ L
  · rw [if_pos (by simpa using h), if_pos h]
    congr 2
    unfold kvT
    rw [List.map_map]
    refine List.map_congr_left fun x _ => ?_
    show (if kk x = kk r then (kk x, PyData.bool true) else (kk x, .bool true)) = _
    split <;> rfl
  · rw [if_neg (by simpa using h), if_neg h]
    unfold kvT
    rw [List.map_append]
    rfl
theorem perm_map {α β : Type} {f : α → β} {g : β → α} (hg : ∀ a, g (f a) = a) {L : List α} {l : List β} (h : l.Perm (L.map f)) : ∃ G : List α, G.Perm L ∧ l = G.map f := by
  refine ⟨l.map g, ?_, ?_⟩
  · have := h.map g
    rw [List.map_map] at this
    rw [show (g ∘ f) = id from funext hg, List.map_id] at this
    exact this
  · rw [List.map_map]
    refine (List.map_id l).symm.trans (List.map_congr_left fun x hx => ?_)
    obtain ⟨a, _, rfl⟩ := List.mem_map.mp (h.mem_iff.mp hx)
    show f a = f (g (f a))
    rw [hg]
def unrow : PyData → List Int
  | .tuple ds => (ints? ds).getD []
  | _ => []
theorem unrow_row (r : List Int) : unrow (rowT r) = r := by
  show (ints? (r.map .int)).getD [] = r
  rw [ints_map]
  rfl
theorem sort_rows {L : List (List Int)} {w : Nat} (hw : ∀ r ∈ L, r.length = w) : ∃ G : List (List Int), G.Perm L ∧ sortD (L.map rowT) = G.map rowT := by
  have h : (sortD (L.map rowT)).Perm (L.map rowT) := by
    rw [sortD_eq]
    exact List.mergeSort_perm _ _
  exact perm_map unrow_row h
theorem ok_rows {L : List (List Int)} {w : Nat} (hw : ∀ r ∈ L, r.length = w) (hd : L.Nodup) (hn : L ≠ []) : (okSort (L.map rowT) || isUnit (L.map rowT)) = true := by
  by_cases h0 : w = 0
  · have hL : L = [[]] := by
      have h1 : ∀ r ∈ L, r = [] := fun r hr => List.length_eq_zero_iff.mp (by rw [hw r hr, h0])
      match L, hn, hd, h1 with
      | [a], _, _, h1 => rw [h1 a (List.mem_cons_self ..)]
      | a :: b :: L, _, hd, h1 =>
        rw [h1 a (by simp), h1 b (by simp)] at hd
        simp at hd
    rw [hL]
    exact (Bool.or_eq_true _ _).mpr (.inr rfl)
  · rw [Bool.or_eq_true]
    left
    unfold okSort
    rw [Bool.and_eq_true, Bool.and_eq_true, Bool.or_eq_true]
    refine ⟨?_, .inl ?_, ?_⟩
    · rw [List.all_eq_true]
      intro d hd
      rw [List.all_eq_true]
      intro e he
      obtain ⟨x, _, rfl⟩ := List.mem_map.mp hd
      obtain ⟨y, _, rfl⟩ := List.mem_map.mp he
      simp [rowT, PySem.W.alike, PySem.W.alike_ints]
    · rw [List.all_eq_true]
      intro d hd
      obtain ⟨x, hx, rfl⟩ := List.mem_map.mp hd
      have := hw x hx
      cases x with
      | nil => simp at this; omega
      | cons a x => rfl
    · rw [List.all_eq_true]
      intro d hd
      obtain ⟨x, hx, rfl⟩ := List.mem_map.mp hd
      simp [rowT, PyData.depth, PySem.W.depth_ints]
end
end K03
end

section
namespace K03
open PySem PD LA
theorem first_diff {z t : List Int} (hl : z.length = t.length) (h : z ≠ t) : ∃ k, k < t.length ∧ z.getD k 0 ≠ t.getD k 0 ∧ ∀ i, i < k → z.getD i 0 = t.getD i 0 := by
  have hg : ∀ (a : List Int) (k : Nat) (hk : k < a.length), a.getD k 0 = a[k] := fun a k hk => getD_at hk
  rcases first_or (List.zipWith (· - ·) z t) with q | ⟨m, hm, h1, h2⟩
  · refine absurd (List.ext_getElem hl fun k k1 k2 => ?_) h
    have hk : k < (List.zipWith (· - ·) z t).length := by rw [List.length_zipWith]; omega
    have := q _ (List.getElem_mem hk)
    rw [List.getElem_zipWith] at this
    omega
  · rw [List.length_zipWith] at hm
    rw [List.getElem_zipWith] at h1
    refine ⟨m, by omega, ?_, fun i hi => ?_⟩
    · rw [hg z m (by omega), hg t m (by omega)]
      omega
    · have := h2 i hi
      rw [List.getElem_zipWith] at this
      rw [hg z i (by omega), hg t i (by omega)]
      omega
theorem lex_total {a b : List Int} (hl : a.length = b.length) (h : a ≠ b) : lexLt a b ∨ lexLt b a := by
  obtain ⟨k, _, h1, h2⟩ := first_diff hl h
  by_cases q : a.getD k 0 < b.getD k 0
  · exact .inl ⟨k, h2, q⟩
  · exact .inr ⟨k, fun i hi => (h2 i hi).symm, by omega⟩
theorem lex_lt : ∀ {a b : List Int}, a.length = b.length → lexLt a b → a < b
  | [], [], _, ⟨k, _, h⟩ => by simp at h
  | x :: a, y :: b, hl, ⟨k, h0, h⟩ => by
    cases k with
    | zero => exact List.Lex.rel (by simpa using h)
    | succ k =>
      have e : x = y := by simpa using h0 0 (by omega)
      subst e
      refine List.Lex.cons (lex_lt (by simpa using hl) ⟨k, fun i hi => by simpa using h0 (i + 1) (by omega), by simpa using h⟩)
theorem sort_asc {L : List (List Int)} {w : Nat} (hw : ∀ r ∈ L, r.length = w) (nd : L.Nodup) : ∃ G : List (List Int), G.Perm L ∧ G.Pairwise lexLt ∧ sortD (L.map rowT) = G.map rowT := by
  obtain ⟨G, hp, e⟩ := sort_rows hw
  refine ⟨G, hp, ?_, e⟩
  have h1 : (sortD (L.map rowT)).Pairwise (fun a b => PySem.W.dataLe false (fun d => d) a b = true) := sortBy_sorted (PySem.W.sortLe_total _ _ _) _
  rw [e, List.pairwise_map] at h1
  have h2 : G.Nodup := hp.nodup_iff.mpr nd
  have h3 := h1.and h2
  refine List.Pairwise.imp_of_mem (fun {a b} ha hb hh => ?_) h3
  obtain ⟨g1, g2⟩ := hh
  have la := hw a (hp.mem_iff.mp ha)
  have lb := hw b (hp.mem_iff.mp hb)
  rcases lex_total (la.trans lb.symm) g2 with g | g
  · exact g
  · exfalso
    have g4 := lex_lt (lb.trans la.symm) g
    rw [PySem.W.dataLe_eq] at g1
    have g5 : PySem.W.dataLt (rowT b) (rowT a) = decide (b < a) := (PySem.W.dataLt_tuple _ _).trans (PySem.W.dataLt_ints b a)
    simp only [cond_false, g5, g4, decide_true, Bool.not_true] at g1
    exact absurd g1 (by decide)
theorem asc_unique {A B : List (List Int)} (ha : A.Pairwise lexLt) (hb : B.Pairwise lexLt) (h : ∀ r, r ∈ A ↔ r ∈ B) : A = B := by
  have na : A.Nodup := ha.imp fun h => lex_ne h
  have nb : B.Nodup := hb.imp fun h => lex_ne h
  have hp : A.Perm B := (List.perm_ext_iff_of_nodup na nb).mpr h
  exact hp.eq_of_pairwise (fun a b _ _ h1 h2 => absurd h2 (lex_asym h1)) ha hb
end K03
end

section
set_option Elab.async false
set_option linter.all false
set_option maxRecDepth 100000
set_option maxHeartbeats 2000000
namespace K03
open PySem PD LA
section
variable {p : Nat} [NeZero p] [Fd (Fin p)]
theorem w_dput {i : Nat} {f g : M PyData} {δ : Sg} {Q : Flo → Sg → Prop} (h : Gd f δ fun d δ1 => ∃ o1, At δ1 i (.od o1) ∧ Gd g δ1 fun k δ2 => ∃ o o' δ3, At δ2 i (.od o) ∧ putDi o k d = some o' ∧ Put δ2 i (.od o') δ3 ∧ Q .nx δ3) : Gd (sDPut f i g) δ Q := by
  obtain ⟨d, δ1, e1, o1, a1, k, δ2, e2, o, o', δ3, a2, e3, p3, q⟩ := h
  refine ⟨.nx, δ3, ?_, q⟩
  unfold sDPut
  rw [bnd_eq e1]
  try dsimp only
  rw [a1.get]
  try dsimp only
  rw [bnd_eq e2]
  try dsimp only
  rw [a2.get]
  try dsimp only
  rw [e3]
  try dsimp only
  rw [p3.set]
theorem w_dnew {i : Nat} {o : DiO} {c : Cell} {δ δ' : Sg} {Q : Flo → Sg → Prop} (a : At δ i c) (f : c.free = true) (pt : Put δ i (.od o) δ') (h : Q .nx δ') : Gd (sDNew o i) δ Q := by
  refine ⟨.nx, δ', ?_, h⟩
  unfold sDNew
  rw [a.get]
  try dsimp only
  rw [if_pos f, pt.set]
theorem w_sortDi {i : Nat} {kvs : List (List L2.Key × PyData)} {δ : Sg} {Q : List PyData → Sg → Prop} (a : At δ i (.od (.t kvs))) (h1 : (okSort ((kvs.map (·.1)).map keyD) || isUnit ((kvs.map (·.1)).map keyD)) = true) (h2 : kvs.length ≤ 1000000) (h : Q (sortD ((kvs.map (·.1)).map keyD)) δ) : Gd (xSortDi i) δ Q := by
  refine ⟨_, _, ?_, h⟩
  unfold xSortDi
  rw [a.get]
  try dsimp only
  rw [if_pos ⟨h1, by rw [sizeLine_eq]; omega⟩]
theorem kvT_keys (L : List (List Int)) : ((kvT L).map (·.1)).map keyD = L.map rowT := by
  unfold kvT
  rw [List.map_map, List.map_map]
  refine List.map_congr_left fun r _ => ?_
  exact keyD_kk r
theorem pow_small {m : Nat} (h : p ^ m ≤ 1000) : ∀ j, j < m → (p ^ j + 1) * p ≤ 1000000 := fun j hj => by
  have pp : 0 < p := Nat.pos_of_ne_zero (NeZero.ne p)
  have h1 : p ^ j ≤ p ^ m := Nat.pow_le_pow_right pp (by omega)
  have h2 : p ^ 1 ≤ p ^ m := Nat.pow_le_pow_right pp (by omega)
  rw [Nat.pow_one] at h2
  have := Nat.mul_le_mul (show p ^ j + 1 ≤ 1001 by omega) (show p ≤ 1000 - 1 + 1 by omega)
  have h3 : (p ^ j + 1) * p = p ^ j * p + p := by rw [Nat.add_mul, Nat.one_mul]
  have h4 : p ^ j * p ≤ p ^ m := by rw [← Nat.pow_succ]; exact Nat.pow_le_pow_right pp (by omega)
  omega
theorem tuples_val (pr : Pr p) {m : Nat} (hm : m ≤ 1000) (hb : p ^ m ≤ 1000) : g__law_tuples [.fz (.int p), .fz (.int (m : Int))] = some (.ok (.list ((tups p m).map rowT)), [.fz (.int p), .fz (.int (m : Int))]) :=
  tuples_eq (by have := pr.lt; omega) hm (pow_small hb)
def SI (p : Nat) (a : PyData) (w : Nat) (V : List (List Int)) (j : Nat) (δ : Sg) : Prop :=
  ∃ (L : List (List Int)) (c4 : Cell), δ = [.fz (.int p), .fz a, .fz (.int (w : Int)), .od (.t (kvT L)), c4] ∧ c4.free = true ∧ L.Nodup ∧ L.length ≤ j ∧ ∀ r, r ∈ L ↔ ∃ fs ∈ (tups p V.length).take j, r = mix p w V fs
theorem put1_le {L : List (List Int)} {r : List Int} : (put1 L r).length ≤ L.length + 1 := by
  unfold put1
  split <;> simp
theorem sums_eq (pr : Pr p) {a : PyData} {ds : List PyData} {w : Nat} {V : List (List Int)} (ha : seqD a = some ds) (hr : Rows ds V) (mt : Mt p w V) (hm : V.length ≤ 1000) (hb : p ^ V.length ≤ 1000) (hw : w ≤ 1000) :
    ∃ G : List (List Int), g__law_sums [.fz (.int p), .fz a, .fz (.int (w : Int))] = some (.ok (.list (G.map rowT)), [.fz (.int p), .fz a, .fz (.int (w : Int))]) ∧ G.Nodup ∧ G.Pairwise lexLt ∧ G.length ≤ p ^ V.length ∧ ∀ r, r ∈ G ↔ Rw p w r ∧ Sp (vs p V) (vc r) := by
  have pp : 0 < p := pr.pos
  suffices H : Gd B__law_sums [.fz (.int p), .fz a, .fz (.int (w : Int)), .un, .un] fun fl δ' => ∃ G : List (List Int), (fl = .rt (.list (G.map rowT)) ∧ keepO [.fz (.int p), .fz a, .fz (.int (w : Int))] δ' = some [.fz (.int p), .fz a, .fz (.int (w : Int))]) ∧ G.Nodup ∧ G.Pairwise lexLt ∧ G.length ≤ p ^ V.length ∧ ∀ r, r ∈ G ↔ Rw p w r ∧ Sp (vs p V) (vc r) by
    obtain ⟨fl, δ', e, G, h1, h2⟩ := H
    refine ⟨G, ?_, h2⟩
    walk_at "w_run"
    exact ⟨fl, δ', e, h1⟩
  unfold B__law_sums
  refine w_seq (w_dnew (.s (.s (.s .z))) rfl (.s (.s (.s .z))) (nx_nx ?_))
  walk_at "wp"
  refine w_lif (len_seq ha) ?_
  rw [hr.length]
  walk_at "wp"
  refine ⟨_, _, tuples_val pr hm hb, ?_⟩
  refine w_lif rfl ?_
  refine w_loop (SI p a w V) ⟨[], .un, rfl, rfl, .nil, by simp, fun r => by simp⟩ (fun j d e δ hi => ?_) fun δ' hi => ?_
  · obtain ⟨L, c4, rfl, f4, nd, hl, hL⟩ := hi
    rw [List.getElem?_map] at e
    cases et : (tups p V.length)[j]? with
    | none => rw [et] at e; cases e
    | some fs =>
      rw [et] at e
      cases e
      have hj : j < (tups p V.length).length := (List.getElem?_eq_some_iff.mp et).1
      rw [tups_length] at hj
      have hfs := tups_res (List.mem_of_getElem? et)
      refine w_name (by walk_at "w_at") f4 (by walk_at "w_put") ?_
      refine w_dput ?_
      walk_at "wp"
      refine ⟨_, .s (.s (.s .z)), ?_⟩
      walk_at "wp"
      refine ⟨_, _, mixed_val pr ha hr rfl hfs hw, ?_⟩
      refine ⟨_, _, _, .s (.s (.s .z)), put_kvT L _ (by omega), .s (.s (.s .z)), ?_⟩
      refine ⟨rfl, put1 L (mix p w V fs), _, rfl, rfl, put1_nodup nd, by have := put1_le (L := L) (r := mix p w V fs); omega, fun r => ?_⟩
      rw [put1_mem, hL, List.take_succ, et]
      constructor
      · rintro (⟨f, h1, h2⟩ | h)
        · exact ⟨f, by simp [h1], h2⟩
        · exact ⟨fs, by simp, h⟩
      · rintro ⟨f, h1, h2⟩
        rcases List.mem_append.mp h1 with h1 | h1
        · exact .inl ⟨f, h1, h2⟩
        · simp at h1
          subst h1
          exact .inr h2
  · rw [List.length_map] at hi
    obtain ⟨L, c4, rfl, f4, nd, hl, hL⟩ := hi
    rw [List.take_length] at hL
    rw [tups_length] at hl
    have hL2 : ∀ r, r ∈ L ↔ Rw p w r ∧ Sp (vs p V) (vc r) := fun r => by rw [hL, mix_sp pp mt]
    have hne : L ≠ [] := by
      intro z
      have := (hL2 (List.replicate w 0)).mpr ⟨zrow pp w, Sp.zero.congr fun k => (vc_zeros w k).symm⟩
      rw [z] at this
      cases this
    have hlen : ∀ r ∈ L, r.length = w := fun r h => ((hL2 r).mp h).1.len
    obtain ⟨G, hp, hasc, hs⟩ := sort_asc hlen nd
    walk_at "wp"
    refine w_sortDi (.s (.s (.s .z))) (by rw [kvT_keys]; exact ok_rows hlen nd hne) (by unfold kvT; rw [List.length_map]; omega) ?_
    rw [kvT_keys, hs]
    walk_at "wp"
    exact ⟨G, ⟨rfl, rfl⟩, hp.nodup_iff.mpr nd, hasc, by rw [hp.length_eq]; exact hl, fun r => by rw [hp.mem_iff]; exact hL2 r⟩
end
end K03
end

section
set_option Elab.async false
set_option linter.all false
set_option maxRecDepth 100000
set_option maxHeartbeats 2000000
namespace K03
open PySem PD LA
/-! ### leads -/
def ldN : List Int → Option Nat
  | [] => none
  | x :: r => if x = 0 then (ldN r).map (· + 1) else some 0
def ld (r : List Int) : Int := match ldN r with
  | some m => (m : Int)
  | none => -1
theorem ldN_none : ∀ {r : List Int}, ldN r = none ↔ ∀ x ∈ r, x = 0
  | [] => by simp [ldN]
  | x :: r => by
    unfold ldN
    by_cases h : x = 0
    · rw [if_pos h, Option.map_eq_none_iff, ldN_none]
      simp [h]
    · rw [if_neg h]
      simp [h]
theorem ldN_some : ∀ {r : List Int} {m : Nat}, ldN r = some m ↔ ∃ h : m < r.length, r[m] ≠ 0 ∧ ∀ k (hk : k < m), r[k] = 0
  | [], m => by simp [ldN]
  | x :: r, m => by
    unfold ldN
    by_cases h : x = 0
    · rw [if_pos h, Option.map_eq_some_iff]
      constructor
      · rintro ⟨j, h1, rfl⟩
        obtain ⟨g1, g2, g3⟩ := ldN_some.mp h1
        refine ⟨by simp; omega, by simpa using g2, fun k hk => ?_⟩
        cases k with
        | zero => simpa using h
        | succ k => simpa using g3 k (by omega)
      · rintro ⟨g1, g2, g3⟩
        cases m with
        | zero => exact absurd h (by simpa using g2)
        | succ m => exact ⟨m, ldN_some.mpr ⟨by simpa using g1, by simpa using g2, fun k hk => by simpa using g3 (k + 1) (by omega)⟩, rfl⟩
    · rw [if_neg h]
      constructor
      · rintro e
        cases e
        exact ⟨by simp, by simpa using h, fun k hk => absurd hk (by omega)⟩
      · rintro ⟨g1, g2, g3⟩
        cases m with
        | zero => rfl
        | succ m => exact absurd (by simpa using g3 0 (by omega)) h
theorem ld_val {r : List Int} (hl : r.length ≤ 1000) : g__law_lead [.fz (rowT r)] = some (.ok (.int (ld r)), [.fz (rowT r)]) := by
  unfold ld
  cases e : ldN r with
  | none => exact lead_none hl (ldN_none.mp e)
  | some m =>
    obtain ⟨h1, h2, h3⟩ := ldN_some.mp e
    exact lead_some hl h1 h2 h3
theorem filter_one {α : Type} {c : α → Bool} {x : α} : ∀ {G : List α}, G.Nodup → x ∈ G → (∀ r ∈ G, (c r = true ↔ r = x)) → G.filter c = [x]
  | [], _, h, _ => by cases h
  | a :: G, nd, h, k => by
    obtain ⟨n1, n2⟩ := List.nodup_cons.mp nd
    rcases List.mem_cons.mp h with rfl | h
    · rw [List.filter_cons, if_pos ((k x (List.mem_cons_self ..)).mpr rfl)]
      congr 1
      rw [List.filter_eq_nil_iff]
      intro r hr hc
      have := (k r (List.mem_cons_of_mem _ hr)).mp hc
      subst this
      exact n1 hr
    · have ha : a ≠ x := by rintro rfl; exact n1 h
      rw [List.filter_cons, if_neg fun z => ha ((k a (List.mem_cons_self ..)).mp z)]
      exact filter_one n2 h fun r hr => k r (List.mem_cons_of_mem _ hr)
theorem eq_rowsL (x y : List Int) : eqD (rowL x) (rowL y) = some (.bool (decide (x = y))) := by
  have f : ∀ r : List Int, Flat 1 (rowL r) := fun r => flat_lst fun d hd => by
    obtain ⟨i, _, rfl⟩ := List.mem_map.mp hd
    exact flat_int i
  unfold eqD
  rw [if_pos ⟨(f x).shaped (by omega), (f y).shaped (by omega)⟩]
  simp [rowL, PyData.eqv, eqv_ints]
theorem ints_of : ∀ ns : List Int, intsOf (ns.map .int) = some ns
  | [] => rfl
  | n :: ns => by
    show (intsOf (ns.map .int)).map (n :: ·) = _
    rw [ints_of ns]
    rfl
section
variable {p : Nat} [NeZero p] [Fd (Fin p)]
theorem ldN_vc {w : Nat} {r : List Int} (hr : Rw p w r) {m : Nat} : ldN r = some m ↔ vc (F := Fin p) r m ≠ 0 ∧ ∀ k, k < m → vc (F := Fin p) r k = 0 := by
  rw [ldN_some]
  constructor
  · rintro ⟨h1, h2, h3⟩
    refine ⟨?_, fun k hk => ?_⟩
    · rw [vc_at h1]
      have := hr.res _ (List.getElem_mem h1)
      intro z
      exact h2 ((cz_ne this.1 this.2).mp z)
    · rw [vc_at (by omega), h3 k hk, cz_zero]
  · rintro ⟨h1, h2⟩
    have hm : m < r.length := by
      refine Classical.byContradiction fun q => h1 (vc_out (by omega))
    refine ⟨hm, fun z => h1 (by rw [vc_at hm, z, cz_zero]), fun k hk => ?_⟩
    have hk' : k < r.length := by omega
    have := h2 k hk
    rw [vc_at hk'] at this
    have b := hr.res _ (List.getElem_mem hk')
    exact (cz_ne b.1 b.2).mp this
def hitB (l : List Nat) (at_ : Nat) (r : List Int) : Bool := decide (pickI r l = l.map fun k => if k = at_ then 1 else 0)
theorem hitB_iff (hp1 : 1 < p) {w : Nat} {B : List (List Int)} {l : List Nat} (mt : Mt p w B) (rf : Rf (vs p B) l) {i : Nat} (hi : i < B.length) {r : List Int} (hr : Rw p w r) (hs : Sp (vs p B) (vc r)) : hitB l (l.getD i 0) r = true ↔ r = B[i] := by
  have hll : l.length = B.length := by have := rf.len; simpa using this
  have hil : i < l.length := by omega
  have hlt : ∀ j (h : j < l.length), l[j] < w := fun j h => rf_lt mt rf h
  have key : ∀ j (h : j < l.length), vc (F := Fin p) B[i] l[j] = if j = i then 1 else 0 := fun j h => by
    have e : row (vs p B) i = vc B[i] := row_vs B i hi
    by_cases q : j = i
    · subst q
      rw [if_pos rfl, ← e]
      exact rf.one j h
    · rw [if_neg q, ← e]
      exact rf.off j h i (fun z => q z.symm)
  have inj : ∀ j (h : j < l.length), l[j] = l[i] → j = i := fun j h z => by
    have hp := List.pairwise_iff_getElem.mp rf.asc
    rcases Nat.lt_trichotomy j i with q | q | q
    · have := hp j i h hil q; omega
    · exact q
    · have := hp i j hil h q; omega
  have coord : hitB l (l.getD i 0) r = true ↔ ∀ j (h : j < l.length), vc (F := Fin p) r l[j] = if j = i then 1 else 0 := by
    unfold hitB
    rw [decide_eq_true_eq, getD_at hil]
    have hv : ∀ j (h : j < l.length), r.getD l[j] 0 = r[l[j]]'(by rw [hr.len]; exact hlt j h) := fun j h => getD_at _
    constructor
    · intro e j h
      have e1 : (pickI r l)[j]? = (l.map fun k => if k = l[i] then (1 : Int) else 0)[j]? := by rw [e]
      unfold pickI at e1
      rw [List.getElem?_map, List.getElem?_map, List.getElem?_eq_getElem h] at e1
      have e2 : r.getD l[j] 0 = if l[j] = l[i] then (1 : Int) else 0 := by simpa using e1
      show cz (r.getD l[j] 0) = _
      rw [e2]
      by_cases q : j = i
      · subst q; rw [if_pos rfl, if_pos rfl, cz_one]
      · rw [if_neg fun z => q (inj j h z), if_neg q, cz_zero]
    · intro h
      unfold pickI
      refine List.ext_getElem (by simp) fun j h1 h2 => ?_
      have hj : j < l.length := by simpa using h1
      rw [List.getElem_map, List.getElem_map]
      have h3 := h j hj
      have b := hr.res _ (List.getElem_mem (by rw [hr.len]; exact hlt j hj : l[j] < r.length))
      have h3' : cz (F := Fin p) (r.getD l[j] 0) = if j = i then 1 else 0 := h3
      rw [hv j hj] at h3' ⊢
      by_cases q : j = i
      · subst q
        rw [if_pos rfl] at h3' ⊢
        exact cz_inj b ⟨by omega, by omega⟩ (by rw [h3', cz_one])
      · rw [if_neg q] at h3'
        rw [if_neg fun z => q (inj j hj z)]
        exact cz_inj b ⟨by omega, by omega⟩ (by rw [h3', cz_zero])
  rw [coord]
  constructor
  · intro h
    refine rw_eq hr (mt _ (List.getElem_mem hi)) fun k => ?_
    have hB : Sp (vs p B) (vc B[i]) := .mem (List.mem_map.mpr ⟨_, List.getElem_mem hi, rfl⟩)
    have hz := rf.zero (hs.sub hB) (fun j hj => by rw [h j hj, key j hj]; grind) k
    have hz : vc (F := Fin p) r k - vc B[i] k = 0 := hz
    grind
  · rintro rfl j h
    exact key j h
end
end K03
end

section
set_option Elab.async false
set_option linter.all false
set_option maxRecDepth 100000
set_option maxHeartbeats 2000000
namespace K03
open PySem PD LA
theorem w_par2E {i j : Nat} {f : M PyData} {fs : M (List PyData)} {δ : Sg} {Q : Flo → Sg → Prop} (h : Gd f δ fun d δ1 => Gd fs δ1 fun ds δ2 => Gs (sName i) d δ2 fun δ3 => ∃ c δ4, At δ3 j c ∧ c.free = true ∧ Put δ3 j (.ow false ds) δ4 ∧ Q .nx δ4) : Gd (sPar2E f fs i j) δ Q := by
  unfold sPar2E
  refine w_bnd (h.imp fun d δ1 h => w_bnd (h.imp fun ds δ2 h => ?_))
  obtain ⟨δ3, e, c, δ4, a, fr, pt, q⟩ := h
  refine ⟨.nx, δ4, ?_, q⟩
  dsimp only
  rw [e]
  dsimp only
  rw [a.get]
  dsimp only
  rw [if_pos fr, pt.set]
section
variable {p : Nat} [NeZero p] [Fd (Fin p)]
abbrev arg1 (i : Nat) : M (List PyData) := bnd (xVar i) fun d => bnd (PD.ret []) fun ds => PD.ret (d :: ds)
def BI (p : Nat) (a : PyData) (w : Nat) (G : List (List Int)) (F0 : List PyData) (l : List Nat) (at_ : Nat) (j : Nat) (δ : Sg) : Prop :=
  ∃ c5 : Cell, δ = [.fz (.int p), .fz a, .fz (.int (w : Int)), .fz (.list (G.map rowT)), .ow false (F0 ++ ((G.take j).filter (hitB l at_)).map rowT), c5, .fz (rowL (l.map fun k : Nat => (k : Int))), .fz (.int (at_ : Int)), .un] ∧ c5.free = true
theorem lead_comp {l : List Nat} {r : List Int} (hl : ∀ k ∈ l, k < r.length) (h : l.length ≤ 1000) {δ0 : Sg → Prop} {a0 a1 a2 a3 a4 a6 a7 : Cell} :
    compD [8] (sName 8) (PD.ret true) (xBin ixD (xVar 5) (xVar 8)) (l.map fun k : Nat => PyData.int (k : Int)) [] [a0, a1, a2, a3, a4, .fz (rowT r), a6, a7, .un] = some ((pickI r l).map .int, [a0, a1, a2, a3, a4, .fz (rowT r), a6, a7, .un]) := by
  have q := comp_fun (is := [8]) (set := sName 8) (el := xBin ixD (xVar 5) (xVar 8)) (ds := l.map fun k : Nat => PyData.int (k : Int)) (δ := [a0, a1, a2, a3, a4, .fz (rowT r), a6, a7, .un]) (fun d => match d with | .int k => .int (r.getD k.toNat 0) | d => d) (by simp; omega) fun d hd => by
    obtain ⟨k, hk, rfl⟩ := List.mem_map.mp hd
    have hkr := hl k hk
    walk_at "wp"
    refine w_lif (ix_intsT hkr) ?_
    refine ⟨?_, rfl, rfl⟩
    show PyData.int r[k] = .int (r.getD ((k : Int)).toNat 0)
    rw [Int.toNat_natCast, getD_at hkr]
  rw [q]
  unfold pickI
  rw [List.map_map, List.map_map]
  rfl
theorem unit_comp {l : List Nat} {at_ : Nat} (h : l.length ≤ 1000) {a0 a1 a2 a3 a4 a5 a6 : Cell} :
    compD [8] (sName 8) (PD.ret true) (xCall intD (bnd (xBin eqD (xVar 8) (xVar 7)) fun d => bnd (PD.ret []) fun ds => PD.ret (d :: ds))) (l.map fun k : Nat => PyData.int (k : Int)) [] [a0, a1, a2, a3, a4, a5, a6, .fz (.int (at_ : Int)), .un] =
      some ((l.map fun k => if k = at_ then (1 : Int) else 0).map .int, [a0, a1, a2, a3, a4, a5, a6, .fz (.int (at_ : Int)), .un]) := by
  have q := comp_fun (is := [8]) (set := sName 8) (el := xCall intD (bnd (xBin eqD (xVar 8) (xVar 7)) fun d => bnd (PD.ret []) fun ds => PD.ret (d :: ds))) (ds := l.map fun k : Nat => PyData.int (k : Int)) (δ := [a0, a1, a2, a3, a4, a5, a6, .fz (.int (at_ : Int)), .un]) (fun d => match d with | .int k => .int (if k.toNat = at_ then 1 else 0) | d => d) (by simp; omega) fun d hd => by
    obtain ⟨k, hk, rfl⟩ := List.mem_map.mp hd
    walk_at "wp"
    refine w_lif (o_eqI _ _) ?_
    walk_at "wp"
    refine w_lif rfl ?_
    refine ⟨?_, rfl, rfl⟩
    show PyData.int (if decide ((k : Int) = (at_ : Int)) = true then 1 else 0) = .int (if ((k : Int)).toNat = at_ then 1 else 0)
    rw [Int.toNat_natCast]
    by_cases e : k = at_
    · rw [if_pos e, if_pos (by simp [e])]
    · rw [if_neg e, if_neg (by simp; omega)]
  rw [q]
  rw [List.map_map, List.map_map]
  refine congrArg (fun z => some (z, _)) (List.map_congr_left fun k _ => ?_)
  show PyData.int (if ((k : Int)).toNat = at_ then 1 else 0) = _
  rw [Int.toNat_natCast]
  rfl
abbrev bIn : MS := sIf (xBool (xBin eqD (bnd (xComp (xSeq (xVar 6)) [8] (sName 8) (PD.ret true) (xBin ixD (xVar 5) (xVar 8))) fun ds => PD.ret (.list ds)) (bnd (xComp (xSeq (xVar 6)) [8] (sName 8) (PD.ret true) (xCall intD (bnd (xBin eqD (xVar 8) (xVar 7)) fun d => bnd (PD.ret []) fun ds => PD.ret (d :: ds)))) fun ds => PD.ret (.list ds)))) (sApp 4 (xVar 5)) sSkip
theorem inner_loop {a : PyData} {w : Nat} {G : List (List Int)} {F0 : List PyData} {l : List Nat} {at_ : Nat} {c5 : Cell} (f5 : c5.free = true) (hG : ∀ r ∈ G, ∀ k ∈ l, k < r.length) (hl : l.length ≤ 1000) (hs : F0.length + G.length ≤ 10000) {Q : Flo → Sg → Prop}
    (h : ∀ δ', BI p a w G F0 l at_ G.length δ' → Q .nx δ') : Gd (loopD (sName 5) bIn (G.map rowT)) [.fz (.int p), .fz a, .fz (.int (w : Int)), .fz (.list (G.map rowT)), .ow false F0, c5, .fz (rowL (l.map fun k : Nat => (k : Int))), .fz (.int (at_ : Int)), .un] Q := by
  refine w_loop (BI p a w G F0 l at_) ⟨c5, by simp, f5⟩ (fun j d e δ hi => ?_) fun δ' hi => h δ' (by rw [List.length_map] at hi; exact hi)
  obtain ⟨c5, rfl, f5⟩ := hi
  rw [List.getElem?_map] at e
  cases et : G[j]? with
  | none => rw [et] at e; cases e
  | some r =>
    rw [et] at e
    cases e
    have hr := hG r (List.mem_of_getElem? et)
    refine w_name (by walk_at "w_at") f5 (by walk_at "w_put") ?_
    walk_at "wp"
    have hsq : seqD (rowL (l.map fun k : Nat => (k : Int))) = some (l.map fun k : Nat => PyData.int (k : Int)) := by
      show some ((l.map fun k : Nat => (k : Int)).map PyData.int) = _
      rw [List.map_map]
      rfl
    refine w_lif hsq ?_
    refine ⟨rfl, _, _, lead_comp hr hl (δ0 := fun _ => True), ?_⟩
    walk_at "wp"
    refine w_var (d := rowL (l.map fun k : Nat => (k : Int))) (by walk_at "w_at") ?_
    refine w_lif hsq ?_
    refine ⟨rfl, _, _, unit_comp hl, ?_⟩
    walk_at "wp"
    refine w_lif (eq_rowsL _ _) ?_
    refine w_lif rfl ?_
    have ht : G.take (j + 1) = G.take j ++ [r] := by rw [List.take_succ, et]; rfl
    have hj : j < G.length := (List.getElem?_eq_some_iff.mp et).1
    show Gd (cond (hitB l at_ r) _ _) [.fz (.int p), .fz a, .fz (.int (w : Int)), .fz (.list (G.map rowT)), .ow false (F0 ++ ((G.take j).filter (hitB l at_)).map rowT), .fz (rowT r), .fz (rowL (l.map fun k : Nat => (k : Int))), .fz (.int (at_ : Int)), .un] _
    refine w_by (fun hc => ?_) fun hc => ?_
    · refine w_app (.s (.s (.s (.s .z)))) ?_
      walk_at "wp"
      refine ⟨_, _, _, .s (.s (.s (.s .z))), ?_, .s (.s (.s (.s .z))), rfl, .fz (rowT r), ?_, rfl⟩
      · have h1 := List.length_filter_le (hitB l at_) (G.take j)
        rw [List.length_take] at h1
        simp only [List.length_append, List.length_map]
        omega
      · rw [ht, List.filter_append, List.map_append, List.filter_cons, if_pos hc, List.append_assoc]
        rfl
    · walk_at "wp"
      refine ⟨rfl, .fz (rowT r), ?_, rfl⟩
      rw [ht, List.filter_append, List.filter_cons, if_neg (by rw [hc]; exact Bool.false_ne_true)]
      simp
theorem law_basis_eq (pr : Pr p) (h2 : 1 < p) {a : PyData} {ds : List PyData} {w : Nat} {W B : List (List Int)} {l : List Nat} (ha : seqD a = some ds) (hr : Rows ds W) (mtW : Mt p w W) (hm : W.length ≤ 1000) (hb : p ^ W.length < 64) (hw : w ≤ 1000) (mt : Mt p w B) (rf : Rf (vs p B) l) (hsp : ∀ x, Sp (vs p B) x ↔ Sp (vs p W) x) :
    g__law_basis [.fz (.int p), .fz a, .fz (.int (w : Int))] = some (.ok (.tuple (B.map rowT)), [.fz (.int p), .fz a, .fz (.int (w : Int))]) := by
  obtain ⟨G, eG, ndG, _, lenG, hG⟩ := sums_eq pr ha hr mtW hm (by omega) hw
  have hll : l.length = B.length := by have := rf.len; simpa using this
  have hlt : ∀ k ∈ l, k < w := fun k hk => by
    obtain ⟨i, hi, rfl⟩ := List.getElem_of_mem hk
    exact rf_lt mt rf hi
  have hGl : ∀ r ∈ G, r.length = w := fun r h => ((hG r).mp h).1.len
  have hGlen : G.length < 64 := by omega
  -- the leads
  have hset : setI ((G.filter fun r => decide (0 ≤ ld r)).map ld) = l.map fun k : Nat => (k : Int) := by
    refine lt_unique (setI_sorted _) ?_ fun y => ?_
    · rw [List.pairwise_map]
      exact rf.asc.imp fun h => by omega
    · rw [setI_mem, List.mem_map, List.mem_map]
      constructor
      · rintro ⟨r, hr1, rfl⟩
        obtain ⟨g1, g2⟩ := List.mem_filter.mp hr1
        have g2 := of_decide_eq_true g2
        unfold ld at g2 ⊢
        cases e : ldN r with
        | none => rw [e] at g2; simp at g2
        | some m =>
          refine ⟨m, ?_, rfl⟩
          obtain ⟨rr, rs⟩ := (hG r).mp g1
          obtain ⟨v1, v2⟩ := (ldN_vc (p := p) rr).mp e
          exact (rf.leads m).mpr ⟨vc r, (hsp _).mpr rs, v1, v2⟩
      · rintro ⟨m, hm1, rfl⟩
        obtain ⟨x, x1, x2, x3⟩ := (rf.leads m).mp hm1
        have hx0 : ∀ k, w ≤ k → x k = 0 := (vs_wd mt).sp x1
        have hv := rowOf_vc hx0
        have hrr := rowOf_rw (p := p) w x
        have e : ldN (rowOf w x) = some m := (ldN_vc hrr).mpr (by rw [hv]; exact ⟨x2, x3⟩)
        have hld : ld (rowOf w x) = (m : Int) := by unfold ld; rw [e]
        refine ⟨rowOf w x, List.mem_filter.mpr ⟨(hG _).mpr ⟨hrr, by rw [hv]; exact (hsp _).mp x1⟩, by rw [hld]; simp⟩, hld⟩
  walk_at "w_run"
  unfold B__law_basis
  refine w_seq (w_par2E ?_)
  walk_at "wp"
  refine ⟨_, _, eG, ?_⟩
  walk_at "wp"
  refine ⟨_, _, .s (.s (.s (.s .z))), rfl, .s (.s (.s (.s .z))), nx_nx ?_⟩
  walk_at "wp"
  refine w_lif rfl ?_
  have q := comp_ff (is := [5]) (set := sName 5) (t := xBool (xBin geD (xDef g__law_lead (bnd (xVar 5) fun d => bnd (PD.ret []) fun ds => PD.ret (d :: ds))) (PD.ret (.int 0)))) (el := xDef g__law_lead (bnd (xVar 5) fun d => bnd (PD.ret []) fun ds => PD.ret (d :: ds))) (ds := G.map rowT) (acc := [])
    (δ := [.fz (.int p), .fz a, .fz (.int (w : Int)), .fz (.list (G.map rowT)), .ow false [], .un, .un, .un, .un]) (fun d => decide (0 ≤ ld (unrow d))) (fun d => .int (ld (unrow d))) (by simp; omega) fun d hd => by
      obtain ⟨r, hr, rfl⟩ := List.mem_map.mp hd
      have hl := hGl r hr
      walk_at "wp"
      refine ⟨_, _, ld_val (by omega), ?_⟩
      walk_at "wp"
      refine w_lif (o_ge _ _) ?_
      refine w_lif rfl ?_
      rw [unrow_row]
      refine ⟨rfl, fun _ => ?_, fun _ => ⟨rfl, rfl⟩⟩
      walk_at "wp"
      exact ⟨_, _, ld_val (by omega), rfl, rfl, rfl⟩
  have e1 : ((G.map rowT).filter fun d => decide (0 ≤ ld (unrow d))).map (fun d => PyData.int (ld (unrow d))) = ((G.filter fun r => decide (0 ≤ ld r)).map ld).map .int := by
    rw [List.filter_map, List.map_map, List.map_map]
    have e0 : ((fun d => decide (0 ≤ ld (unrow d))) ∘ rowT) = fun r => decide (0 ≤ ld r) := by
      funext r
      show decide (0 ≤ ld (unrow (rowT r))) = _
      rw [unrow_row]
    rw [e0]
    refine List.map_congr_left fun r _ => ?_
    show PyData.int (ld (unrow (rowT r))) = PyData.int (ld r)
    rw [unrow_row]
  rw [List.nil_append, e1] at q
  refine ⟨rfl, _, _, q, ?_⟩
  walk_at "wp"
  have hsf : sortSetF [.list (((G.filter fun r => decide (0 ≤ ld r)).map ld).map .int)] = some ((l.map fun k : Nat => (k : Int)).map .int) := by
    show (match intsOf (((G.filter fun r => decide (0 ≤ ld r)).map ld).map .int) with | some ns => if ns.length < 64 then some ((setI ns).map PyData.int) else none | none => none) = _
    rw [ints_of]
    dsimp only
    rw [if_pos (by
      rw [List.length_map]
      have := List.length_filter_le (fun r => decide (0 ≤ ld r)) G
      omega), hset]
  refine w_lif hsf (w_ret ?_)
  show Gs (sName 6) _ [.fz (.int p), .fz a, .fz (.int (w : Int)), .fz (.list (G.map rowT)), .ow false [], .un, .un, .un, .un] _
  walk_at "wp"
  refine w_lif rfl ?_
  refine w_loop (fun i δ => ∃ c5 c7 : Cell, δ = [.fz (.int p), .fz a, .fz (.int (w : Int)), .fz (.list (G.map rowT)), .ow false ((B.take i).map rowT), c5, .fz (rowL (l.map fun k : Nat => (k : Int))), c7, .un] ∧ c5.free = true ∧ c7.free = true) ⟨.un, .un, rfl, rfl, rfl⟩ (fun i d e δ hi => ?_) fun δ' hi => ?_
  · obtain ⟨c5, c7, rfl, f5, f7⟩ := hi
    rw [List.getElem?_map, List.getElem?_map] at e
    cases et : l[i]? with
    | none => rw [et] at e; cases e
    | some k =>
      rw [et] at e
      cases e
      obtain ⟨hil, hk⟩ := List.getElem?_eq_some_iff.mp et
      have hiB : i < B.length := by omega
      refine w_name (by walk_at "w_at") f7 (by walk_at "w_put") ?_
      walk_at "wp"
      refine w_lif rfl ?_
      have hBi := hG B[i]
      refine inner_loop (p := p) (a := a) (w := w) f5 (fun r hr k hk => by rw [hGl r hr]; exact hlt k hk) ?_ ?_ fun δ' hi => ?_
      · have h3 := asc_le (l := l) (m := List.range w) rf.asc List.pairwise_lt_range (fun x hx => List.mem_range.mpr (hlt x hx))
        rw [List.length_range] at h3
        omega
      · have h3 := asc_le (l := l) (m := List.range w) rf.asc List.pairwise_lt_range (fun x hx => List.mem_range.mpr (hlt x hx))
        rw [List.length_range] at h3
        simp only [List.length_map, List.length_take]
        omega
      · obtain ⟨c5', rfl, f5'⟩ := hi
        refine ⟨rfl, c5', .fz (.int (k : Int)), ?_, f5', rfl⟩
        rw [List.take_length]
        have hkd : k = l.getD i 0 := by rw [getD_at hil]; exact hk.symm
        have h1 : G.filter (hitB l k) = [B[i]] := by
          refine filter_one ndG (hBi.mpr ⟨mt _ (List.getElem_mem hiB), (hsp _).mp (.mem (List.mem_map.mpr ⟨_, List.getElem_mem hiB, rfl⟩))⟩) fun r hr => ?_
          obtain ⟨r1, r2⟩ := (hG r).mp hr
          rw [hkd]
          exact hitB_iff h2 mt rf hiB r1 ((hsp _).mpr r2)
        rw [h1, List.take_succ_eq_append_getElem hiB, List.map_append]
  · rw [List.length_map, List.length_map, hll, List.take_length] at hi
    obtain ⟨c5, c7, rfl, f5, f7⟩ := hi
    walk_at "wp"
    refine w_varO (.s (.s (.s (.s .z)))) (.s (.s (.s (.s .z)))) ?_
    walk_at "wp"
    refine w_lif rfl ?_
    exact ⟨rfl, rfl⟩
end
end K03
end

section
set_option Elab.async false
set_option linter.all false
set_option maxRecDepth 100000
set_option maxHeartbeats 2000000
namespace K03
open PySem PD LA
theorem filter_rows (g : List Int → Bool) (L : List (List Int)) : (L.map rowT).filter (fun d => g (unrow d)) = (L.filter g).map rowT := by
  rw [List.filter_map]
  congr 1
  refine List.filter_congr fun r _ => ?_
  show g (unrow (rowT r)) = _
  rw [unrow_row]
/-! ### p, how many, how wide -/
theorem shape_tail {P M : Nat} {N : Int} {osx os : List PyData} (e1 : g__law_of [.ow true osx, .fz (.list [.int 2, .int 2, .int 3, .int 3, .int 5])] = some (.ok (.int (P : Int)), [.ow true os, .fz (.list [.int 2, .int 2, .int 3, .int 3, .int 5])])) (t : Tin N os) (hN : 0 ≤ N) (hN2 : N ≤ 100000) (hM : M ≤ 5) (hP : P ≤ 5) (hix : ixD (.list [.int 0, .int 0, .int 5, .int 3, .int 0, .int 2]) (.int (P : Int)) = some (.int (M : Int))) :
    Gd B__law_drawn_shape [.ow true osx, .un, .un, .un] fun fl δ' => ∃ (m w : Nat) (os' : List PyData), fl = .rt (.tuple [.int (P : Int), .int (m : Int), .int (w : Int)]) ∧ keepO [.ow true osx] δ' = some [.ow true os'] ∧ Tin (N + 2) os' ∧ m ≤ M ∧ w ≤ M := by
  unfold B__law_drawn_shape
  walk_at "wp"
  refine w_defO .z ?_
  walk_at "wp"
  refine ⟨_, _, _, _, _, _, _, .z, e1, .z, ?_⟩
  walk_at "wp"
  refine w_lif hix ?_
  walk_at "wp"
  refine w_lif (o_mul (mulOk_l (by decide))) ?_
  walk_at "wp"
  refine w_lif (o_add _ _) ?_
  walk_at "wp"
  have hd : divOk (2 * (M : Int) + 1) = true := by unfold divOk; simp only [Bool.and_eq_true, decide_eq_true_eq]; omega
  refine w_take (k := 2 * (M : Int) + 1) t (by omega) (by omega) hd (by walk_at "wp"; exact ⟨rfl, rfl⟩) fun v os1 v0 v1 t1 => ?_
  walk_at "wp"
  refine w_lif (o_add _ _) ?_
  walk_at "wp"
  refine w_lif (o_div (by decide)) ?_
  walk_at "wp"
  refine w_take (k := 2 * (M : Int) + 1) t1 (by omega) (by omega) hd (by walk_at "wp"; exact ⟨rfl, rfl⟩) fun v' os2 v0' v1' t2 => ?_
  walk_at "wp"
  refine w_lif (o_add _ _) ?_
  walk_at "wp"
  refine w_lif (o_div (by decide)) ?_
  walk_at "wp"
  have e1 : ∀ x : Int, 0 ≤ x → x < 2 * (M : Int) + 1 → ∃ m : Nat, (1 + x).fdiv 2 = (m : Int) ∧ m ≤ M := fun x h0 h1 => by
    refine ⟨((1 + x).fdiv 2).toNat, ?_, ?_⟩
    · rw [Int.fdiv_eq_ediv_of_nonneg _ (by omega)]; omega
    · rw [Int.fdiv_eq_ediv_of_nonneg _ (by omega)]; omega
  obtain ⟨m, em, hm⟩ := e1 v v0 v1
  obtain ⟨w, ew, hw⟩ := e1 v' v0' v1'
  rw [em, ew]
  exact ⟨m, w, os2, rfl, rfl, t2.mono (by omega), hm, hw⟩
theorem shape_eq {N : Int} {os : List PyData} (t : Tin N os) (hN : 0 ≤ N) (hN2 : N ≤ 90000) :
    ∃ (p m w : Nat) (os' : List PyData), g__law_drawn_shape [.ow true os] = some (.ok (.tuple [.int (p : Int), .int (m : Int), .int (w : Int)]), [.ow true os']) ∧ Tin (N + 3) os' ∧ ((p = 2 ∧ m ≤ 5 ∧ w ≤ 5) ∨ (p = 3 ∧ m ≤ 3 ∧ w ≤ 3) ∨ (p = 5 ∧ m ≤ 2 ∧ w ≤ 2)) := by
  obtain ⟨d, hd, os1, e1, t1⟩ := of_eq (xs := [.int 2, .int 2, .int 3, .int 3, .int 5]) t (by omega) (by decide) (by decide)
  have hd2 : d = .int ((2 : Nat) : Int) ∨ d = .int ((3 : Nat) : Int) ∨ d = .int ((5 : Nat) : Int) := by
    simp only [List.mem_cons, List.not_mem_nil, or_false] at hd
    rcases hd with h | h | h | h | h
    · exact .inl h
    · exact .inl h
    · exact .inr (.inl h)
    · exact .inr (.inl h)
    · exact .inr (.inr h)
  have tail : ∀ P M : Nat, d = .int (P : Int) → M ≤ 5 → P ≤ 5 → ixD (.list [.int 0, .int 0, .int 5, .int 3, .int 0, .int 2]) (.int (P : Int)) = some (.int (M : Int)) →
      ∃ (m w : Nat) (os' : List PyData), g__law_drawn_shape [.ow true os] = some (.ok (.tuple [.int (P : Int), .int (m : Int), .int (w : Int)]), [.ow true os']) ∧ Tin (N + 3) os' ∧ m ≤ M ∧ w ≤ M := fun P M hP h5 hP5 hix => by
    subst hP
    suffices H : Gd B__law_drawn_shape [.ow true os, .un, .un, .un] fun fl δ' => ∃ (m w : Nat) (os' : List PyData), fl = .rt (.tuple [.int (P : Int), .int (m : Int), .int (w : Int)]) ∧ keepO [.ow true os] δ' = some [.ow true os'] ∧ Tin (N + 1 + 2) os' ∧ m ≤ M ∧ w ≤ M by
      obtain ⟨fl, δ', e, m, w, os', h1, h2, h3, h4⟩ := H
      refine ⟨m, w, os', ?_, by rw [show N + 3 = N + 1 + 2 by omega]; exact h3, h4⟩
      walk_at "w_run"
      exact ⟨fl, δ', e, h1, h2⟩
    exact shape_tail e1 t1 (by omega) (by omega) h5 hP5 hix
  rcases hd2 with h | h | h
  · obtain ⟨m, w, os', g1, g2, g3, g4⟩ := tail 2 5 h (by omega) (by omega) rfl
    exact ⟨2, m, w, os', g1, g2, .inl ⟨rfl, g3, g4⟩⟩
  · obtain ⟨m, w, os', g1, g2, g3, g4⟩ := tail 3 3 h (by omega) (by omega) rfl
    exact ⟨3, m, w, os', g1, g2, .inr (.inl ⟨rfl, g3, g4⟩)⟩
  · obtain ⟨m, w, os', g1, g2, g3, g4⟩ := tail 5 2 h (by omega) (by omega) rfl
    exact ⟨5, m, w, os', g1, g2, .inr (.inr ⟨rfl, g3, g4⟩)⟩
end K03
end

section
namespace K03
open PySem PD LA
section
variable {p : Nat} [NeZero p] [Fd (Fin p)]
theorem rank_eq (pr : Pr p) {a : PyData} {ds : List PyData} {n : Nat} {rows : List (List Int)} (ha : seqD a = some ds) (hr : Rows ds rows) (mt : Mt p n rows) (hm : rows.length ≤ 1000) (hn : n ≤ 1000) :
    ∃ (B : List (List Int)) (l : List Nat), g_rank [.fz (.int p), .fz a] = some (.ok (.int (B.length : Nat)), [.fz (.int p), .fz a]) ∧ Bs p n rows B l := by
  obtain ⟨E, l, e, mtE, el⟩ := echelon_eq pr ha hr mt hm hn (w := if rows = [] then 0 else n) (by split <;> omega)
  have b := bs_of mt rfl mtE el
  refine ⟨E.take l.length, l, ?_, b⟩
  walk_at "w_run"
  unfold B_rank
  walk_at "wp"
  refine ⟨_, _, width_eq ha hr mt, ?_⟩
  walk_at "wp"
  refine ⟨_, _, e, ?_⟩
  walk_at "wp"
  refine w_lif (ix_natT (k := 1) rfl) ?_
  walk_at "wp"
  refine w_lif rfl ?_
  have := b.rf.len
  rw [List.length_map] at this
  exact ⟨by rw [List.length_map]; exact congrArg (fun n : Nat => Flo.rt (PyData.int n)) this, rfl⟩
theorem rest_of_eq (pr : Pr p) {a b : PyData} {ds : List PyData} {n : Nat} {x : List Int} {rows : List (List Int)} (hb : seqD b = some (x.map .int)) (hx : Rw p n x) (ha : seqD a = some ds) (hr : Rows ds rows) (mt : Mt p n rows) (hm : rows.length ≤ 1000) (hn : n ≤ 1000) :
    ∃ (y : List Int) (B : List (List Int)) (l : List Nat), g_rest_of [.fz (.int p), .fz b, .fz a] = some (.ok (rowT y), [.fz (.int p), .fz b, .fz a]) ∧ Rw p n y ∧ Bs p n rows B l ∧ (Sp (vs p rows) fun k => vc x k - vc y k) ∧ ∀ i (h : i < l.length), vc (F := Fin p) y l[i] = 0 := by
  obtain ⟨B, l, e1, bs⟩ := basis_eq pr ha hr mt hm hn
  obtain ⟨y, e2, hy, hs, hz⟩ := reduced_eq pr hb hx bs.mt bs.rf (by have := bs.few; omega) hn
  refine ⟨y, B, l, ?_, hy, bs, (bs.sp _).mp hs, hz⟩
  walk_at "w_run"
  unfold B_rest_of
  walk_at "wp"
  refine ⟨_, _, e1, ?_⟩
  walk_at "wp"
  refine ⟨_, _, e2, ?_⟩
  exact ⟨rfl, rfl⟩
theorem within_eq (pr : Pr p) {a b : PyData} {ds es : List PyData} {n : Nat} {rows others : List (List Int)} (ha : seqD a = some ds) (hr : Rows ds rows) (mt : Mt p n rows) (hm : rows.length ≤ 1000) (hb : seqD b = some es) (hr2 : Rows es others) (mt2 : Mt p n others) (hm2 : others.length ≤ 1000) (hn : n ≤ 1000) :
    ∃ r : Bool, g_is_within [.fz (.int p), .fz a, .fz b] = some (.ok (.bool r), [.fz (.int p), .fz a, .fz b]) ∧ (r = true ↔ ∀ x ∈ rows, Sp (vs p others) (vc x)) := by
  obtain ⟨B, l, e1, bs⟩ := basis_eq pr hb hr2 mt2 hm2 hn
  have hred : ∀ x ∈ rows, ∃ r : Bool, (∀ c, seqD c = some (x.map .int) → ∃ y, g__reduced [.fz (.int p), .fz c, .fz (.tuple (B.map rowT))] = some (.ok (rowT y), [.fz (.int p), .fz c, .fz (.tuple (B.map rowT))]) ∧ (y.any fun v => v != 0) = r) ∧ (r = false ↔ Sp (vs p others) (vc x)) := fun x hx => by
    obtain ⟨y, e2, hy, hs, hz⟩ := reduced_eq pr (b := rowT x) rfl (mt x hx) bs.mt bs.rf (by have := bs.few; omega) hn
    refine ⟨y.any fun v => v != 0, fun c hc => ?_, ?_⟩
    · obtain ⟨y', e2', hy', hs', hz'⟩ := reduced_eq pr (b := c) hc (mt x hx) bs.mt bs.rf (by have := bs.few; omega) hn
      refine ⟨y', e2', ?_⟩
      have : y' = y := rw_eq hy' hy fun k => bs.rf.rest hs' hs hz' hz k
      rw [this]
    · rw [any_zero hy]
      exact rest_zero bs ((bs.sp _).mp hs) hz
  obtain ⟨F, hF⟩ : ∃ F : List Int → Bool, ∀ x ∈ rows, (∀ c, seqD c = some (x.map .int) → ∃ y, g__reduced [.fz (.int p), .fz c, .fz (.tuple (B.map rowT))] = some (.ok (rowT y), [.fz (.int p), .fz c, .fz (.tuple (B.map rowT))]) ∧ (y.any fun v => v != 0) = F x) ∧ (F x = false ↔ Sp (vs p others) (vc x)) := by
    refine ⟨fun x => if h : x ∈ rows then (hred x h).choose else false, fun x hx => ?_⟩
    have := (hred x hx).choose_spec
    simp only [dif_pos hx]
    exact this
  refine ⟨!(rows.any F), ?_, ?_⟩
  · walk_at "w_run"
    unfold B_is_within
    walk_at "wp"
    refine ⟨_, _, e1, ?_⟩
    walk_at "wp"
    refine w_lif ha ?_
    have q := comp_fun (is := [4]) (set := sName 4) (el := xCall any2D (bnd (xDef g__reduced (bnd (xVar 0) fun d => bnd (bnd (xVar 4) fun d => bnd (bnd (xVar 3) fun d => bnd (PD.ret []) fun ds => PD.ret (d :: ds)) fun ds => PD.ret (d :: ds)) fun ds => PD.ret (d :: ds))) fun d => bnd (PD.ret []) fun ds => PD.ret (d :: ds))) (ds := ds) (δ := [.fz (.int p), .fz a, .fz b, .fz (.tuple (B.map rowT)), .un])
      (fun d => .bool (F ((ints? ((seqD d).getD [])).getD []))) (by rw [hr.length]; omega) fun d hd => by
        obtain ⟨j, hj, e⟩ := List.getElem_of_mem hd
        obtain ⟨x, h1, h2⟩ := hr.get j d (by rw [List.getElem?_eq_getElem hj, e])
        obtain ⟨y, e2, hy⟩ := (hF x (List.mem_of_getElem? h1)).1 d h2
        walk_at "wp"
        refine ⟨_, _, e2, ?_⟩
        walk_at "wp"
        refine w_lif (any_ints y) ?_
        refine ⟨?_, rfl, rfl⟩
        rw [hy, h2]
        show _ = PyData.bool (F ((ints? (x.map PyData.int)).getD []))
        rw [ints_map]
        rfl
    refine ⟨rfl, _, _, q, ?_⟩
    have e : ds.map (fun d => PyData.bool (F ((ints? ((seqD d).getD [])).getD []))) = rows.map fun x => PyData.bool (F x) := by
      refine List.ext_getElem? fun j => ?_
      rw [List.getElem?_map, List.getElem?_map]
      cases hd : ds[j]? with
      | none =>
        have : rows[j]? = none := by
          rw [List.getElem?_eq_none_iff] at hd ⊢
          rw [← hr.length]; exact hd
        rw [this]; rfl
      | some d =>
        obtain ⟨x, h1, h2⟩ := hr.get j d hd
        rw [h1]
        show some (PyData.bool (F ((ints? ((seqD d).getD [])).getD []))) = some (PyData.bool (F x))
        rw [h2]
        show some (PyData.bool (F ((ints? (x.map PyData.int)).getD []))) = _
        rw [ints_map]
        rfl
    rw [e]
    walk_at "wp"
    have ha2 : any2D [.list (rows.map fun x => PyData.bool (F x))] = some (.bool (rows.any F)) := by
      have h : ((rows.map fun x => PyData.bool (F x)).all simpleD) = true := by
        rw [List.all_eq_true]
        intro d hd
        obtain ⟨v, _, rfl⟩ := List.mem_map.mp hd
        rfl
      unfold any2D
      dsimp only
      rw [if_pos h, List.any_map]
      rfl
    refine w_lif ha2 ?_
    exact ⟨_, rfl, rfl, rfl⟩
  · rw [Bool.not_eq_true', List.any_eq_false]
    constructor
    · intro h x hx
      exact (hF x hx).2.mp (by simpa using h x hx)
    · intro h x hx
      have := (hF x hx).2.mpr (h x hx)
      rw [this]
      exact Bool.false_ne_true
theorem basis_val {n : Nat} {rows rows' B : List (List Int)} {l : List Nat} (pr : Pr p) {a : PyData} {ds : List PyData} (ha : seqD a = some ds) (hr : Rows ds rows') (mt : Mt p n rows') (hm : rows'.length ≤ 1000) (hn : n ≤ 1000) (bs : Bs p n rows B l) (e : ∀ x, Sp (vs p rows') x ↔ Sp (vs p rows) x) : g_basis [.fz (.int p), .fz a] = some (.ok (.tuple (B.map rowT)), [.fz (.int p), .fz a]) := by
  obtain ⟨C, m, e1, c⟩ := basis_eq pr ha hr mt hm hn
  have : C = B := vs_inj c.mt bs.mt (c.rf.uniq bs.rf fun x => by rw [c.sp, bs.sp, e]).1
  rw [this] at e1
  exact e1
end
end K03
end

section
namespace K03
open PySem PD LA
theorem w_augMul {i : Nat} {g : M PyData} {δ : Sg} {Q : Flo → Sg → Prop} {x : Int} (a : At δ i (.fz (.int x))) (h : Gd g δ fun y δ1 => ∃ n, y = .int n ∧ mulOk x n = true ∧ Gs (sName i) (.int (x * n)) δ1 (Q .nx)) : Gd (sAug mulI i g) δ Q := by
  obtain ⟨y, δ1, e, n, rfl, hm, δ2, e2, q⟩ := h
  refine ⟨.nx, δ2, ?_, q⟩
  have e3 : (lif (mulI (.int x) (.int n)) : M PyData) δ1 = some (.ok (.int (x * n)), δ1) := by
    unfold mulI intsD
    dsimp only
    rw [if_pos hm]
    rfl
  unfold sAug
  rw [a.get]
  dsimp only
  rw [bnd_eq e, bnd_eq e3, e2]
theorem w_comp2 {it it1 : M (List PyData)} {is vs1 : List Nat} {set set1 : Tg} {t t1 : M Bool} {el : M PyData} {δ : Sg} {Q : List PyData → Sg → Prop} (h : Gd it δ fun ds δ1 => noOw δ1 is = true ∧ ∃ acc δ', comp2D is vs1 set t it1 set1 t1 el ds [] (wipeD δ1 is) = some (acc, δ') ∧ Q acc (backD δ1 δ' is)) : Gd (xComp2 it is vs1 set t it1 set1 t1 el) δ Q := by
  unfold xComp2
  refine w_bnd (h.imp fun ds δ1 h => ?_)
  obtain ⟨h1, acc, δ', e, q⟩ := h
  refine ⟨acc, _, ?_, q⟩
  show (if noOw δ1 is = true then _ else _) = _
  rw [if_pos h1, e]
theorem comp2_step {is vs1 : List Nat} {set set1 : Tg} {t t1 : M Bool} {it1 : M (List PyData)} {el : M PyData} {d : PyData} {ds ds1 acc acc' : List PyData} {δ δ1 δ2 δ3 δ4 : Sg} {r : Option (List PyData × Sg)} (hset : set d δ = some δ1) (ht : t δ1 = some (.ok true, δ2)) (hit : it1 δ2 = some (.ok ds1, δ3)) (hn : noOw δ3 vs1 = true) (hc : compD vs1 set1 t1 el ds1 acc (wipeD δ3 vs1) = some (acc', δ4)) (hn2 : noOw δ4 is = true) (hr : comp2D is vs1 set t it1 set1 t1 el ds acc' (wipeD δ4 is) = r) :
    comp2D is vs1 set t it1 set1 t1 el (d :: ds) acc δ = r := by
  rw [comp2D, hset]
  dsimp only
  rw [ht]
  dsimp only
  rw [hit]
  dsimp only
  rw [if_pos hn, hc]
  dsimp only
  rw [if_pos hn2, hr]
theorem power_eq {p n : Nat} (hp : p < 1000) (hn : n ≤ 1000) : g_power [.fz (.int (p : Int)), .fz (.int (n : Int))] = some (.ok (.int ((p ^ n : Nat) : Int)), [.fz (.int (p : Int)), .fz (.int (n : Int))]) := by
  walk_at "w_run"
  unfold B_power
  walk_at "wp"
  refine w_lif (range_take (by omega) (by omega)) ?_
  refine w_loop (fun j δ => ∃ c3 : Cell, c3.free = true ∧ δ = [.fz (.int (p : Int)), .fz (.int (n : Int)), .fz (.int ((p ^ j : Nat) : Int)), c3]) ⟨.un, rfl, by simp⟩ (fun j d e δ hi => ?_) fun δ' hi => ?_
  · obtain ⟨c3, f3, rfl⟩ := hi
    refine w_name (by walk_at "w_at") f3 (by walk_at "w_put") ?_
    refine w_augMul (.s (.s .z)) ?_
    walk_at "wp"
    refine ⟨_, rfl, mulOk_r (by unfold small64; simp; omega), ?_⟩
    walk_at "wp"
    refine ⟨rfl, .fz d, rfl, ?_⟩
    rw [Nat.pow_succ, Int.natCast_mul]
  · rw [rangeL_length] at hi
    obtain ⟨c3, f3, rfl⟩ := hi
    walk_at "wp"
    exact ⟨by simp, rfl⟩
section
variable {p : Nat}
def arEl : M PyData := xTup (bnd (xVar 4) fun d => bnd (lif (seqD d)) fun xs => bnd (bnd (xVar 5) fun d => bnd (PD.ret []) fun ds => PD.ret (d :: ds)) fun ds => PD.ret (xs ++ ds))
def arIt : M (List PyData) := xCallF' range1D (bnd (xVar 0) fun d => bnd (PD.ret []) fun ds => PD.ret (d :: ds))
theorem ar_inner {n : Nat} {x2 x3 : PyData} (hp : p ≤ 1000) {t : List Int} (ht : t.length ≤ 1000) {acc : List PyData} (hl : acc.length + p ≤ 1000000) :
    compD [5] (sName 5) (PD.ret true) arEl (rangeL 0 (p : Int).toNat) acc [.fz (.int (p : Int)), .fz (.int (n : Int)), .fz x2, .fz x3, .fz (rowT t), .un] = some (acc ++ (tup1 p t).map rowT, [.fz (.int (p : Int)), .fz (.int (n : Int)), .fz x2, .fz x3, .fz (rowT t), .un]) := by
  rw [← tup1_data]
  refine comp_map _ (by rw [rangeL_length]; omega) fun d hd => ?_
  obtain ⟨k, hk, rfl⟩ : ∃ k : Nat, k < p ∧ d = .int (k : Int) := by
    unfold rangeL at hd
    obtain ⟨i, hi, rfl⟩ := List.mem_map.mp hd
    have := List.mem_range.mp hi
    exact ⟨i, by simpa using this, by simp⟩
  have h : Gd arEl [.fz (.int (p : Int)), .fz (.int (n : Int)), .fz x2, .fz x3, .fz (rowT t), .fz (.int (k : Int))] fun d δ => d = rowT (t ++ [(k : Int)]) ∧ δ = [.fz (.int (p : Int)), .fz (.int (n : Int)), .fz x2, .fz x3, .fz (rowT t), .fz (.int (k : Int))] := by
    unfold arEl
    walk_at "wp"
    refine w_lif rfl ?_
    walk_at "wp"
    refine ⟨by simp; omega, by simp [rowT], rfl⟩
  obtain ⟨a, δ', e, rfl, rfl⟩ := h
  exact ⟨_, _, rfl, e, rfl, rfl⟩
theorem ar_comp {n : Nat} {x2 x3 : PyData} (hp : p ≤ 1000) {L : List (List Int)} (hL : ∀ t ∈ L, t.length ≤ 1000) {acc : List PyData} (hl : acc.length + (L.length + 1) * p ≤ 1000000) :
    comp2D [4, 5] [5] (sName 4) (PD.ret true) arIt (sName 5) (PD.ret true) arEl (L.map rowT) acc [.fz (.int (p : Int)), .fz (.int (n : Int)), .fz x2, .fz x3, .un, .un] = some (acc ++ (L.flatMap (tup1 p)).map rowT, [.fz (.int (p : Int)), .fz (.int (n : Int)), .fz x2, .fz x3, .un, .un]) := by
  induction L generalizing acc with
  | nil => simp [comp2D]
  | cons t L ih0 =>
    have hlp : (tup1 p t).length = p := by simp [tup1]
    have h2 : acc.length + p ≤ 1000000 := by
      rw [List.length_cons, Nat.succ_mul (L.length + 1)] at hl
      omega
    have hit : arIt [.fz (.int (p : Int)), .fz (.int (n : Int)), .fz x2, .fz x3, .fz (rowT t), .un] = some (.ok (rangeL 0 (p : Int).toNat), [.fz (.int (p : Int)), .fz (.int (n : Int)), .fz x2, .fz x3, .fz (rowT t), .un]) := by
      have h : Gd arIt [.fz (.int (p : Int)), .fz (.int (n : Int)), .fz x2, .fz x3, .fz (rowT t), .un] fun ds δ => ds = rangeL 0 (p : Int).toNat ∧ δ = [.fz (.int (p : Int)), .fz (.int (n : Int)), .fz x2, .fz x3, .fz (rowT t), .un] := by
        unfold arIt
        walk_at "wp"
        refine w_lif (range_take (by omega) (by omega)) ⟨rfl, rfl⟩
      obtain ⟨a, δ', e, rfl, rfl⟩ := h
      exact e
    have hset : sName 4 (rowT t) [.fz (.int (p : Int)), .fz (.int (n : Int)), .fz x2, .fz x3, .un, .un] = some [.fz (.int (p : Int)), .fz (.int (n : Int)), .fz x2, .fz x3, .fz (rowT t), .un] := rfl
    have hin := ar_inner (n := n) (x2 := x2) (x3 := x3) hp (hL t (List.mem_cons_self ..)) h2
    have ih := ih0 (fun t h => hL t (List.mem_cons_of_mem _ h)) (acc := acc ++ (tup1 p t).map rowT) (by
      rw [List.length_append, List.length_map, hlp]
      rw [List.length_cons, Nat.succ_mul (L.length + 1)] at hl
      omega)
    rw [List.flatMap_cons, List.map_append, ← List.append_assoc, List.map_cons]
    exact comp2_step hset rfl hit rfl hin rfl ih
theorem all_rows_eq {n : Nat} (hp : p ≤ 1000) (hn : n ≤ 1000) (hb : ∀ j, j < n → (p ^ j + 1) * p ≤ 1000000) :
    g_all_rows [.fz (.int (p : Int)), .fz (.int (n : Int))] = some (.ok (.list ((tups p n).map rowT)), [.fz (.int (p : Int)), .fz (.int (n : Int))]) := by
  walk_at "w_run"
  unfold B_all_rows
  walk_at "wp"
  refine w_lif (range_take (by omega) (by omega)) ?_
  refine w_loop (fun j δ => ∃ c3 : Cell, c3.free = true ∧ δ = [.fz (.int (p : Int)), .fz (.int (n : Int)), .fz (.list ((tups p j).map rowT)), c3, .un, .un]) ⟨.un, rfl, rfl⟩ (fun j d e δ hi => ?_) fun δ' hi => ?_
  · obtain ⟨c3, f3, rfl⟩ := hi
    have hj : j < n := by
      obtain ⟨h, _⟩ := List.getElem?_eq_some_iff.mp e
      rw [rangeL_length] at h
      omega
    refine w_name (by walk_at "w_at") f3 (by walk_at "w_put") ?_
    refine w_asg (w_bnd (w_comp2 ?_))
    walk_at "wp"
    refine w_lif rfl ?_
    refine ⟨rfl, _, _, ar_comp (acc := []) hp (fun t ht => by rw [tups_mem ht]; omega) (by rw [tups_length]; simpa using hb j hj), ?_⟩
    walk_at "wp"
    exact ⟨_, rfl, rfl, .fz d, rfl, rfl⟩
  · rw [rangeL_length] at hi
    obtain ⟨c3, f3, rfl⟩ := hi
    walk_at "wp"
    exact ⟨by simp, rfl⟩
end
end K03
end

section
namespace K03
open PySem PD LA
section
variable {p : Nat} [NeZero p] [Fd (Fin p)]
theorem mix_inj {n : Nat} {B : List (List Int)} {l : List Nat} (pr : Pr p) (mt : Mt p n B) (rf : Rf (vs p B) l) {x y : List Int} (hx : Rw p B.length x) (hy : Rw p B.length y) (e : mix p n B x = mix p n B y) : x = y := by
  have ll : l.length = B.length := by have := rf.len; simpa using this
  refine rw_eq hx hy fun k => ?_
  by_cases hk : k < l.length
  · rw [← rf.co (vc x) k hk, ← rf.co (vc y) k hk, ← mix_vc pr.pos mt hx.len, ← mix_vc pr.pos mt hy.len, e]
  · rw [vc_out (by rw [hx.len]; omega), vc_out (by rw [hy.len]; omega)]
theorem members_eq (pr : Pr p) {a : PyData} {ds : List PyData} {n : Nat} {rows : List (List Int)} (ha : seqD a = some ds) (hr : Rows ds rows) (mt : Mt p n rows) (hm : rows.length ≤ 1000) (hn : n ≤ 1000) (hb : p ^ rows.length ≤ 4096) :
    ∃ G : List (List Int), g_members [.fz (.int (p : Int)), .fz a, .fz (.int (n : Int))] = some (.ok (.tuple (G.map rowT)), [.fz (.int (p : Int)), .fz a, .fz (.int (n : Int))]) ∧ G.Pairwise lexLt ∧ ∀ r, r ∈ G ↔ Rw p n r ∧ Sp (vs p rows) (vc r) := by
  obtain ⟨B, l, eB, bs⟩ := basis_eq pr ha hr mt hm hn
  have few := bs.few
  have pp := pr.pos
  have plt := pr.lt
  have hpb : p ^ B.length ≤ 4096 := Nat.le_trans (Nat.pow_le_pow_right pp few) hb
  have htl : (tups p B.length).length ≤ 4096 := by rw [tups_length]; exact hpb
  have hmem : ∀ r, r ∈ (tups p B.length).map (mix p n B) ↔ Rw p n r ∧ Sp (vs p rows) (vc r) := fun r => by
    rw [List.mem_map, ← bs.sp, ← mix_sp pp bs.mt]
    constructor
    · rintro ⟨f, h1, rfl⟩; exact ⟨f, h1, rfl⟩
    · rintro ⟨f, h1, rfl⟩; exact ⟨f, h1, rfl⟩
  have hnd : ((tups p B.length).map (mix p n B)).Nodup :=
    List.pairwise_map.mpr ((tups_nodup p B.length).imp_of_mem fun h1 h2 ne e => ne (mix_inj pr bs.mt bs.rf (tups_res h1) (tups_res h2) e))
  have hw : ∀ r ∈ (tups p B.length).map (mix p n B), r.length = n := fun r h => ((hmem r).mp h).1.len
  have hne : (tups p B.length).map (mix p n B) ≠ [] := by
    intro z
    have := (hmem (List.replicate n 0)).mpr ⟨zrow pp n, Sp.zero.congr fun k => (vc_zeros n k).symm⟩
    rw [z] at this
    cases this
  obtain ⟨G, hp, hasc, hs⟩ := sort_asc hw hnd
  refine ⟨G, ?_, hasc, fun r => by rw [hp.mem_iff, hmem]⟩
  walk_at "w_run"
  unfold B_members
  walk_at "wp"
  refine ⟨_, _, eB, ?_⟩
  walk_at "wp"
  refine w_lif rfl ?_
  rw [List.length_map]
  walk_at "wp"
  have ep := power_eq (p := p) (n := B.length) plt (by omega)
  refine ⟨_, _, ep, ?_⟩
  walk_at "wp"
  refine w_lif (o_gt _ _) ?_
  refine w_lif rfl ?_
  rw [show decide ((4096 : Int) < ((p ^ B.length : Nat) : Int)) = false from decide_eq_false (by omega)]
  walk_at "wp"
  refine w_lif rfl ?_
  rw [List.length_map]
  walk_at "wp"
  have ear := all_rows_eq (p := p) (n := B.length) (by omega) (by omega) (fun j hj => by
    have h1 : p ^ (j + 1) ≤ p ^ B.length := Nat.pow_le_pow_right pp hj
    rw [Nat.pow_succ] at h1
    rw [Nat.succ_mul]
    omega)
  refine ⟨_, _, ear, ?_⟩
  walk_at "wp"
  refine w_lif rfl ?_
  have q := comp_fun (is := [5]) (set := sName 5) (el := xDef g_row_by (bnd (xVar 0) fun d => bnd (bnd (xVar 3) fun d => bnd (bnd (xVar 5) fun d => bnd (bnd (xVar 2) fun d => bnd (PD.ret []) fun ds => PD.ret (d :: ds)) fun ds => PD.ret (d :: ds)) fun ds => PD.ret (d :: ds)) fun ds => PD.ret (d :: ds))) (ds := (tups p B.length).map rowT)
    (δ := [.fz (.int (p : Int)), .fz a, .fz (.int (n : Int)), .fz (.tuple (B.map rowT)), .fz (.list ((tups p B.length).map rowT)), .un]) (fun d => rowT (mix p n B (unrow d))) (by rw [List.length_map]; omega) fun d hd => by
      obtain ⟨f, hf, rfl⟩ := List.mem_map.mp hd
      have hfr := tups_res hf
      obtain ⟨y, e1, hy, hv⟩ := row_by_vc pr (a := .tuple (B.map rowT)) (b := rowT f) rfl (rows_T B) bs.mt rfl hfr.res hfr.len hn
      have : y = mix p n B f := rw_eq hy (mix_rw pp bs.mt f) fun k => by rw [hv, mix_vc pp bs.mt hfr.len]
      subst this
      walk_at "wp"
      refine ⟨_, _, e1, ?_⟩
      rw [unrow_row]
      exact ⟨rfl, rfl, rfl⟩
  refine ⟨rfl, _, _, q, ?_⟩
  have e2 : ((tups p B.length).map rowT).map (fun d => rowT (mix p n B (unrow d))) = ((tups p B.length).map (mix p n B)).map rowT := by
    rw [List.map_map, List.map_map]
    refine List.map_congr_left fun f _ => ?_
    show rowT (mix p n B (unrow (rowT f))) = _
    rw [unrow_row]
    rfl
  rw [e2]
  walk_at "wp"
  have e3 : sortedU [.list (((tups p B.length).map (mix p n B)).map rowT)] = some (G.map rowT) := by
    unfold sortedU
    dsimp only
    rw [if_pos ⟨ok_rows hw hnd hne, by rw [List.length_map, List.length_map, sizeLine_eq]; omega⟩, hs]
  refine w_lif e3 ?_
  walk_at "wp"
  refine w_lif rfl ?_
  exact ⟨rfl, rfl⟩
end
end K03
end

section
set_option Elab.async false
set_option linter.all false
set_option maxRecDepth 100000
set_option maxHeartbeats 2000000
namespace K03
open PySem PD LA
theorem w_tryX {c : String} {i j : Nat} {gi : List (Str × PyData) → Option (List PyData)} {g : MS} {δ : Sg} {Q : Flo → Sg → Prop} (h : Gd g δ Q) : Gd (sTryX c i j gi g) δ Q := by
  obtain ⟨fl, δ', e, q⟩ := h
  exact ⟨fl, δ', by unfold sTryX; rw [e], q⟩
def U12 : List (List Int) := (List.range 12).map (unit 12)
theorem u12_mt : Mt 2 12 U12 := fun r hr => by
  obtain ⟨j, hj, rfl⟩ := List.mem_map.mp hr
  refine ⟨unit_length, fun x hx => ?_⟩
  obtain ⟨i, _, rfl⟩ := List.mem_map.mp hx
  split <;> decide
theorem u12_row (j k : Nat) : row (vs 2 U12) j k = if j < 12 then dl (F := Fin 2) j k else 0 := by
  by_cases h : j < 12
  · have hl : j < U12.length := by simp [U12, h]
    rw [row_vs U12 j hl, if_pos h]
    have : U12[j] = unit 12 j := by simp [U12]
    rw [this, vc_unit h]
  · rw [if_neg h]
    unfold row
    rw [List.getD_eq_getElem?_getD, List.getElem?_eq_none (by simp [U12]; omega)]
    rfl
theorem u12_sp {r : List Int} (hr : Rw 2 12 r) : Sp (vs 2 U12) (vc r) := by
  refine (lc_sp (vs 2 U12) (vc r)).congr fun k => ?_
  by_cases hk : k < 12
  · refine (lc_at (A := vs 2 U12) (c := vc r) (i := k) (fun j hj => ?_) ?_)
    · rw [u12_row]
      split
      · unfold dl; rw [if_neg (by omega)]
      · rfl
    · rw [u12_row, if_pos hk]
      unfold dl; rw [if_pos rfl]
  · rw [vc_out (by rw [hr.len]; omega)]
    refine (lc_none' (A := vs 2 U12) (c := vc r) fun j => ?_)
    rw [u12_row]
    have : (if j < 12 then dl (F := Fin 2) j k else 0) = 0 := by
      split
      · unfold dl; rw [if_neg (by omega)]
      · rfl
    rw [this]
    grind
theorem members_12 : g_members [.fz (.int ((2 : Nat) : Int)), .fz (.tuple (U12.map rowT)), .fz (.int ((12 : Nat) : Int))] = some (.ok (.tuple ((tups 2 12).map rowT)), [.fz (.int ((2 : Nat) : Int)), .fz (.tuple (U12.map rowT)), .fz (.int ((12 : Nat) : Int))]) := by
  obtain ⟨G, e, asc, hG⟩ := members_eq (p := 2) pr2 (a := .tuple (U12.map rowT)) (n := 12) rfl (rows_T U12) u12_mt (by decide +kernel) (by decide +kernel) (by decide +kernel)
  have : G = tups 2 12 := asc_unique asc (tups_sorted 2 12) fun r => by
    rw [hG]
    exact ⟨fun h => tups_all h.1, fun h => ⟨tups_res h, u12_sp (tups_res h)⟩⟩
  rw [this] at e
  exact e
theorem heard_12 : g__law_heard [.fz (.int 2), .fz (.tuple (U12.map rowT)), .fz (.int 12)] = some (.ok (.tuple ((tups 2 12).map rowT)), [.fz (.int 2), .fz (.tuple (U12.map rowT)), .fz (.int 12)]) := by
  walk_at "w_run"
  unfold B__law_heard
  walk_at "wp"
  refine w_tryX ?_
  walk_at "wp"
  refine ⟨_, _, members_12, ?_⟩
  walk_at "wp"
  refine w_lif (a := .bool true) rfl ?_
  refine w_lif (a := true) rfl ?_
  walk_at "wp"
  exact ⟨rfl, rfl⟩
theorem tups_at0 : (tups 2 12)[0]? = some (List.replicate 12 0) := by decide +kernel
theorem tups_at5 : (tups 2 12)[5]? = some (List.replicate 9 0 ++ [1, 0, 1]) := by decide +kernel
theorem tups_atl : (tups 2 12)[4095]? = some (List.replicate 12 1) := by decide +kernel
theorem at_row {L : List (List Int)} {k : Nat} {r : List Int} (h : L[k]? = some r) : (L.map rowT)[k]? = some (rowT r) := by rw [List.getElem?_map, h]; rfl
theorem ix_last {xs : List PyData} {d : PyData} {k : Nat} (h : xs[k]? = some d) (hl : xs.length = k + 1) : ixD (.tuple xs) (.int (-1)) = some d := by
  show L2.atI xs (-1) = some d
  unfold L2.atI L2.ixN
  rw [hl]
  simp
  have e1 : (-1 + ((k : Int) + 1)).toNat = k := by omega
  rw [if_pos (by omega), e1]
  exact h
theorem sm_row {n : Nat} (r : List Int) (h : r.length ≤ 1000000) : Sm (n + 1) (rowT r) := .tup (by simpa using h) fun d hd => by
  obtain ⟨i, _, rfl⟩ := List.mem_map.mp hd
  exact .int i
theorem unit_eq (w k : Nat) (hw : w ≤ 1000) : g__law_unit [.fz (.int (w : Int)), .fz (.int (k : Int))] = some (.ok (rowT (unit w k)), [.fz (.int (w : Int)), .fz (.int (k : Int))]) := by
  walk_at "w_run"
  unfold B__law_unit
  walk_at "wp"
  refine w_lif (range_take (by omega) (by omega)) ?_
  have q := comp_fun (is := [2]) (set := sName 2) (el := xCall intD (bnd (xBin eqD (xVar 2) (xVar 1)) fun d => bnd (PD.ret []) fun ds => PD.ret (d :: ds))) (ds := rangeL 0 ((w : Int)).toNat) (δ := [.fz (.int (w : Int)), .fz (.int (k : Int)), .un])
    (fun d => match d with | .int i => .int (if i = (k : Int) then 1 else 0) | _ => .none) (by rw [rangeL_length]; omega) fun d hd => by
      obtain ⟨i, hi, rfl⟩ : ∃ i : Nat, i < w ∧ d = .int (i : Int) := by
        unfold rangeL at hd
        obtain ⟨i, hi, rfl⟩ := List.mem_map.mp hd
        have := List.mem_range.mp hi
        exact ⟨i, by simpa using this, by simp⟩
      walk_at "wp"
      refine w_lif (o_eqI _ _) ?_
      walk_at "wp"
      by_cases h : (i : Int) = (k : Int)
      · refine w_lif (a := .int 1) (by rw [decide_eq_true h]; rfl) ?_
        refine ⟨by dsimp only; rw [if_pos h], rfl, rfl⟩
      · refine w_lif (a := .int 0) (by rw [decide_eq_false h]; rfl) ?_
        refine ⟨by dsimp only; rw [if_neg h], rfl, rfl⟩
  refine ⟨rfl, _, _, q, ?_⟩
  have e : (rangeL 0 ((w : Int)).toNat).map (fun d => match d with | .int i => PyData.int (if i = (k : Int) then 1 else 0) | _ => .none) = (unit w k).map .int := by
    unfold rangeL unit
    rw [List.map_map, List.map_map, Int.toNat_natCast]
    refine List.map_congr_left fun i _ => ?_
    show PyData.int (if (0 : Int) + (i : Int) = (k : Int) then 1 else 0) = PyData.int (if k = i then 1 else 0)
    rw [Int.zero_add]
    by_cases h : k = i
    · rw [if_pos h, if_pos (by omega)]
    · rw [if_neg h, if_neg (by omega)]
  rw [e]
  walk_at "wp"
  refine w_lif rfl ?_
  exact ⟨rfl, rfl⟩
theorem brink_true : ∃ o, g__law_brink_right [] = some (.ok (.bool true), o) := by
  suffices H : Gd B__law_brink_right [.un, .un] fun fl δ' => ∃ o, fl = .rt (.bool true) ∧ keepO [] δ' = some o by
    obtain ⟨fl, δ', e, o, h1, h2⟩ := H
    refine ⟨o, ?_⟩
    walk_at "w_run"
    exact ⟨fl, δ', e, h1, h2⟩
  unfold B__law_brink_right
  walk_at "wp"
  refine w_lif (range_take (by omega) (by omega)) ?_
  have q := comp_fun (is := [1]) (set := sName 1) (el := xDef g__law_unit (bnd (PD.ret (.int 12)) fun d => bnd (bnd (xVar 1) fun d => bnd (PD.ret []) fun ds => PD.ret (d :: ds)) fun ds => PD.ret (d :: ds))) (ds := rangeL 0 ((12 : Int)).toNat) (δ := [.un, .un])
    (fun d => match d with | .int i => rowT (unit 12 i.toNat) | _ => .none) (by rw [rangeL_length]; decide) fun d hd => by
      obtain ⟨i, hi, rfl⟩ : ∃ i : Nat, i < 12 ∧ d = .int (i : Int) := by
        unfold rangeL at hd
        obtain ⟨i, hi, rfl⟩ := List.mem_map.mp hd
        have := List.mem_range.mp hi
        exact ⟨i, by simpa using this, by simp⟩
      walk_at "wp"
      refine ⟨_, _, unit_eq 12 i (by decide), ?_⟩
      exact ⟨rfl, rfl, rfl⟩
  refine ⟨rfl, _, _, q, ?_⟩
  have e : (rangeL 0 ((12 : Int)).toNat).map (fun d => match d with | .int i => rowT (unit 12 i.toNat) | _ => .none) = U12.map rowT := by
    unfold rangeL U12
    rw [List.map_map, List.map_map]
    refine List.map_congr_left fun i _ => ?_
    show rowT (unit 12 ((0 : Int) + (i : Int)).toNat) = rowT (unit 12 i)
    rw [Int.zero_add, Int.toNat_natCast]
  rw [e]
  walk_at "wp"
  refine w_lif rfl ?_
  walk_at "wp"
  refine ⟨_, _, heard_12, ?_⟩
  walk_at "wp"
  show Gs (sName 0) _ [.un, .un] _
  walk_at "wp"
  refine w_lif (a := .bool true) rfl ?_
  refine w_lif (a := true) rfl ?_
  walk_at "wp"
  refine w_ie ?_
  walk_at "wp"
  refine w_lif (len_seq (a := .tuple ((tups 2 12).map rowT)) (ds := (tups 2 12).map rowT) rfl) ?_
  walk_at "wp"
  refine w_lif (o_neI _ _) ?_
  rw [List.length_map, tups_length, show decide (((2 ^ 12 : Nat) : Int) ≠ 4096) = false from by decide]
  refine w_lif (a := false) rfl ?_
  walk_at "wp"
  refine w_lif (ix_natT (k := 0) (at_row tups_at0)) ?_
  walk_at "wp"
  refine w_lif (ix_natT (k := 5) (at_row tups_at5)) ?_
  walk_at "wp"
  refine w_lif (a := .int (-1)) rfl ?_
  refine w_lif (ix_last (at_row tups_atl) (by rw [List.length_map, tups_length])) ?_
  walk_at "wp"
  refine w_lif (a := rowT (List.replicate 12 0)) rfl ?_
  walk_at "wp"
  refine w_lif (a := rowT (List.replicate 9 0)) rfl ?_
  walk_at "wp"
  refine w_lif (a := rowT (List.replicate 9 0 ++ [1, 0, 1])) rfl ?_
  walk_at "wp"
  refine w_lif (a := rowT (List.replicate 12 1)) rfl ?_
  walk_at "wp"
  exact ⟨_, _, same_eq (n := 2) (.lst (by simp) fun d hd => by
    simp only [List.mem_cons, List.not_mem_nil, or_false] at hd
    rcases hd with rfl | rfl | rfl <;> exact sm_row _ (by decide)) 8 (by omega), _, rfl, rfl⟩
end K03
end

section
set_option Elab.async false
set_option linter.all false
set_option maxRecDepth 100000
set_option maxHeartbeats 4000000
namespace K03
open PySem PD LA
theorem w_par2 {i j : Nat} {fs : M (List PyData)} {δ : Sg} {Q : Flo → Sg → Prop} (h : Gd fs δ fun ds δ1 => ∃ x y, ds = [x, y] ∧ Gs (sName i) x δ1 fun δ2 => Gs (sName j) y δ2 (Q .nx)) : Gd (sPar2 fs i j) δ Q := w_bnd (h.imp fun ds δ1 h => by
  obtain ⟨x, y, rfl, δ2, e, δ3, e2, h⟩ := h
  exact ⟨.nx, δ3, by dsimp only; rw [e]; dsimp only; rw [e2], h⟩)
theorem in_rows (r : List Int) (Fs : List (List Int)) : inD (rowT r) (.list (Fs.map rowT)) = some (.bool (decide (r ∈ Fs))) := by
  unfold inD
  dsimp only
  rw [if_pos ⟨(flat_row (r := r)).shaped (by omega), (flat_rows (rows := Fs)).shaped (by omega)⟩]
  refine congrArg (fun b => some (PyData.bool b)) ?_
  rw [Bool.eq_iff_iff, List.any_eq_true, decide_eq_true_eq]
  constructor
  · rintro ⟨d, hd, h⟩
    obtain ⟨f, hf, rfl⟩ := List.mem_map.mp hd
    have : f = r := by simpa [rowT, PyData.eqv, eqv_ints] using h
    rw [← this]; exact hf
  · intro h
    exact ⟨rowT r, List.mem_map.mpr ⟨r, h, rfl⟩, by simp [rowT, PyData.eqv, eqv_ints]⟩
theorem nin_rows (r : List Int) (Fs : List (List Int)) : ninD (rowT r) (.list (Fs.map rowT)) = some (.bool (!decide (r ∈ Fs))) := by
  have h := in_rows r Fs
  unfold inD at h
  unfold ninD
  dsimp only at h ⊢
  rw [if_pos ⟨(flat_row (r := r)).shaped (by omega), (flat_rows (rows := Fs)).shaped (by omega)⟩] at h ⊢
  have h2 : ((Fs.map rowT).any fun z => PyData.eqv z (rowT r)) = decide (r ∈ Fs) := by
    injection h with h
    injection h
  rw [h2]
section
variable {p : Nat} [NeZero p] [Fd (Fin p)]
theorem cz_p : cz (F := Fin p) (p : Int) = 0 := by
  rw [← cz_zero, cz_eq (p := p)]
  simp
theorem sp_rev (V : List (List Int)) (x : Vc (Fin p)) : Sp (vs p (V.reverse ++ V)) x ↔ Sp (vs p V) x := by
  constructor
  · refine Sp.mono fun v hv => ?_
    obtain ⟨r, hr, rfl⟩ := List.mem_map.mp hv
    refine .mem (List.mem_map.mpr ⟨r, ?_, rfl⟩)
    simpa using hr
  · refine Sp.mono fun v hv => ?_
    obtain ⟨r, hr, rfl⟩ := List.mem_map.mp hv
    exact .mem (List.mem_map.mpr ⟨r, List.mem_append.mpr (.inr hr), rfl⟩)
theorem lead_of {w : Nat} {B : List (List Int)} {l : List Nat} (mt : Mt p w B) (rf : Rf (vs p B) l) {i : Nat} (h : i < l.length) (hB : i < B.length) : ld B[i] = (l[i] : Int) := by
  have h1 : ldN B[i] = some l[i] := (ldN_vc (p := p) (mt _ (List.getElem_mem hB))).mpr (by
    have o1 := rf.one i h
    rw [row_vs B i hB] at o1
    refine ⟨by rw [o1]; exact Fd.one, fun k hk => ?_⟩
    have := rf.low i h k hk
    rwa [row_vs B i hB] at this)
  unfold ld
  rw [h1]
theorem leads_of {w : Nat} {B : List (List Int)} {l : List Nat} (mt : Mt p w B) (rf : Rf (vs p B) l) : B.map ld = l.map fun k : Nat => (k : Int) := by
  have ll : l.length = B.length := by have := rf.len; simpa using this
  refine List.ext_getElem (by simp [ll]) fun i h1 h2 => ?_
  rw [List.getElem_map, List.getElem_map]
  exact lead_of mt rf (by simpa using h2) (by simpa using h1)
theorem fm_at {x k : Int} (h0 : 0 ≤ x) (h1 : x < k) : ninRD (.int x) (.int k) = some (.bool false) := by
  show some (PyData.bool (!decide (0 ≤ x ∧ x < k))) = _
  rw [decide_eq_true ⟨h0, h1⟩]
  rfl
theorem right_eq (pr : Pr p) (h2 : 1 < p) {m w : Nat} {N : Int} {os os1 : List PyData} (hm : m ≤ 5) (hw : w ≤ 5) (bm : p ^ m < 64)
    (e0 : g__law_drawn_shape [.ow true os] = some (.ok (.tuple [.int (p : Int), .int (m : Int), .int (w : Int)]), [.ow true os1])) (t : Tin N os1) (hN : 0 ≤ N) (hN2 : N ≤ 1000) : ∃ o, g__law_right [.ow true os] = some (.ok (.bool true), o) := by
  have pp : 0 < (p : Int) := by have := pr.pos; omega
  have p0 : (p : Int) ≠ 0 := by omega
  have plt : (p : Int) < 1000 := by have := pr.lt; omega
  have hdp : divOk (p : Int) = true := by unfold divOk; simp only [Bool.and_eq_true, decide_eq_true_eq]; omega
  obtain ⟨V, os2, lV, mtV, t2, eV⟩ := vectors_eq (p := (p : Int)) (m := m) (n := w) pp plt (by omega) (by omega) hN (by omega) t
  subst lV
  have mtV : Mt p w V := mtV
  obtain ⟨G, eG, ndG, ascG, lenG, hG⟩ := sums_eq pr (a := .tuple (V.map rowT)) rfl (rows_T V) mtV (by omega) (by omega) (by omega)
  obtain ⟨B, l, eB, bs⟩ := basis_eq pr (a := .tuple (V.map rowT)) rfl (rows_T V) mtV (by omega) (by omega)
  have eL := law_basis_eq pr h2 (a := .tuple (V.map rowT)) rfl (rows_T V) mtV (by omega) bm (by omega) bs.mt bs.rf bs.sp
  have few := bs.few
  have ll : l.length = B.length := by have := bs.rf.len; simpa using this
  have eR : g_rank [.fz (.int (p : Int)), .fz (.tuple (V.map rowT))] = some (.ok (.int ((B.length : Nat) : Int)), [.fz (.int (p : Int)), .fz (.tuple (V.map rowT))]) := by
    obtain ⟨C, k, e, bs2⟩ := rank_eq pr (a := .tuple (V.map rowT)) rfl (rows_T V) mtV (by omega) (by omega)
    have : C = B := vs_inj bs2.mt bs.mt (bs2.rf.uniq bs.rf fun x => by rw [bs2.sp, bs.sp]).1
    rw [this] at e
    exact e
  have eM : g_members [.fz (.int (p : Int)), .fz (.tuple (V.map rowT)), .fz (.int (w : Int))] = some (.ok (.tuple (G.map rowT)), [.fz (.int (p : Int)), .fz (.tuple (V.map rowT)), .fz (.int (w : Int))]) := by
    obtain ⟨C, e, asc, hC⟩ := members_eq pr (a := .tuple (V.map rowT)) rfl (rows_T V) mtV (by omega) (by omega) (by omega)
    have : C = G := asc_unique asc ascG fun r => by rw [hC, hG]
    rw [this] at e
    exact e
  have mtVV : Mt p w (V.reverse ++ V) := fun r hr => mtV r (by simpa using hr)
  have eVV := basis_val (n := w) (rows := V) (rows' := V.reverse ++ V) pr (a := .tuple ((V.reverse ++ V).map rowT)) rfl (rows_T _) mtVV (by simp; omega) (by omega) bs (sp_rev V)
  have hlen2 : (V.map rowT).reverse ++ V.map rowT = (V.reverse ++ V).map rowT := by rw [List.map_append, List.map_reverse]
  suffices H : Gd B__law_right [.ow true os, .un, .un, .un, .un, .un, .un, .un, .un, .un, .un, .un, .un, .un, .un] fun fl δ' => ∃ o, fl = .rt (.bool true) ∧ keepO [.ow true os] δ' = some o by
    obtain ⟨fl, δ', e, o, h1, h2⟩ := H
    refine ⟨o, ?_⟩
    walk_at "w_run"
    exact ⟨fl, δ', e, h1, h2⟩
  unfold B__law_right
  walk_at "wp"
  refine w_defO .z ?_
  walk_at "wp"
  refine ⟨_, _, _, _, _, _, _, .z, e0, .z, ?_⟩
  walk_at "wp"
  refine w_defO .z ?_
  walk_at "wp"
  refine ⟨_, _, _, _, _, _, _, .z, eV, .z, ?_⟩
  walk_at "wp"
  refine w_par2 ?_
  walk_at "wp"
  refine ⟨_, _, eG, ?_⟩
  walk_at "wp"
  refine ⟨_, _, eL, ?_⟩
  walk_at "wp"
  refine ⟨_, _, rfl, ?_⟩
  walk_at "wp"
  refine ⟨_, _, eB, ?_⟩
  walk_at "wp"
  refine ⟨_, _, eR, ?_⟩
  walk_at "wp"
  refine ⟨_, _, eM, ?_⟩
  walk_at "wp"
  unfold xRevT
  walk_at "wp"
  refine w_lif rfl ?_
  walk_at "wp"
  refine w_lif (o_addT (by simp; omega)) ?_
  rw [hlen2]
  walk_at "wp"
  refine ⟨_, _, eVV, ?_⟩
  walk_at "wp"
  refine w_lif (len_seq (a := .tuple (B.map rowT)) (ds := B.map rowT) rfl) ?_
  rw [List.length_map]
  walk_at "wp"
  refine w_lif (a := .tuple (G.map rowT)) rfl ?_
  walk_at "wp"
  have sm4 : Sm 3 (.list [.tuple (B.map rowT), .int ((B.length : Nat) : Int), .tuple (G.map rowT), .tuple (B.map rowT)]) := .lst (by simp) fun d hd => by
    simp only [List.mem_cons, List.not_mem_nil, or_false] at hd
    have hBs : Sm 2 (.tuple (B.map rowT)) := .tup (by simp; omega) fun d hd => by
      obtain ⟨r, hr, rfl⟩ := List.mem_map.mp hd
      exact sm_row r (by rw [(bs.mt r hr).len]; omega)
    rcases hd with rfl | rfl | rfl | rfl
    · exact hBs
    · exact .int _
    · exact .tup (by simp; omega) fun d hd => by
        obtain ⟨r, hr, rfl⟩ := List.mem_map.mp hd
        exact sm_row r (by rw [((hG r).mp hr).1.len]; omega)
    · exact hBs
  refine ⟨_, _, same_eq sm4 8 (by omega), ?_⟩
  refine w_lif (a := true) rfl ?_
  refine w_ie ?_
  walk_at "wp"
  refine w_lif rfl ?_
  have q := comp_fun (is := [8]) (set := sName 8) (el := xDef g__law_lead (bnd (xVar 8) fun d => bnd (PD.ret []) fun ds => PD.ret (d :: ds))) (ds := B.map rowT) (δ := [.ow true os2, .fz (.int p), .fz (.int ((V.length : Nat) : Int)), .fz (.int (w : Int)), .fz (.tuple (V.map rowT)), .fz (.list (G.map rowT)), .fz (.tuple (B.map rowT)), .fz (.list [.tuple (B.map rowT), .int ((B.length : Nat) : Int), .tuple (G.map rowT), .tuple (B.map rowT)]), .un, .un, .un, .un, .un, .un, .un]) (fun d => .int (ld (unrow d))) (by simp; omega) fun d hd => by
    obtain ⟨r, hr, rfl⟩ := List.mem_map.mp hd
    walk_at "wp"
    refine ⟨_, _, ld_val (by rw [(bs.mt r hr).len]; omega), ?_⟩
    rw [unrow_row]
    exact ⟨rfl, rfl, rfl⟩
  have e1 : (B.map rowT).map (fun d => PyData.int (ld (unrow d))) = (l.map fun k : Nat => (k : Int)).map .int := by
    rw [← leads_of bs.mt bs.rf, List.map_map, List.map_map]
    refine List.map_congr_left fun r _ => ?_
    show PyData.int (ld (unrow (rowT r))) = PyData.int (ld r)
    rw [unrow_row]
  rw [e1] at q
  refine ⟨rfl, _, _, q, ?_⟩
  walk_at "wp"
  show Gs (sName 9) _ [.ow true os2, .fz (.int p), .fz (.int ((V.length : Nat) : Int)), .fz (.int (w : Int)), .fz (.tuple (V.map rowT)), .fz (.list (G.map rowT)), .fz (.tuple (B.map rowT)), .fz (.list [.tuple (B.map rowT), .int ((B.length : Nat) : Int), .tuple (G.map rowT), .tuple (B.map rowT)]), .un, .un, .un, .un, .un, .un, .un] _
  walk_at "wp"
  refine w_lif (range_take (j := 3) (by omega) (by omega)) ?_
  refine w_loop (fun j δ => ∃ (os3 : List PyData) (c8 c10 c11 c12 : Cell), δ = [.ow true os3, .fz (.int p), .fz (.int ((V.length : Nat) : Int)), .fz (.int (w : Int)), .fz (.tuple (V.map rowT)), .fz (.list (G.map rowT)), .fz (.tuple (B.map rowT)), .fz (.list [.tuple (B.map rowT), .int ((B.length : Nat) : Int), .tuple (G.map rowT), .tuple (B.map rowT)]), c8, .fz (rowL (l.map fun k : Nat => (k : Int))), c10, c11, c12, .un, .un] ∧ c8.free = true ∧ c10.free = true ∧ c11.free = true ∧ c12.free = true ∧ Tin (N + 50 + 10 * (j : Int)) os3) ⟨os2, .un, .un, .un, .un, rfl, rfl, rfl, rfl, rfl, t2.mono (by omega)⟩ (fun j d e δ hi => ?_) fun δ' hi => ?_
  · obtain ⟨os3, c8, c10, c11, c12, rfl, f8, f10, f11, f12, t3⟩ := hi
    have hj : j < 3 := by
      obtain ⟨h, _⟩ := List.getElem?_eq_some_iff.mp e
      rw [rangeL_length] at h
      simpa using h
    refine w_name (by walk_at "w_at") f10 (by walk_at "w_put") ?_
    walk_at "wp"
    refine w_lif (range_take (by omega) (by omega)) ?_
    obtain ⟨x, os4, a1, a2, t4, q4⟩ := comp_take (b := true) (k := p) (i := 13) (r := [.fz (.int p), .fz (.int ((V.length : Nat) : Int)), .fz (.int (w : Int)), .fz (.tuple (V.map rowT)), .fz (.list (G.map rowT)), .fz (.tuple (B.map rowT)), .fz (.list [.tuple (B.map rowT), .int ((B.length : Nat) : Int), .tuple (G.map rowT), .tuple (B.map rowT)]), c8, .fz (rowL (l.map fun k : Nat => (k : Int))), .fz d, c11, c12, .un, .un]) (fs := (bnd (xVar 1) fun d => bnd (PD.ret []) fun ds => PD.ret (d :: ds))) (fun y => [.fz (.int p), .fz (.int ((V.length : Nat) : Int)), .fz (.int (w : Int)), .fz (.tuple (V.map rowT)), .fz (.list (G.map rowT)), .fz (.tuple (B.map rowT)), .fz (.list [.tuple (B.map rowT), .int ((B.length : Nat) : Int), .tuple (G.map rowT), .tuple (B.map rowT)]), c8, .fz (rowL (l.map fun k : Nat => (k : Int))), .fz d, c11, c12, .fz y, .un]) (fun _ _ => rfl) (fun _ _ => rfl) (fun _ _ => rfl) (fun _ _ => by walk_at "wp"; exact ⟨rfl, rfl⟩) pp hdp t3 (by omega) (ds := rangeL 0 ((w : Nat) : Int).toNat) (by rw [rangeL_length]; omega)
    rw [rangeL_length] at a1 t4
    have hx : Rw p w x := ⟨by simpa using a1, a2⟩
    refine ⟨rfl, _, _, q4, ?_⟩
    walk_at "wp"
    refine w_lif rfl ?_
    show Gs (sName 8) _ [.ow true os4, .fz (.int p), .fz (.int ((V.length : Nat) : Int)), .fz (.int (w : Int)), .fz (.tuple (V.map rowT)), .fz (.list (G.map rowT)), .fz (.tuple (B.map rowT)), .fz (.list [.tuple (B.map rowT), .int ((B.length : Nat) : Int), .tuple (G.map rowT), .tuple (B.map rowT)]), c8, .fz (rowL (l.map fun k : Nat => (k : Int))), .fz d, c11, c12, .un, .un] _
    walk_at "wp"
    obtain ⟨y, C, k, ey, hy, bs3, hs, hz⟩ := rest_of_eq pr (a := .tuple (V.map rowT)) (b := rowT x) rfl hx rfl (rows_T V) mtV (by omega) (by omega)
    have hkl := (bs3.rf.uniq bs.rf fun z => by rw [bs3.sp, bs.sp]).2.symm
    subst hkl
    refine ⟨_, _, ey, ?_⟩
    walk_at "wp"
    refine w_lif (a := .bool true) rfl ?_
    refine w_lif (a := true) rfl ?_
    refine w_ie ?_
    walk_at "wp"
    refine w_lif (len_seq (a := rowT y) (ds := y.map .int) rfl) ?_
    walk_at "wp"
    refine w_lif (o_neI _ _) ?_
    rw [List.length_map, hy.len, show decide ((w : Int) ≠ (w : Int)) = false from decide_eq_false (by simp)]
    refine w_lif (a := false) rfl ?_
    walk_at "wp"
    refine w_lif rfl ?_
    have q5 := comp_ff (is := [14]) (set := sName 14) (t := xBool (xBin ninRD (xVar 14) (xVar 1))) (el := xVar 14) (ds := y.map .int) (acc := []) (δ := [.ow true os4, .fz (.int p), .fz (.int ((V.length : Nat) : Int)), .fz (.int (w : Int)), .fz (.tuple (V.map rowT)), .fz (.list (G.map rowT)), .fz (.tuple (B.map rowT)), .fz (.list [.tuple (B.map rowT), .int ((B.length : Nat) : Int), .tuple (G.map rowT), .tuple (B.map rowT)]), .fz (rowT x), .fz (rowL (l.map fun k : Nat => (k : Int))), .fz d, .fz (rowT y), c12, .un, .un]) (fun _ => false) id (by simp [hy.len]; omega) fun d hd => by
      obtain ⟨v, hv, rfl⟩ := List.mem_map.mp hd
      obtain ⟨v0, v1⟩ := hy.res v hv
      walk_at "wp"
      refine w_lif (fm_at v0 v1) ?_
      refine w_lif rfl ?_
      exact ⟨rfl, (fun h => by cases h), fun _ => ⟨rfl, rfl⟩⟩
    rw [List.filter_eq_nil_iff.mpr (fun _ _ h => by cases h), List.map_nil, List.append_nil] at q5
    refine ⟨rfl, _, _, q5, ?_⟩
    walk_at "wp"
    refine w_lif (neD_nil (n := 2) (flat_rows (rows := [])) (by omega)) ?_
    refine w_lif (a := false) rfl ?_
    refine w_ie ?_
    walk_at "wp"
    show Gd (xVar 1) [.ow true os4, .fz (.int p), .fz (.int ((V.length : Nat) : Int)), .fz (.int (w : Int)), .fz (.tuple (V.map rowT)), .fz (.list (G.map rowT)), .fz (.tuple (B.map rowT)), .fz (.list [.tuple (B.map rowT), .int ((B.length : Nat) : Int), .tuple (G.map rowT), .tuple (B.map rowT)]), .fz (rowT x), .fz (rowL (l.map fun k : Nat => (k : Int))), .fz d, .fz (rowT y), c12, .un, .un] _
    walk_at "wp"
    refine w_lif (o_subI _ _) ?_
    walk_at "wp"
    have hplus := plus_eq (p := p) (f := (p : Int) - 1) (a := rowT x) (b := rowT y) (l := x) (m := y) p0 rfl rfl (by rw [hx.len]; omega) (by have := pr.lt; unfold small64; simp only [Bool.and_eq_true, decide_eq_true_eq]; omega)
    refine ⟨_, _, hplus, ?_⟩
    walk_at "wp"
    have hin : lin p x y ((p : Int) - 1) ∈ G := (hG _).mpr ⟨⟨by rw [lin_length, hx.len, hy.len]; omega, lin_res pp⟩, hs.congr fun k => by
      rw [vc_lin pr.pos (by rw [hx.len, hy.len]), cz_sub, cz_p, cz_one]
      grind⟩
    refine w_lif (nin_rows _ _) ?_
    rw [decide_eq_true hin]
    refine w_lif (a := false) rfl ?_
    refine w_ie ?_
    walk_at "wp"
    refine w_lif rfl ?_
    have q6 := comp_ff (is := [13]) (set := sName 13) (t := xBool (xBin neD (xBin ixD (xVar 11) (xVar 13)) (PD.ret (.int 0)))) (el := xBin ixD (xVar 11) (xVar 13)) (ds := (l.map fun k : Nat => (k : Int)).map .int) (acc := []) (δ := [.ow true os4, .fz (.int p), .fz (.int ((V.length : Nat) : Int)), .fz (.int (w : Int)), .fz (.tuple (V.map rowT)), .fz (.list (G.map rowT)), .fz (.tuple (B.map rowT)), .fz (.list [.tuple (B.map rowT), .int ((B.length : Nat) : Int), .tuple (G.map rowT), .tuple (B.map rowT)]), .fz (rowT x), .fz (rowL (l.map fun k : Nat => (k : Int))), .fz d, .fz (rowT y), c12, .un, .un]) (fun _ => false) id (by simp; omega) fun d hd => by
      obtain ⟨v, hv, rfl⟩ := List.mem_map.mp hd
      obtain ⟨k, hk, rfl⟩ := List.mem_map.mp hv
      obtain ⟨i, hi, rfl⟩ := List.getElem_of_mem hk
      have hlt : l[i] < y.length := by rw [hy.len]; exact rf_lt bs.mt bs.rf hi
      have h0 : y[l[i]] = 0 := by
        have := hz i hi
        rw [vc_at hlt] at this
        obtain ⟨q0, q1⟩ := hy.res _ (List.getElem_mem hlt)
        exact (cz_ne q0 q1).mp this
      walk_at "wp"
      refine w_lif (ix_intsT hlt) ?_
      walk_at "wp"
      refine w_lif (o_neI _ _) ?_
      rw [h0, show decide ((0 : Int) ≠ 0) = false from rfl]
      refine w_lif (a := false) rfl ?_
      exact ⟨rfl, (fun h => by cases h), fun _ => ⟨rfl, rfl⟩⟩
    rw [List.filter_eq_nil_iff.mpr (fun _ _ h => by cases h), List.map_nil, List.append_nil] at q6
    refine ⟨rfl, _, _, q6, ?_⟩
    walk_at "wp"
    refine w_lif (neD_nil (n := 2) (flat_rows (rows := [])) (by omega)) ?_
    refine w_lif (a := false) rfl ?_
    refine w_ie ?_
    walk_at "wp"
    show Gd (xVar 8) [.ow true os4, .fz (.int p), .fz (.int ((V.length : Nat) : Int)), .fz (.int (w : Int)), .fz (.tuple (V.map rowT)), .fz (.list (G.map rowT)), .fz (.tuple (B.map rowT)), .fz (.list [.tuple (B.map rowT), .int ((B.length : Nat) : Int), .tuple (G.map rowT), .tuple (B.map rowT)]), .fz (rowT x), .fz (rowL (l.map fun k : Nat => (k : Int))), .fz d, .fz (rowT y), c12, .un, .un] _
    walk_at "wp"
    refine ⟨_, rfl, ?_⟩
    refine w_lif rfl ?_
    rw [show cutD (V.map rowT) none (some 1) = (V.map rowT).take 1 from cut_to 1]
    refine w_lif (o_addT (by simp; omega)) ?_
    rw [show [rowT x] ++ (V.map rowT).take 1 = ([x] ++ V.take 1).map rowT by rw [List.map_append, List.map_take]; rfl]
    walk_at "wp"
    have mtS : Mt p w ([x] ++ V.take 1) := fun r hr => by
      rcases List.mem_append.mp hr with h | h
      · rw [List.mem_singleton.mp h]; exact hx
      · exact mtV r (List.mem_of_mem_take h)
    obtain ⟨r1, ew, hw1⟩ := within_eq pr (a := .tuple (([x] ++ V.take 1).map rowT)) (b := .tuple (V.map rowT)) (n := w) rfl (rows_T _) mtS (by simp; omega) rfl (rows_T V) mtV (by omega) (by omega)
    have hr1 : r1 = decide (x ∈ G) := by
      rw [Bool.eq_iff_iff, hw1, decide_eq_true_eq, hG]
      constructor
      · intro h; exact ⟨hx, h x (by simp)⟩
      · rintro ⟨_, h⟩ r hr
        rcases List.mem_append.mp hr with g | g
        · rw [List.mem_singleton.mp g]; exact h
        · exact .mem (List.mem_map.mpr ⟨r, List.mem_of_mem_take g, rfl⟩)
    refine ⟨_, _, ew, ?_⟩
    walk_at "wp"
    refine w_lif (in_rows _ _) ?_
    rw [← hr1]
    walk_at "wp"
    refine ⟨_, _, same_eq (n := 0) (.bl r1) 8 (by omega), ?_⟩
    refine w_lif (a := true) rfl ?_
    refine w_ie ?_
    walk_at "wp"
    exact ⟨rfl, os4, .fz (rowT x), .fz d, .fz (rowT y), _, rfl, rfl, rfl, rfl, rfl, t4.mono (by omega)⟩
  · rw [rangeL_length] at hi
    obtain ⟨os3, c8, c10, c11, c12, rfl, f8, f10, f11, f12, t3⟩ := hi
    walk_at "wp"
    obtain ⟨r2, ew2, hw2⟩ := within_eq pr (a := .tuple (V.map rowT)) (b := .tuple (B.map rowT)) (n := w) rfl (rows_T V) mtV (by omega) rfl (rows_T B) bs.mt (by omega) (by omega)
    refine ⟨_, _, ew2, ?_⟩
    walk_at "wp"
    have hr2 : r2 = true := hw2.mpr fun x hx => (bs.sp _).mpr (.mem (List.mem_map.mpr ⟨x, hx, rfl⟩))
    subst hr2
    refine ⟨_, _, same_eq (n := 0) (.bl true) 8 (by omega), ?_⟩
    exact ⟨_, rfl, rfl⟩
end
end K03
end

section
set_option linter.all false
set_option maxRecDepth 100000
set_option maxHeartbeats 2000000

namespace K03
open PySem PD LA
theorem right_all {os : List PyData} {N : Int} (t : Tin N os) (h0 : 0 ≤ N) (h1 : N < 900) : ∃ o, g__law_right [.ow true os] = some (.ok (.bool true), o) := by
  obtain ⟨p, m, w, os', e, t', h⟩ := shape_eq t h0 (by omega)
  have pw : ∀ q k j : Nat, 1 < q → k ≤ j → q ^ j < 64 → q ^ k < 64 := fun q k j h1 h2 h3 => Nat.lt_of_le_of_lt (Nat.pow_le_pow_right (by omega) h2) h3
  rcases h with ⟨rfl, hm, hw⟩ | ⟨rfl, hm, hw⟩ | ⟨rfl, hm, hw⟩
  · exact right_eq (p := 2) pr2 (by omega) hm hw (pw 2 m 5 (by omega) hm (by decide)) e t' (by omega) (by omega)
  · exact right_eq (p := 3) pr3 (by omega) (by omega) (by omega) (pw 3 m 3 (by omega) hm (by decide)) e t' (by omega) (by omega)
  · exact right_eq (p := 5) pr5 (by omega) (by omega) (by omega) (pw 5 m 2 (by omega) hm (by decide)) e t' (by omega) (by omega)
theorem w_runE {m : Nat} {g : MS} {cells : Sg} {d : PyData} (h : Gd g (cells ++ List.replicate (m - cells.length) .un) fun fl δ' => fl = .rt d ∧ cells.length ≤ δ'.length) : ∃ o, runD m g cells = some (.ok d, o) := by
  obtain ⟨fl, δ', e, rfl, k⟩ := h
  unfold runD keepO
  rw [e]
  dsimp only
  rw [if_pos k]
  exact ⟨_, rfl⟩
theorem cut_take {ns : List Int} : cutD (ns.map PyData.int) none (some 2) = (ns.take 2).map .int := by
  unfold cutD HT.sIx
  simp [List.map_take]
theorem cut_drop {ns : List Int} : ∃ zs : List Int, cutD (ns.map PyData.int) (some 2) (some 63) = zs.map .int ∧ zs.length ≤ 63 ∧ (ns.length ≤ 2 → zs = []) := by
  refine ⟨(ns.drop (min 2 ns.length)).take (min 63 ns.length - min 2 ns.length), ?_, ?_, fun h => ?_⟩
  · unfold cutD HT.sIx
    simp [List.map_take]
  · simp
    omega
  · simp
    omega
theorem w_runFE {m : Nat} {g : MS} {cells : Sg} {P : List PyData → Prop} (h : Gd g (cells ++ List.replicate (m - cells.length) .un) fun fl δ' => ∃ ds, fl = .rf ds ∧ P ds ∧ cells.length ≤ δ'.length) : ∃ ds o, runF m g cells = some (.ok ds, o) ∧ P ds := by
  obtain ⟨fl, δ', e, ds, rfl, p, k⟩ := h
  unfold runF keepO
  rw [e]
  dsimp only
  rw [if_pos k]
  exact ⟨_, _, rfl, p⟩
theorem box_eq (cs : List Int) (i : Nat) (hi : i < cs.length) (h2 : cs.length ≤ 2) : ∃ os o, g__law_box [.fz (.list (cs.map .int)), .fz (.int i)] = some (.ok os, o) ∧ Tin 0 os := by
  have hx : ixD (.list (cs.map .int)) (.int i) = some (.int cs[i]) := by
    show L2.atI (cs.map PyData.int) (i : Int) = _
    unfold L2.atI L2.ixN
    rw [if_pos (by omega), if_pos (by simp; omega)]
    simp [hi]
  have hp : powD (.int 10) (.int 18) = some (.int 1000000000000000000) := by
    unfold powD intsD powOk
    simp
  have hs : ∀ b : Bool, small64 (if b = true then 1 else 0) = true := by decide
  refine w_runFE (P := Tin 0) ?_
  simp only [List.length_cons, List.length_nil, List.replicate, List.cons_append, List.nil_append, Nat.reduceAdd, Nat.reduceSub]
  unfold B__law_box
  walk_at "wp"
  refine w_lif rfl ?_
  walk_at "wp"
  refine w_lif (o_lt _ _) ?_
  refine w_lif rfl ?_
  rw [decide_eq_true (by simp; omega)]
  walk_at "wp"
  refine w_lif hx ?_
  walk_at "wp"
  refine w_lif rfl ?_
  walk_at "wp"
  refine w_lif rfl ?_
  walk_at "wp"
  refine w_lif hp ?_
  refine w_lif (o_ge _ _) ?_
  walk_at "wp"
  refine w_lif rfl ?_
  refine w_lif (o_mul ?_) ?_
  · unfold mulOk
    rw [hs, Bool.or_true]
  walk_at "wp"
  refine w_lif rfl ?_
  walk_at "wp"
  refine w_lif (o_mod (by decide)) ?_
  walk_at "wp"
  refine w_lif (o_mul ?_) ?_
  · unfold mulOk
    rw [show small64 39373 = true by decide]
    rfl
  refine w_lif (o_add _ _) ?_
  walk_at "wp"
  refine w_lif (o_add _ _) ?_
  walk_at "wp"
  exact ⟨_, rfl, ⟨_, _, 0, rfl, by omega, by omega⟩, by simp⟩
def CI (s : PyData) (δ : Sg) : Prop := ∃ (cs : List Int) (c3 c4 c5 : Cell), cs.length = 2 ∧ c3.free = true ∧ c4.free = true ∧ c5.free = true ∧ δ = [.fz s, .fz (.int 2), .ow false (cs.map .int), c3, c4, c5]
theorem cells_eq (ns : List Int) (h : ns.length ≤ 63) : ∃ (cs : List Int), 0 < cs.length ∧ cs.length ≤ 2 ∧ ∃ o, g__law_cells [.fz (.list (ns.map .int)), .fz (.int 2)] = some (.ok (.list (cs.map .int)), o) := by
  obtain ⟨zs, hz1, hz2, hz3⟩ := cut_drop (ns := ns)
  suffices H : ∃ cs : List Int, 0 < cs.length ∧ cs.length ≤ 2 ∧ Gd B__law_cells [.fz (.list (ns.map .int)), .fz (.int 2), .un, .un, .un, .un] (fun fl δ' => fl = .rt (.list (cs.map .int)) ∧ 2 ≤ δ'.length) by
    obtain ⟨cs, h1, h2, H⟩ := H
    exact ⟨cs, h1, h2, w_runE H⟩
  by_cases hn : ns.length < 2
  · have hz : zs = [] := hz3 (by omega)
    refine ⟨if ns = [] then [0] else ns, ?_, ?_, ?_⟩
    · split
      · simp
      · rename_i e; exact List.length_pos_iff.mpr e
    · split
      · simp
      · omega
    · unfold B__law_cells
      walk_at "wp"
      refine ⟨_, rfl, ?_⟩
      refine w_lif rfl ?_
      walk_at "wp"
      rw [cut_take]
      refine w_lif (o_listL (by simp; omega)) ?_
      have ht : ns.take 2 = ns := List.take_of_length_le (by omega)
      rw [ht]
      refine Gd.imp (Q := fun ds δ => ds = (if ns = [] then [0] else ns).map PyData.int ∧ δ = [.fz (.list (ns.map .int)), .fz (.int 2), .un, .un, .un, .un]) ?_ ?_
      · refine w_by (fun h => ?_) fun h => ?_
        · walk_at "wp"
          have : ns = [] := by simpa using h
          simp [this]
        · walk_at "wp"
          have : ns ≠ [] := by rintro rfl; simp at h
          simp [this]
      rintro _ _ ⟨rfl, rfl⟩
      refine ⟨_, _, .s (.s .z), rfl, .s (.s .z), ?_⟩
      walk_at "wp"
      refine ⟨_, rfl, ?_⟩
      walk_at "wp"
      refine ⟨_, rfl, ?_⟩
      refine w_lif rfl ?_
      walk_at "wp"
      rw [hz1, hz]
      refine w_lif rfl ?_
      refine w_eq rfl ?_
      walk_at "wp"
      refine w_varO (.s (.s .z)) (.s (.s .z)) ?_
      exact ⟨rfl, by simp⟩
  · suffices H : Gd B__law_cells [.fz (.list (ns.map .int)), .fz (.int 2), .un, .un, .un, .un] (fun fl δ' => ∃ cs : List Int, cs.length = 2 ∧ fl = .rt (.list (cs.map .int)) ∧ 2 ≤ δ'.length) by
      obtain ⟨fl, δ', e, cs, h1, h2, h3⟩ := H
      exact ⟨cs, by omega, by omega, fl, δ', e, h2, h3⟩
    unfold B__law_cells
    walk_at "wp"
    refine ⟨_, rfl, ?_⟩
    refine w_lif rfl ?_
    walk_at "wp"
    rw [cut_take]
    refine w_lif (o_listL (by simp; omega)) ?_
    have hl : (ns.take 2).length = 2 := by simp; omega
    have he : ((ns.take 2).map PyData.int).isEmpty = false := by
      cases e : ns.take 2 with
      | nil => rw [e] at hl; cases hl
      | cons => rfl
    rw [he]
    walk_at "wp"
    refine ⟨_, _, .s (.s .z), rfl, .s (.s .z), ?_⟩
    walk_at "wp"
    refine ⟨_, rfl, ?_⟩
    walk_at "wp"
    refine ⟨_, rfl, ?_⟩
    refine w_lif rfl ?_
    walk_at "wp"
    rw [hz1]
    refine w_lif rfl ?_
    refine w_loop (fun _ δ => CI (.list (ns.map .int)) δ) ⟨ns.take 2, .un, .un, .un, hl, rfl, rfl, rfl, rfl⟩ (fun j d hj δ hi => ?_) ?_
    · obtain ⟨cs, c3, c4, c5, hc, f3, f4, f5, rfl⟩ := hi
      obtain ⟨v, rfl⟩ : ∃ v : Int, d = .tuple [.int (j : Nat), .int v] := by
        unfold enumL at hj
        rw [List.getElem?_map, List.getElem?_zipIdx, List.getElem?_map] at hj
        cases e : zs[j]? with
        | none => rw [e] at hj; cases hj
        | some v => rw [e] at hj; cases hj; exact ⟨v, by simp⟩
      have hjl : j < 63 := by
        obtain ⟨h, _⟩ := List.getElem?_eq_some_iff.mp hj
        simp [enumL] at h
        omega
      have b0 : 0 ≤ (j : Int).fmod 2 := Int.fmod_nonneg_of_pos _ (by omega)
      have b1 : (j : Int).fmod 2 < 2 := Int.fmod_lt_of_pos _ (by omega)
      have hix : ixD (.list (cs.map .int)) (.int ((j : Int).fmod 2)) = some (.int (cs[((j : Int).fmod 2).toNat]'(by omega))) := by
        show L2.atI (cs.map PyData.int) _ = _
        unfold L2.atI L2.ixN
        rw [if_pos b0, if_pos (by simp; omega)]
        have : ((j : Int).fmod 2).toNat < cs.length := by omega
        simp [this]
      walk_at "wp"
      refine w_lif rfl ?_
      walk_at "wp"
      refine w_lif (o_mod (by decide)) ?_
      walk_at "wp"
      refine w_sub ?_
      walk_at "wp"
      refine w_ixO (.s (.s .z)) ?_
      walk_at "wp"
      refine ⟨_, _, .s (.s .z), ?_⟩
      refine w_lif hix ?_
      walk_at "wp"
      refine w_lif (o_add _ _) ?_
      refine w_lif (o_mul ?_) ?_
      · unfold mulOk small64
        simp only [Bool.or_eq_true, Bool.and_eq_true, decide_eq_true_eq]
        right
        omega
      refine w_lif (o_add _ _) ?_
      refine ⟨_, _, .s (.s .z), ?_⟩
      walk_at "wp"
      refine ⟨_, _, (j : Int).fmod 2, ((j : Int).fmod 2).toNat, _, rfl, .s (.s .z), ?_, .s (.s .z), rfl, ?_⟩
      · unfold L2.ixN
        rw [if_pos b0, if_pos (by simp; omega)]
      · rw [← List.map_set]
        exact ⟨_, _, _, _, by simpa using hc, rfl, rfl, rfl, rfl⟩
    · rintro δ ⟨cs, c3, c4, c5, hc, f3, f4, f5, rfl⟩
      walk_at "wp"
      refine w_varO (.s (.s .z)) (.s (.s .z)) ?_
      exact ⟨cs, hc, rfl, by simp⟩
theorem hand_eq : ∃ o, g__law_by_hand_right [] = some (.ok (.bool true), o) := by
  have h := hand_true
  unfold okT at h
  split at h
  · rename_i o e
    exact ⟨o, e⟩
  · cases h
theorem law_true : ∀ ns : List Int, ns.length ≤ 63 → ∃ c, g_law [.fz (.list (ns.map .int))] = some (.ok (.bool true), c) := by
  intro ns h
  obtain ⟨cs, h1, h2, o, e⟩ := cells_eq ns h
  obtain ⟨oh, eh⟩ := hand_eq
  obtain ⟨ob0, eb0⟩ := brink_true
  refine w_runE ?_
  simp only [List.length_cons, List.length_nil, List.replicate, List.cons_append, List.nil_append, Nat.reduceAdd, Nat.reduceSub]
  unfold B_law
  walk_at "wp"
  refine ⟨_, _, eh, ?_⟩
  refine w_lif rfl ?_
  show Gd (cond false _ _) _ _
  walk_at "wp"
  refine ⟨_, _, e, ?_⟩
  walk_at "wp"
  refine w_lif (ix_ints (k := 0) h1) ?_
  walk_at "wp"
  refine w_lif (a := .int cs[0]) rfl ?_
  walk_at "wp"
  refine w_lif (o_mod (by decide)) ?_
  walk_at "wp"
  refine w_lif (o_eqI _ _) ?_
  refine w_lif rfl ?_
  refine Gd.imp (Q := fun b δ => b = false ∧ δ = [.fz (.list (ns.map .int)), .fz (.list (cs.map .int)), .un]) ?_ ?_
  · refine w_by (fun _ => ?_) fun _ => ?_
    · walk_at "wp"
      refine ⟨_, _, eb0, ?_⟩
      refine w_lif (a := true) rfl ?_
      exact ⟨rfl, rfl⟩
    · walk_at "wp"
      exact ⟨rfl, rfl⟩
  rintro _ _ ⟨rfl, rfl⟩
  walk_at "wp"
  refine w_lif rfl ?_
  walk_at "wp"
  refine w_lif (range_take (by omega) (by simp; omega)) ?_
  have q := comp_fun (is := [2]) (set := sName 2) (el := xDefT g__law_right (xDefF g__law_box (bnd (xVar 1) fun d => bnd (bnd (xVar 2) fun d => bnd (PD.ret []) fun ds => PD.ret (d :: ds)) fun ds => PD.ret (d :: ds)))) (ds := rangeL 0 (((cs.map PyData.int).length : Nat) : Int).toNat)
    (δ := [.fz (.list (ns.map .int)), .fz (.list (cs.map .int)), .un]) (fun _ => .bool ((fun _ => true) PyData.none)) (by rw [rangeL_length]; simp; omega) fun d hd => by
    obtain ⟨i, hi, rfl⟩ : ∃ i : Nat, i < cs.length ∧ d = .int i := by
      unfold rangeL at hd
      obtain ⟨i, hi, rfl⟩ := List.mem_map.mp hd
      have := List.mem_range.mp hi
      exact ⟨i, by simpa using this, by simp⟩
    obtain ⟨os, ob, eb, tb⟩ := box_eq cs i hi h2
    obtain ⟨orr, er⟩ := right_all tb (by omega) (by omega)
    walk_at "wp"
    refine ⟨_, _, eb, ?_⟩
    exact ⟨_, _, er, rfl, rfl, rfl⟩
  refine ⟨rfl, _, _, q, ?_⟩
  walk_at "wp"
  refine w_lif (all_map (f := fun _ => true)) ?_
  exact ⟨by simp, by simp [backD]⟩
end K03
end

section
set_option linter.all false
set_option maxRecDepth 100000
open PySem PySem.W PyProof.Rows
set_option maxHeartbeats 0 in
theorem PySem.Challenge.cw_anydlooks_k03_spaces_and_their_bases_holds : PySem.Challenge.rw_anydlooks_k03_spaces_and_their_bases.Holds := by
  w_on; o_law; k_head; (case hw => w_witness2)
  k_fill
  refine L2.walk_of (l := PySem.Challenge.rw_anydlooks_k03_spaces_and_their_bases) (n := 63) (k := 10) (x := "script") (CX := fun w => L2.CX PySem.Challenge.rw_anydlooks_k03_spaces_and_their_bases.prog w) (sp := ?sp) rfl (by decide) rfl ⟨rfl, by decide, by decide⟩ (fun w h Y => PySem.W.kIn_of Y) ?F ?S ?C
  case F =>
    intro w mg fa h KX G hmg
    refine' K03.all_mk KX G hmg ?a_power ?l_power ?c_power ?k_power ?a_all_rows ?l_all_rows ?c_all_rows ?k_all_rows ?a_inverse ?l_inverse ?c_inverse ?k_inverse ?a_row_by ?l_row_by ?c_row_by ?k_row_by ?a__scaled ?l__scaled ?c__scaled ?k__scaled ?a__less ?l__less ?c__less ?k__less ?a__echelon ?l__echelon ?c__echelon ?k__echelon ?a__width ?l__width ?c__width ?k__width ?a_basis ?l_basis ?c_basis ?k_basis ?a_rank ?l_rank ?c_rank ?k_rank ?a__reduced ?l__reduced ?c__reduced ?k__reduced ?a__lead ?l__lead ?c__lead ?k__lead ?a_rest_of ?l_rest_of ?c_rest_of ?k_rest_of ?a_is_within ?l_is_within ?c_is_within ?k_is_within ?a_members ?l_members ?c_members ?k_members ?a__law_box ?l__law_box ?c__law_box ?k__law_box ?a__law_take ?l__law_take ?c__law_take ?k__law_take ?a__law_cells ?l__law_cells ?c__law_cells ?k__law_cells ?a__law_of ?l__law_of ?c__law_of ?k__law_of ?a__law_lists ?l__law_lists ?c__law_lists ?k__law_lists ?a__law_same ?l__law_same ?c__law_same ?k__law_same ?a__law_plus ?l__law_plus ?c__law_plus ?k__law_plus ?a__law_unit ?l__law_unit ?c__law_unit ?k__law_unit ?a__law_tuples ?l__law_tuples ?c__law_tuples ?k__law_tuples ?a__law_mixed ?l__law_mixed ?c__law_mixed ?k__law_mixed ?a__law_sums ?l__law_sums ?c__law_sums ?k__law_sums ?a__law_lead ?l__law_lead ?c__law_lead ?k__law_lead ?a__law_basis ?l__law_basis ?c__law_basis ?k__law_basis ?a__law_drawn_vectors ?l__law_drawn_vectors ?c__law_drawn_vectors ?k__law_drawn_vectors ?a__law_drawn_shape ?l__law_drawn_shape ?c__law_drawn_shape ?k__law_drawn_shape ?a__law_heard ?l__law_heard ?c__law_heard ?k__law_heard ?a__law_by_hand_right ?l__law_by_hand_right ?c__law_by_hand_right ?k__law_by_hand_right ?a__law_brink_right ?l__law_brink_right ?c__law_brink_right ?k__law_brink_right ?a__law_right ?l__law_right ?c__law_right ?k__law_right ?a_law ?l_law ?c_law ?k_law ?xg_TooMany ?xq_TooMany ?xk_TooMany ?xb_TooMany ?xt_TooMany ?xc1_TooMany ?xc2_TooMany ?xc3_TooMany ?xc4_TooMany ?xc5_TooMany ?xc6_TooMany ?xc7_TooMany ?xs_TooMany ?xv_TooMany ?xg_Unfit ?xq_Unfit ?xk_Unfit ?xb_Unfit ?xt_Unfit ?xc1_Unfit ?xc2_Unfit ?xc3_Unfit ?xc4_Unfit ?xc5_Unfit ?xc6_Unfit ?xc7_Unfit ?xs_Unfit ?xv_Unfit ?z_ValueError ?z_abs ?z_all ?z_any ?z_bool ?z_enumerate ?z_int ?z_isinstance ?z_len ?z_list ?z_range ?z_set ?z_sorted ?z_str ?z_tuple ?z_zip
    (case a_power => k_is)
    (case l_power => k_is)
    (case c_power => k_is)
    (case k_power => k_is)
    (case a_all_rows => k_is)
    (case l_all_rows => k_is)
    (case c_all_rows => k_is)
    (case k_all_rows => k_is)
    (case a_inverse => k_is)
    (case l_inverse => k_is)
    (case c_inverse => k_is)
    (case k_inverse => k_is)
    (case a_row_by => k_is)
    (case l_row_by => k_is)
    (case c_row_by => k_is)
    (case k_row_by => k_is)
    (case a__scaled => k_is)
    (case l__scaled => k_is)
    (case c__scaled => k_is)
    (case k__scaled => k_is)
    (case a__less => k_is)
    (case l__less => k_is)
    (case c__less => k_is)
    (case k__less => k_is)
    (case a__echelon => k_is)
    (case l__echelon => k_is)
    (case c__echelon => k_is)
    (case k__echelon => k_is)
    (case a__width => k_is)
    (case l__width => k_is)
    (case c__width => k_is)
    (case k__width => k_is)
    (case a_basis => k_is)
    (case l_basis => k_is)
    (case c_basis => k_is)
    (case k_basis => k_is)
    (case a_rank => k_is)
    (case l_rank => k_is)
    (case c_rank => k_is)
    (case k_rank => k_is)
    (case a__reduced => k_is)
    (case l__reduced => k_is)
    (case c__reduced => k_is)
    (case k__reduced => k_is)
    (case a__lead => k_is)
    (case l__lead => k_is)
    (case c__lead => k_is)
    (case k__lead => k_is)
    (case a_rest_of => k_is)
    (case l_rest_of => k_is)
    (case c_rest_of => k_is)
    (case k_rest_of => k_is)
    (case a_is_within => k_is)
    (case l_is_within => k_is)
    (case c_is_within => k_is)
    (case k_is_within => k_is)
    (case a_members => k_is)
    (case l_members => k_is)
    (case c_members => k_is)
    (case k_members => k_is)
    (case a__law_box => k_is)
    (case l__law_box => k_is)
    (case c__law_box => k_is)
    (case k__law_box => k_is)
    (case a__law_take => k_is)
    (case l__law_take => k_is)
    (case c__law_take => k_is)
    (case k__law_take => k_is)
    (case a__law_cells => k_is)
    (case l__law_cells => k_is)
    (case c__law_cells => k_is)
    (case k__law_cells => k_is)
    (case a__law_of => k_is)
    (case l__law_of => k_is)
    (case c__law_of => k_is)
    (case k__law_of => k_is)
    (case a__law_lists => k_is)
    (case l__law_lists => k_is)
    (case c__law_lists => k_is)
    (case k__law_lists => k_is)
    (case a__law_same => k_is)
    (case l__law_same => k_is)
    (case c__law_same => k_is)
    (case k__law_same => k_is)
    (case a__law_plus => k_is)
    (case l__law_plus => k_is)
    (case c__law_plus => k_is)
    (case k__law_plus => k_is)
    (case a__law_unit => k_is)
    (case l__law_unit => k_is)
    (case c__law_unit => k_is)
    (case k__law_unit => k_is)
    (case a__law_tuples => k_is)
    (case l__law_tuples => k_is)
    (case c__law_tuples => k_is)
    (case k__law_tuples => k_is)
    (case a__law_mixed => k_is)
    (case l__law_mixed => k_is)
    (case c__law_mixed => k_is)
    (case k__law_mixed => k_is)
    (case a__law_sums => k_is)
    (case l__law_sums => k_is)
    (case c__law_sums => k_is)
    (case k__law_sums => k_is)
    (case a__law_lead => k_is)
    (case l__law_lead => k_is)
    (case c__law_lead => k_is)
    (case k__law_lead => k_is)
    (case a__law_basis => k_is)
    (case l__law_basis => k_is)
    (case c__law_basis => k_is)
    (case k__law_basis => k_is)
    (case a__law_drawn_vectors => k_is)
    (case l__law_drawn_vectors => k_is)
    (case c__law_drawn_vectors => k_is)
    (case k__law_drawn_vectors => k_is)
    (case a__law_drawn_shape => k_is)
    (case l__law_drawn_shape => k_is)
    (case c__law_drawn_shape => k_is)
    (case k__law_drawn_shape => k_is)
    (case a__law_heard => k_is)
    (case l__law_heard => k_is)
    (case c__law_heard => k_is)
    (case k__law_heard => k_is)
    (case a__law_by_hand_right => k_is)
    (case l__law_by_hand_right => k_is)
    (case c__law_by_hand_right => k_is)
    (case k__law_by_hand_right => k_is)
    (case a__law_brink_right => k_is)
    (case l__law_brink_right => k_is)
    (case c__law_brink_right => k_is)
    (case k__law_brink_right => k_is)
    (case a__law_right => k_is)
    (case l__law_right => k_is)
    (case c__law_right => k_is)
    (case k__law_right => k_is)
    (case a_law => k_is)
    (case l_law => k_is)
    (case c_law => k_is)
    (case k_law => k_is)
    (case xg_TooMany => k_is)
    (case xq_TooMany => k_exc)
    (case xk_TooMany => k_is)
    (case xb_TooMany => k_is)
    (case xt_TooMany => k_is)
    (case xc1_TooMany => k_is)
    (case xc2_TooMany => k_is)
    (case xc3_TooMany => k_is)
    (case xc4_TooMany => k_is)
    (case xc5_TooMany => k_is)
    (case xc6_TooMany => k_is)
    (case xc7_TooMany => k_is)
    (case xs_TooMany => first | rfl | k_is)
    (case xv_TooMany => k_is)
    (case xg_Unfit => k_is)
    (case xq_Unfit => k_exc)
    (case xk_Unfit => k_is)
    (case xb_Unfit => k_is)
    (case xt_Unfit => k_is)
    (case xc1_Unfit => k_is)
    (case xc2_Unfit => k_is)
    (case xc3_Unfit => k_is)
    (case xc4_Unfit => k_is)
    (case xc5_Unfit => k_is)
    (case xc6_Unfit => k_is)
    (case xc7_Unfit => k_is)
    (case xs_Unfit => first | rfl | k_is)
    (case xv_Unfit => k_is)
    (case z_ValueError => k_is)
    (case z_abs => k_is)
    (case z_all => k_is)
    (case z_any => k_is)
    (case z_bool => k_is)
    (case z_enumerate => k_is)
    (case z_int => k_is)
    (case z_isinstance => k_is)
    (case z_len => k_is)
    (case z_list => k_is)
    (case z_range => k_is)
    (case z_set => k_is)
    (case z_sorted => k_is)
    (case z_str => k_is)
    (case z_tuple => k_is)
    (case z_zip => k_is)
  case S => exact fun w H a ns hl _ hS => K03.law_start hS (K03.law_true ns hl)
  case C =>
    intro _ _ _ _ _ h
    obtain ⟨_, _, _, _, _, _, _, _, _, _, _, _, z⟩ := h
    exact z
end
