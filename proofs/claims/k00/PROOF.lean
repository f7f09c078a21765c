import PyProof.Rows.All
import Wide.All
import OpenK.AllK
import Wide.FinOn
import HandS.ForMost
import HandS.Exc
import HandS.ExcOwn
import HandS.TryOnly
import HandS.WordsExc
import HandS.Walk
import HandS.IsInst
import HandS.ExcInit
import HandS.ExcIs
import HandS.ExcField
import KE.GoesNew
import KE.GoesEnum
import KE.GoesMore
import HandS.TupAny
import HandS.Conv
import HandS.TupMul
import HandS.Zip
import PyProof.EnumMake
import PyProof.Draws
import HandS.Flow
import HandS.Small
import HandS.Style
import KE.DataAny
import HandS.More
import HandS.Deep
import HandS.Dict
import KE.SortData
import KE.KDictSum
import KE.KDictCopyH
import HandS.SetFor
import HandS.Strs
import HandS.Star
import HandS.Sort
import HandS.Call
import HandS.SortKw
import KE.DataMinMax
import HandS.TupSets
import KE.KExcInit
import HandS.TryMany
import HandS.ExcValue
import PyProof.Rows.Walk
import PyProof.TableCode
import KE.KExcLine
import PySem.Challenge.RW_anydlooks_k00_errors_made_by_hand
section
set_option Elab.async false
set_option linter.all false
set_option maxRecDepth 100000
namespace PD
open PySem PySem.Spec PyProof.Rows L2

/-- what a dict of one's own holds: keys that are ints or texts; keys that are tuples of such -/
inductive DiO where
  | k (kvs : List (Key × PyData))
  | t (kvs : List (List Key × PyData))
  /-- an exception of a class of one's own below the built-in class b, with its fields -/
  | x (b : String) (fs : List (Str × PyData))
inductive Cell where
  | un
  | fz (d : PyData)
  | ow (b : Bool) (ds : List PyData)
  | od (o : DiO)
/-- a cell with an object of its own -/
def Cell.Own : Cell → Prop
  | .ow _ _ => True
  | .od _ => True
  | _ => False
abbrev Sg := List Cell
inductive Ans (α : Type) where
  | ok (a : α)
  | ex (c : Str) (fs : List (Str × PyData))
abbrev M (α : Type) := Sg → Option (Ans α × Sg)
abbrev Am := Nat → Option Addr
/-- what a frame never touches (ph), and what its caller lent it (ba, by slot) -/
structure Fx where
  ph : Addr → Prop
  ba : Am
def Hid (ph : Fx) (am : Am) (b : Addr) : Prop := ph.ph b ∨ ∃ i, am i = some b
open Classical in
noncomputable def hid (ph : Fx) (am : Am) (H : Hp) : Hp := fun b => if Hid ph am b then none else H b
variable {K : PySem.W.Frag} {ph : Fx} {am am' am'' : Am} {H H' H'' H1 H2 : Hp} {a b p : Addr} {o : HO}

theorem hid_some : hid ph am H b = some o ↔ ¬ Hid ph am b ∧ H b = some o := by
  unfold hid
  by_cases h : Hid ph am b
  · simp [h]
  · simp [h]
theorem hid_sub : Same (hid ph am H) H := fun _ _ h => (hid_some.mp h).2
theorem hid_same (s : Same H H') : Same (hid ph am H) (hid ph am H') := fun b o h =>
  let ⟨h1, h2⟩ := hid_some.mp h
  hid_some.mpr ⟨h1, s b o h2⟩

mutual
/-- a value as data -/
inductive Dq (K : PySem.W.Frag) (H : Hp) : V → PyData → Prop
  | non : Dq K H .non .none
  | bl (b : Bool) : Dq K H (.bl b) (.bool b)
  | int (i : Int) : Dq K H (.int i) (.int i)
  | str (x : Str) : Dq K H (.str x) (.str x)
  | lst {a : Addr} {xs : List V} {ds : List PyData} : SqL K H a xs → DqAll K H xs ds → Dq K H (.ref a) (.list ds)
  | tup {a : Addr} {xs : List V} {ds : List PyData} : H a = some (.tup xs) → DqAll K H xs ds → Dq K H (.ref a) (.tuple ds)
inductive DqAll (K : PySem.W.Frag) (H : Hp) : List V → List PyData → Prop
  | nil : DqAll K H [] []
  | cons {v : V} {vs : List V} {d : PyData} {ds : List PyData} : Dq K H v d → DqAll K H vs ds → DqAll K H (v :: vs) (d :: ds)
end
theorem rd_mono (s : Same H H') {u : HO} (q : Rd H a u) : Rd H' a u := by
  rcases q with q | ⟨o, q⟩
  · exact .inl (s _ _ q)
  · exact .inr ⟨o, s _ _ q⟩
mutual
theorem Dq.dp : ∀ {v : V} {d : PyData}, Dq K H v d → L2.Dp K H v d
  | _, _, .non => .non
  | _, _, .bl b => .bl b
  | _, _, .int i => .int i
  | _, _, .str x => .str x
  | _, _, .lst q h => .lst q h.dp
  | _, _, .tup q h => .tup (.inl (.inl q)) h.dp
theorem DqAll.dp : ∀ {vs : List V} {ds : List PyData}, DqAll K H vs ds → L2.DpAll K H vs ds
  | _, _, .nil => .nil
  | _, _, .cons h t => .cons h.dp t.dp
end
mutual
theorem dp_mono (s : Same H H') : ∀ {v : V} {d : PyData}, Dq K H v d → Dq K H' v d
  | _, _, .non => .non
  | _, _, .bl b => .bl b
  | _, _, .int i => .int i
  | _, _, .str x => .str x
  | _, _, .lst q h => .lst (s.seq q) (dps_mono s h)
  | _, _, .tup q h => .tup (s _ _ q) (dps_mono s h)
theorem dps_mono (s : Same H H') : ∀ {vs : List V} {ds : List PyData}, DqAll K H vs ds → DqAll K H' vs ds
  | _, _, .nil => .nil
  | _, _, .cons h t => .cons (dp_mono s h) (dps_mono s t)
end
theorem seqT_mono (s : Same H H') {xs : List V} (q : SqT K H a xs) : SqT K H' a xs := by
  rcases q with (q | ⟨o, q⟩) | q
  · exact .inl (.inl (s _ _ q))
  · exact .inl (.inr ⟨o, s _ _ q⟩)
  · exact .inr q
theorem same_new (h : H p = none) : Same H (upd H p o) := fun b x e => by
  rw [upd_ne (ne_of_none e h)]
  exact e

/-- DqAll as lists -/
theorem DqAll.length : ∀ {vs : List V} {ds : List PyData}, DqAll K H vs ds → vs.length = ds.length
  | _, _, .nil => rfl
  | _, _, .cons _ t => by simp [DqAll.length t]
theorem DqAll.get : ∀ {vs : List V} {ds : List PyData} {i : Nat} {d : PyData}, DqAll K H vs ds → ds[i]? = some d → ∃ v, vs[i]? = some v ∧ Dq K H v d
  | _, _, _, _, .nil, e => by simp at e
  | _, _, 0, _, .cons h _, e => by simp at e; subst e; exact ⟨_, rfl, h⟩
  | _, _, i + 1, _, .cons _ t, e => by
    obtain ⟨v, e1, e2⟩ := DqAll.get (i := i) t (by simpa using e)
    exact ⟨v, by simpa using e1, e2⟩
theorem DqAll.append : ∀ {vs ws : List V} {ds es : List PyData}, DqAll K H vs ds → DqAll K H ws es → DqAll K H (vs ++ ws) (ds ++ es)
  | _, _, _, _, .nil, s => s
  | _, _, _, _, .cons h t, s => .cons h (DqAll.append t s)
theorem DqAll.take : ∀ {vs : List V} {ds : List PyData} (n : Nat), DqAll K H vs ds → DqAll K H (vs.take n) (ds.take n)
  | _, _, 0, _ => by simpa using .nil
  | _, _, _ + 1, .nil => .nil
  | _, _, n + 1, .cons h t => by simpa using DqAll.cons h (DqAll.take n t)
theorem DqAll.drop : ∀ {vs : List V} {ds : List PyData} (n : Nat), DqAll K H vs ds → DqAll K H (vs.drop n) (ds.drop n)
  | _, _, 0, h => by simpa using h
  | _, _, _ + 1, .nil => .nil
  | _, _, n + 1, .cons _ t => by simpa using DqAll.drop n t
theorem DqAll.set {v : V} {d : PyData} (h : Dq K H v d) : ∀ {vs : List V} {ds : List PyData} (n : Nat), DqAll K H vs ds → DqAll K H (vs.set n v) (ds.set n d)
  | _, _, _, .nil => .nil
  | _, _, 0, .cons _ t => .cons h t
  | _, _, n + 1, .cons q t => .cons q (DqAll.set h n t)
theorem DqAll.rev : ∀ {vs : List V} {ds : List PyData}, DqAll K H vs ds → DqAll K H vs.reverse ds.reverse
  | _, _, .nil => .nil
  | _, _, .cons h t => by simpa using DqAll.append (DqAll.rev t) (.cons h .nil)
theorem DqAll.rep {v : V} {d : PyData} (h : Dq K H v d) : ∀ n, DqAll K H (List.replicate n v) (List.replicate n d)
  | 0 => .nil
  | n + 1 => .cons h (DqAll.rep h n)

/-- a dict's heap object holds so much -/
def DOR (K : PySem.W.Frag) (a : Addr) (H : Hp) : HO → DiO → Prop
  | .dK vs, .k kvs => vs.map (·.1) = kvs.map (·.1) ∧ DqAll K H (vs.map (·.2)) (kvs.map (·.2))
  | .dT vs, .t kvs => vs.map (·.1) = kvs.map (·.1) ∧ DqAll K H (vs.map (·.2)) (kvs.map (·.2))
  | u, .x b fs => ∃ (C dx : Addr) (vs : List (Str × V)), u = exo a C (some dx) ∧ H dx = some (exd dx vs) ∧ vs.map (·.1) = fs.map (·.1) ∧ DqAll K H (vs.map (·.2)) (fs.map (·.2)) ∧ ExcC K C ∧ XfC K C ∧ (∀ f, f ∈ fs.map (·.1) → PySem.W.findIn K (.ref C) f = some none) ∧ PySem.W.kitOne K (.ref C) (.type b) = some true
  | _, _ => False
theorem dor_mono (s : Same H H') : ∀ {u : HO} {o : DiO}, DOR K a H u o → DOR K a H' u o := by
  intro u o h
  cases o with
  | x b fs =>
    have h : ∃ (C dx : Addr) (vs : List (Str × V)), u = exo a C (some dx) ∧ H dx = some (exd dx vs) ∧ vs.map (·.1) = fs.map (·.1) ∧ DqAll K H (vs.map (·.2)) (fs.map (·.2)) ∧ ExcC K C ∧ XfC K C ∧ (∀ f, f ∈ fs.map (·.1) → PySem.W.findIn K (.ref C) f = some none) ∧ PySem.W.kitOne K (.ref C) (.type b) = some true := by cases u <;> exact h
    obtain ⟨C, dx, vs, h1, h2, h3, h4, h5⟩ := h
    have g : ∃ (C dx : Addr) (vs : List (Str × V)), u = exo a C (some dx) ∧ H' dx = some (exd dx vs) ∧ vs.map (·.1) = fs.map (·.1) ∧ DqAll K H' (vs.map (·.2)) (fs.map (·.2)) ∧ ExcC K C ∧ XfC K C ∧ (∀ f, f ∈ fs.map (·.1) → PySem.W.findIn K (.ref C) f = some none) ∧ PySem.W.kitOne K (.ref C) (.type b) = some true := ⟨C, dx, vs, h1, s _ _ h2, h3, dps_mono s h4, h5⟩
    cases u <;> exact g
  | _ => cases u <;> first | exact h.elim | exact ⟨h.1, dps_mono s h.2⟩
structure Step (am : Am) (H : Hp) (am' : Am) (H' : Hp) : Prop where
  keep : ∀ b o, H b = some o → (∀ i, am i ≠ some b) → H' b = some o
  new : ∀ i a, am' i = some a → (∃ j, am j = some a) ∨ H a = none
  there : ∀ b o, H b = some o → ∃ o', H' b = some o'
theorem Step.refl : Step am H am H := ⟨fun _ _ h _ => h, fun i a h => .inl ⟨i, h⟩, fun _ o h => ⟨o, h⟩⟩
theorem Step.of (s : Same H H') : Step am H am H' := ⟨fun b o h _ => s b o h, fun i a h => .inl ⟨i, h⟩, fun b o h => ⟨o, s b o h⟩⟩
theorem Step.trans (x : Step am H am' H') (y : Step am' H' am'' H'') : Step am H am'' H'' where
  keep := fun b o h n => y.keep b o (x.keep b o h n) fun i e => by
    rcases x.new i b e with ⟨j, q⟩ | q
    · exact n j q
    · rw [q] at h; cases h
  new := fun i a h => by
    rcases y.new i a h with ⟨j, q⟩ | q
    · exact x.new j a q
    · cases e : H a with
      | none => exact .inr rfl
      | some o =>
        obtain ⟨o', e'⟩ := x.there a o e
        rw [q] at e'; cases e'
  there := fun b o h => let ⟨o', h'⟩ := x.there b o h; y.there b o' h'
theorem Step.hid (x : Step am H am' H') : Same (hid ph am H) (PD.hid ph am' H') := fun b o h => by
  obtain ⟨h1, h2⟩ := hid_some.mp h
  refine hid_some.mpr ⟨fun q => ?_, x.keep b o h2 fun i e => h1 (.inr ⟨i, e⟩)⟩
  rcases q with q | ⟨i, q⟩
  · exact h1 (.inl q)
  · rcases x.new i b q with ⟨j, e⟩ | e
    · exact h1 (.inr ⟨j, e⟩)
    · rw [e] at h2; cases h2

/-- no tuple -/
def mu (o : HO) : Prop := ∀ xs, o ≠ .tup xs
theorem mu_lst {xs : List V} : mu (.lst xs) := fun _ z => by cases z
theorem mu_dor {u : HO} {o : DiO} (h : DOR K a H u o) : mu u := fun xs z => by
  subst z
  cases o with
  | x b fs =>
    obtain ⟨C, dx, vs, h1, _⟩ := h
    exact exo_tup h1.symm
  | _ => exact h.elim
structure SR (K : PySem.W.Frag) (ph : Fx) (am : Am) (σ : L2.St) (H : Hp) (δ : Sg) : Prop where
  len : σ.length = δ.length
  fz : ∀ (i : Nat) (d : PyData), δ[i]? = some (Cell.fz d) → ∃ v, σ[i]? = some (some v) ∧ Dq K (hid ph am H) v d
  ow : ∀ (i : Nat) (b : Bool) (ds : List PyData), δ[i]? = some (Cell.ow b ds) → ∃ a vs, am i = some a ∧ σ[i]? = some (some (.ref a)) ∧ H a = some (.lst vs) ∧ DqAll K (hid ph am H) vs ds ∧ vs.length ≤ sizeLine ∧ (b = false → ph.ba i = none)
  amf : ∀ (i : Nat) (a : Addr), am i = some a → ¬ ph.ph a ∧ ∃ c, δ[i]? = some c ∧ c.Own
  inj : ∀ (i j : Nat) (a : Addr), am i = some a → am j = some a → i = j
  phs : ∀ b, ph.ph b → ∃ o, H b = some o ∧ mu o
  bas : ∀ (i : Nat) (a : Addr), ph.ba i = some a → am i = some a
  od : ∀ (i : Nat) (o : DiO), δ[i]? = some (Cell.od o) → ∃ a u, am i = some a ∧ σ[i]? = some (some (.ref a)) ∧ H a = some u ∧ DOR K a (hid ph am H) u o ∧ ph.ba i = none
variable {σ : L2.St} {δ δ' δ'' : Sg}
theorem SR.hiddenM (s : SR K ph am σ H δ) (h : Hid ph am b) : ∃ o, H b = some o ∧ mu o := by
  rcases h with h | ⟨i, h⟩
  · exact s.phs b h
  · obtain ⟨_, c, e, co⟩ := s.amf i b h
    cases c with
    | un => exact co.elim
    | fz d => exact co.elim
    | ow bb ds =>
      obtain ⟨a, vs, e1, _, e2, _⟩ := s.ow i bb ds e
      rw [h] at e1; cases e1
      exact ⟨_, e2, mu_lst⟩
    | od o =>
      obtain ⟨a, u, e1, _, e2, e3, _⟩ := s.od i o e
      rw [h] at e1; cases e1
      exact ⟨_, e2, mu_dor e3⟩
theorem SR.hidden (s : SR K ph am σ H δ) (h : Hid ph am b) : ∃ o, H b = some o := let ⟨o, e, _⟩ := s.hiddenM h; ⟨o, e⟩
/-- a tuple is never hidden -/
theorem SR.tup_seen (s : SR K ph am σ H δ) {xs : List V} (h : H b = some (.tup xs)) : hid ph am H b = some (.tup xs) :=
  hid_some.mpr ⟨fun z => by
    obtain ⟨o, e, m⟩ := s.hiddenM z
    rw [h] at e
    cases e
    exact m _ rfl, h⟩
theorem SR.same (s : SR K ph am σ H δ) (q : Same H H') : SR K ph am σ H' δ where
  len := s.len
  fz := fun i d e => let ⟨v, e1, e2⟩ := s.fz i d e; ⟨v, e1, dp_mono (hid_same q) e2⟩
  ow := fun i b ds e => let ⟨a, vs, e1, e2, e3, e4, e5⟩ := s.ow i b ds e; ⟨a, vs, e1, e2, q _ _ e3, dps_mono (hid_same q) e4, e5⟩
  amf := s.amf
  inj := s.inj
  phs := fun b h => let ⟨o, e, m⟩ := s.phs b h; ⟨o, q b o e, m⟩
  bas := s.bas
  od := fun i o e => let ⟨a, u, e1, e2, e3, e4, e5⟩ := s.od i o e; ⟨a, u, e1, e2, q _ _ e3, dor_mono (hid_same q) e4, e5⟩
theorem SR.new (s : SR K ph am σ H δ) (h : H p = none) : ¬ Hid ph am p := fun q => by
  obtain ⟨o, e⟩ := s.hidden q
  rw [h] at e; cases e

/-- what is wanted of an exception: W; c's class by its name -/
def XPm (K : PySem.W.Frag) (mg : Str → Option Value) (W : WX) (ph : Fx) (am : Am) (σ : L2.St) (H : Hp) (δ' : Sg) (c : Str) (fs : List (Str × PyData)) : Prop :=
  ∀ C dx am' H', mg c = some (.ref C) → Step am H am' H' → SR K ph am' σ H' δ' →
    ((fs = [] ∧ dx = none) ∨ ∃ a vs, dx = some a ∧ fs ≠ [] ∧ H' a = some (.xd vs) ∧ vs.map (·.1) = fs.map (·.1) ∧ DqAll K (hid ph am' H') (vs.map (·.2)) (fs.map (·.2))) → W (.ref C) dx σ H'
abbrev XP (X : Cx) (W : WX) (ph : Fx) (am : Am) (σ : L2.St) (H : Hp) (δ' : Sg) (c : Str) (fs : List (Str × PyData)) : Prop := XPm X.K X.mg W ph am σ H δ' c fs
abbrev E00 : WX := fun _ _ _ _ => False
/-- .. of a statement: wherever it raises -/
def XPS (X : Cx) (W : WX) (ph : Fx) (am : Am) (H : Hp) (δ' : Sg) (c : Str) (fs : List (Str × PyData)) : Prop :=
  ∀ C dx am' σ' H', X.mg c = some (.ref C) → Step am H am' H' → SR X.K ph am' σ' H' δ' →
    ((fs = [] ∧ dx = none) ∨ ∃ a vs, dx = some a ∧ fs ≠ [] ∧ H' a = some (.xd vs) ∧ vs.map (·.1) = fs.map (·.1) ∧ DqAll X.K (hid ph am' H') (vs.map (·.2)) (fs.map (·.2))) → W (.ref C) dx σ' H'
/-- .. of a def: what a caller wants -/
def XPd (K : PySem.W.Frag) (mg : Str → Option Value) (E : XK) (ph : Fx) (am : Am) (H : Hp) (c : Str) (fs : List (Str × PyData)) : Prop :=
  ∀ C dx am' H', mg c = some (.ref C) → Step am H am' H' →
    ((fs = [] ∧ dx = none) ∨ ∃ a vs, dx = some a ∧ fs ≠ [] ∧ H' a = some (.xd vs) ∧ vs.map (·.1) = fs.map (·.1) ∧ DqAll K (hid ph am' H') (vs.map (·.2)) (fs.map (·.2))) → E (.ref C) dx H'

def ReadE (X : Cx) (W : WX) (t : TE) (f : M PyData) : Prop := ∀ (ph : Fx) (am : Am) (σ : L2.St) (H : Hp) (δ : Sg) (Q : VK) (ans : Ans PyData) (δ' : Sg), SR X.K ph am σ H δ → f δ = some (ans, δ') →
    (∀ d, ans = .ok d → ∀ am' v H', Step am H am' H' → SR X.K ph am' σ H' δ' → Dq X.K (hid ph am' H') v d → Q v H') →
    (∀ c fs, ans = .ex c fs → XP X W ph am σ H δ' c fs) → t σ H Q
def ReadF (X : Cx) (W : WX) (t : TE) (f : M (List PyData)) : Prop := ∀ (ph : Fx) (am : Am) (σ : L2.St) (H : Hp) (δ : Sg) (Q : VK) (ans : Ans (List PyData)) (δ' : Sg), SR X.K ph am σ H δ → f δ = some (ans, δ') →
    (∀ ds, ans = .ok ds → ∀ am' p vs H', H p = none → H' p = none → Step am H am' H' → SR X.K ph am' σ H' δ' → DqAll X.K (hid ph am' H') vs ds → vs.length ≤ sizeLine → Q (.ref p) (upd H' p (.lst vs))) →
    (∀ c fs, ans = .ex c fs → XP X W ph am σ H δ' c fs) → t σ H Q
def ReadA (X : Cx) (W : WX) (t : TA) (f : M (List PyData)) : Prop := ∀ (ph : Fx) (am : Am) (σ : L2.St) (H : Hp) (δ : Sg) (Q : List V → Hp → Prop) (ans : Ans (List PyData)) (δ' : Sg), SR X.K ph am σ H δ → f δ = some (ans, δ') →
    (∀ ds, ans = .ok ds → ∀ am' vs H', Step am H am' H' → SR X.K ph am' σ H' δ' → DqAll X.K (hid ph am' H') vs ds → Q vs H') →
    (∀ c fs, ans = .ex c fs → XP X W ph am σ H δ' c fs) → t σ H Q
def ReadT (X : Cx) (W : WX) (t : TT) (f : M Bool) : Prop := ∀ (ph : Fx) (am : Am) (σ : L2.St) (H : Hp) (δ : Sg) (Q : Bool → Hp → Prop) (ans : Ans Bool) (δ' : Sg), SR X.K ph am σ H δ → f δ = some (ans, δ') →
    (∀ b, ans = .ok b → ∀ am' H', Step am H am' H' → SR X.K ph am' σ H' δ' → Q b H') →
    (∀ c fs, ans = .ex c fs → XP X W ph am σ H δ' c fs) → t σ H Q
structure DE (X : Cx) (W : WX) (e : Expr) (f : M PyData) : Prop where
  ex : ∃ t, PE X e t ∧ ReadE X W t f
/-- a new list -/
structure DF (X : Cx) (W : WX) (e : Expr) (f : M (List PyData)) : Prop where
  ex : ∃ t, PE X e t ∧ ReadF X W t f
/-- arguments -/
structure DA (X : Cx) (W : WX) (es : List Expr) (f : M (List PyData)) : Prop where
  ex : ∃ t, PA X es t ∧ ReadA X W t f
/-- tests -/
structure DT (X : Cx) (W : WX) (e : Expr) (f : M Bool) : Prop where
  ex : ∃ t, PT X e t ∧ ReadT X W t f
structure DW (X : Cx) (W : WX) (e : Expr) (f : M Bool) : Prop where
  ex : ∃ t, PW X e t ∧ ReadT X W t f

/-! ### the monad -/
@[reducible] def ret {α : Type} (a : α) : M α := fun δ => some (.ok a, δ)
def bnd {α β : Type} (f : M α) (g : α → M β) : M β := fun δ => match f δ with
  | some (.ok a, δ') => g a δ'
  | some (.ex c fs, δ') => some (.ex c fs, δ')
  | none => none
def lif {α : Type} (o : Option α) : M α := fun δ => match o with
  | some a => some (.ok a, δ)
  | none => none
theorem bnd_some {α β : Type} {f : M α} {g : α → M β} {ans : Ans β} (h : bnd f g δ = some (ans, δ')) :
    (∃ a δ1, f δ = some (.ok a, δ1) ∧ g a δ1 = some (ans, δ')) ∨ ∃ c fs, f δ = some (.ex c fs, δ') ∧ ans = .ex c fs := by
  unfold bnd at h
  split at h
  · rename_i a δ1 e
    exact .inl ⟨a, δ1, e, h⟩
  · rename_i c fs δ1 e
    cases h
    exact .inr ⟨c, fs, e, rfl⟩
  · cases h
theorem lif_some {α : Type} {o : Option α} {ans : Ans α} (h : lif o δ = some (ans, δ')) : ∃ a, o = some a ∧ ans = .ok a ∧ δ' = δ := by
  unfold lif at h
  split at h
  · cases h; exact ⟨_, rfl, rfl, rfl⟩
  · cases h
theorem XPm.step {mg : Str → Option Value} {W : WX} {c : Str} {fs : List (Str × PyData)} (s : Step am H am' H') (h : XPm K mg W ph am σ H δ' c fs) : XPm K mg W ph am' σ H' δ' c fs :=
  fun C dx am2 H2 e k r q => h C dx am2 H2 e (s.trans k) r q
theorem XPS.step {X : Cx} {W : WX} {c : Str} {fs : List (Str × PyData)} (s : Step am H am' H') (h : XPS X W ph am H δ' c fs) : XPS X W ph am' H' δ' c fs :=
  fun C dx am2 σ2 H2 e k r q => h C dx am2 σ2 H2 e (s.trans k) r q
theorem XPS.at {X : Cx} {W : WX} {c : Str} {fs : List (Str × PyData)} (h : XPS X W ph am H δ' c fs) : XP X W ph am σ H δ' c fs :=
  fun C dx am2 H2 e k r q => h C dx am2 σ H2 e k r q
theorem XPd.step {mg : Str → Option Value} {E : XK} {c : Str} {fs : List (Str × PyData)} (s : Step am H am' H') (h : XPd K mg E ph am H c fs) : XPd K mg E ph am' H' c fs :=
  fun C dx am2 H2 e k q => h C dx am2 H2 e (s.trans k) q
end PD
end

section
set_option Elab.async false
set_option linter.all false
set_option maxRecDepth 100000
set_option maxHeartbeats 1000000
namespace PD
open PySem PySem.Spec PyProof.Rows L2
variable {X : Cx} {W : WX} {pos : Pos} {e e1 e2 : Expr} {es : List Expr} {f g : M PyData} {fs : M (List PyData)}

/-! ### constants and names -/
theorem de_ret {t : TE} {d : PyData} {v : V} (h : PE X e t) (ht : t = tC v) (hv : ∀ H, Dq X.K H v d) : DE X W e (ret d) :=
  ⟨⟨t, h, fun ph am σ H δ Q ans δ' s q k _ => by
    cases q
    subst ht
    exact k _ rfl am v H Step.refl s (hv _)⟩⟩
theorem de_int {i : Int} {j} : DE X W (.Constant (.int i) j pos) (ret (.int i)) := de_ret pe_int rfl fun _ => .int i
theorem de_bl {b : Bool} {j} : DE X W (.Constant (.bool b) j pos) (ret (.bool b)) := de_ret pe_bl rfl fun _ => .bl b
theorem de_non {j} : DE X W (.Constant .none j pos) (ret .none) := de_ret pe_non rfl fun _ => .non
theorem de_str {x : Str} {j} : DE X W (.Constant (.str x) j pos) (ret (.str x)) := de_ret pe_str rfl fun _ => .str x

/-- a list of one's own is read as a value: from here on it is frozen -/
def xVar (i : Nat) : M PyData := fun δ => match δ[i]? with
  | some (.fz d) => some (.ok d, δ)
  | some (.ow false ds) => some (.ok (.list ds), δ.set i (.fz (.list ds)))
  | _ => none
def amDrop (am : Am) (i : Nat) : Am := fun j => if j = i then none else am j
theorem amDrop_some {am : Am} {i j : Nat} {a : Addr} : amDrop am i j = some a ↔ j ≠ i ∧ am j = some a := by
  unfold amDrop
  by_cases h : j = i <;> simp [h]
theorem step_drop {am : Am} {H : Hp} {i : Nat} : Step am H (amDrop am i) H :=
  ⟨fun _ _ h _ => h, fun j a h => .inl ⟨j, (amDrop_some.mp h).2⟩, fun _ o h => ⟨o, h⟩⟩
variable {K : PySem.W.Frag} {ph : Fx} {am am' : Am} {H H' : Hp} {σ : L2.St} {δ δ' : Sg}
/-- freezing -/
theorem SR.freeze (s : SR K ph am σ H δ) {i : Nat} {ds : List PyData} (e : δ[i]? = some (.ow false ds)) :
    ∃ a vs, am i = some a ∧ σ[i]? = some (some (.ref a)) ∧ H a = some (.lst vs) ∧ SR K ph (amDrop am i) σ H (δ.set i (.fz (.list ds))) ∧ Dq K (hid ph (amDrop am i) H) (.ref a) (.list ds) := by
  obtain ⟨a, vs, e1, e2, e3, e4, e6, e5⟩ := s.ow i false ds e
  have st : Step am H (amDrop am i) H := step_drop
  have hi : i < δ.length := (List.getElem?_eq_some_iff.mp e).1
  have na : ¬ Hid ph (amDrop am i) a := by
    rintro (q | ⟨j, q⟩)
    · exact (s.amf i a e1).1 q
    · obtain ⟨n, q⟩ := amDrop_some.mp q
      exact n (s.inj j i a q e1)
  have dp : Dq K (hid ph (amDrop am i) H) (.ref a) (.list ds) := .lst (.inl (.inl (hid_some.mpr ⟨na, e3⟩))) (dps_mono st.hid e4)
  refine ⟨a, vs, e1, e2, e3, ⟨by rw [s.len, List.length_set], fun j d q => ?_, fun j b' ds' q => ?_, fun j a' q => ?_, fun j k a' q1 q2 => ?_, s.phs, fun j a' q => ?_, fun j o q => ?_⟩, dp⟩
  · by_cases hj : j = i
    · subst hj
      rw [List.getElem?_set_self hi] at q
      cases q
      exact ⟨_, e2, dp⟩
    · rw [List.getElem?_set_ne (Ne.symm hj)] at q
      obtain ⟨v, h1, h2⟩ := s.fz j d q
      exact ⟨v, h1, dp_mono st.hid h2⟩
  · by_cases hj : j = i
    · subst hj
      rw [List.getElem?_set_self hi] at q
      cases q
    · rw [List.getElem?_set_ne (Ne.symm hj)] at q
      obtain ⟨a2, vs2, h1, h2, h3, h4, h6, h5⟩ := s.ow j b' ds' q
      exact ⟨a2, vs2, amDrop_some.mpr ⟨hj, h1⟩, h2, h3, dps_mono st.hid h4, h6, h5⟩
  · obtain ⟨n, q⟩ := amDrop_some.mp q
    obtain ⟨h1, c, h2, h3⟩ := s.amf j a' q
    exact ⟨h1, c, by rw [List.getElem?_set_ne (Ne.symm n)]; exact h2, h3⟩
  · exact s.inj j k a' (amDrop_some.mp q1).2 (amDrop_some.mp q2).2
  · refine amDrop_some.mpr ⟨fun z => ?_, s.bas j a' q⟩
    subst z
    rw [e5 rfl] at q
    cases q
  · by_cases hj : j = i
    · subst hj
      rw [List.getElem?_set_self hi] at q
      cases q
    · rw [List.getElem?_set_ne (Ne.symm hj)] at q
      obtain ⟨a2, u, h1, h2, h3, h4, h5⟩ := s.od j o q
      exact ⟨a2, u, amDrop_some.mpr ⟨hj, h1⟩, h2, h3, dor_mono st.hid h4, h5⟩
theorem de_var (i : Nat) {x : Str} (hN : X.N[i]? = some x := by rfl) (hv : Vis X.env.scope x := by first | exact Or.inl rfl | exact Or.inr (Or.inl rfl) | exact Or.inr (Or.inr rfl)) (hd : (x == ("__debug__" : Str)) = false := by decide)
    (hcd : (x == ("__classdict__" : Str)) = false := by decide) : DE X W (.Name x pos) (xVar i) :=
  ⟨⟨tVar i, pe_var hN hv hd hcd, fun ph am σ H δ Q ans δ' s q k _ => by
    unfold xVar at q
    split at q
    · rename_i d e
      cases q
      obtain ⟨v, h1, h2⟩ := s.fz i d e
      exact ⟨v, h1, k _ rfl am v H Step.refl s h2⟩
    · rename_i ds e
      cases q
      obtain ⟨a, vs, h1, h2, h3, h4, h5⟩ := s.freeze e
      exact ⟨.ref a, h2, k _ rfl _ _ H step_drop h4 h5⟩
    · cases q⟩⟩

/-! ### operators -/
def OpD (X : Cx) (r : R2) (F : PyData → PyData → Option PyData) : Prop :=
  ∀ (ph : Fx) (am : Am) (H : Hp) (x y : V) (d e c : PyData) (Q : VK), (∀ b, Hid ph am b → ∃ o, H b = some o) → Dq X.K (hid ph am H) x d → Dq X.K (hid ph am H) y e → F d e = some c →
    (∀ v H', Same H H' → Dq X.K (hid ph am H') v c → Q v H') → r x y H Q
def UnD (X : Cx) (r : V → Hp → VK → Prop) (F : PyData → Option PyData) : Prop :=
  ∀ (ph : Fx) (am : Am) (H : Hp) (x : V) (d c : PyData) (Q : VK), (∀ b, Hid ph am b → ∃ o, H b = some o) → Dq X.K (hid ph am H) x d → F d = some c →
    (∀ v H', Same H H' → Dq X.K (hid ph am H') v c → Q v H') → r x H Q
def CallD (X : Cx) (r : List V → Hp → VK → Prop) (F : List PyData → Option PyData) : Prop :=
  ∀ (ph : Fx) (am : Am) (H : Hp) (xs : List V) (ds : List PyData) (c : PyData) (Q : VK), (∀ b, Hid ph am b → ∃ o, H b = some o) → DqAll X.K (hid ph am H) xs ds → F ds = some c →
    (∀ v H', Same H H' → Dq X.K (hid ph am H') v c → Q v H') → r xs H Q
/-- .. giving a new list -/
def CallF (X : Cx) (r : List V → Hp → VK → Prop) (F : List PyData → Option (List PyData)) : Prop :=
  ∀ (ph : Fx) (am : Am) (H : Hp) (xs : List V) (ds cs : List PyData) (Q : VK), (∀ b, Hid ph am b → ∃ o, H b = some o) → DqAll X.K (hid ph am H) xs ds → F ds = some cs →
    (∀ p vs, H p = none → DqAll X.K (hid ph am H) vs cs → vs.length ≤ sizeLine → Q (.ref p) (upd H p (.lst vs))) → r xs H Q
def OpF (X : Cx) (r : R2) (F : PyData → PyData → Option (List PyData)) : Prop :=
  ∀ (ph : Fx) (am : Am) (H : Hp) (x y : V) (d e : PyData) (cs : List PyData) (Q : VK), (∀ b, Hid ph am b → ∃ o, H b = some o) → Dq X.K (hid ph am H) x d → Dq X.K (hid ph am H) y e → F d e = some cs →
    (∀ p vs, H p = none → DqAll X.K (hid ph am H) vs cs → vs.length ≤ sizeLine → Q (.ref p) (upd H p (.lst vs))) → r x y H Q

def xBin (F : PyData → PyData → Option PyData) (f g : M PyData) : M PyData := bnd f fun a => bnd g fun b => lif (F a b)
def xUn (F : PyData → Option PyData) (f : M PyData) : M PyData := bnd f fun a => lif (F a)
theorem bin_read {ta tb : TE} {r : R2} {F : PyData → PyData → Option PyData} (hr : OpD X r F) (qa : ReadE X W ta f) (qb : ReadE X W tb g) : ReadE X W (tOp r ta tb) (xBin F f g) := by
  intro ph am σ H δ Q ans δ' s q k kx
  rcases bnd_some q with ⟨a, δ1, e1, q1⟩ | ⟨c, fs, e1, q1⟩
  · refine qa ph am σ H δ _ _ _ s e1 (fun d ed am1 x H1 st1 s1 d1 => ?_) (fun c fs z => by cases z)
    cases ed
    rcases bnd_some q1 with ⟨b, δ2, e2, q2⟩ | ⟨c, fs, e2, q2⟩
    · refine qb ph am1 σ H1 δ1 _ _ _ s1 e2 (fun d ed am2 y H2 st2 s2 d2 => ?_) (fun c fs z => by cases z)
      cases ed
      obtain ⟨z, e3, rfl, rfl⟩ := lif_some q2
      refine hr ph am2 H2 x y a b z _ (fun b h => s2.hidden h) (dp_mono st2.hid d1) d2 e3 fun v H3 sm dv => ?_
      exact k _ rfl am2 v H3 ((st1.trans st2).trans (Step.of sm)) (s2.same sm) dv
    · subst q2
      refine qb ph am1 σ H1 δ1 _ _ _ s1 e2 (fun d ed => by cases ed) (fun c' fs' z => ?_)
      cases z
      exact (kx _ _ rfl).step st1
  · subst q1
    refine qa ph am σ H δ _ _ _ s e1 (fun d ed => by cases ed) (fun c' fs' z => ?_)
    cases z
    exact kx _ _ rfl
theorem bin_core {r : R2} {F : PyData → PyData → Option PyData} (hr : OpD X r F) (ha : DE X W e1 f) (hb : DE X W e2 g) (rule : ∀ ta tb, PE X e1 ta → PE X e2 tb → PE X e (tOp r ta tb)) : DE X W e (xBin F f g) := by
  obtain ⟨ta, pa, qa⟩ := ha.ex
  obtain ⟨tb, pb, qb⟩ := hb.ex
  exact ⟨⟨_, rule ta tb pa pb, bin_read hr qa qb⟩⟩
theorem de_bin {op : Operator} {r : R2} {F : PyData → PyData → Option PyData} (hr : OpD X r F) (ho : OpR X (binaryOp op) r) (ha : DE X W e1 f) (hb : DE X W e2 g) : DE X W (.BinOp e1 op e2 pos) (xBin F f g) :=
  bin_core hr ha hb fun _ _ pa pb => pe_op ho pa pb
theorem de_cmp {op : CmpOp} {r : R2} {F : PyData → PyData → Option PyData} (hr : OpD X r F) (ho : OpR X (compareOp op) r) (hm : behindInMarks op e2 = false) (ha : DE X W e1 f) (hb : DE X W e2 g) : DE X W (.Compare e1 [op] [e2] pos) (xBin F f g) :=
  bin_core hr ha hb fun _ _ pa pb => pe_cmpR ho pa pb hm
theorem de_un {op : UnaryOp} {r : V → Hp → VK → Prop} {F : PyData → Option PyData} (hr : UnD X r F) (ho : UnR X (unaryOp op) r) (ha : DE X W e1 f) : DE X W (.UnaryOp op e1 pos) (xUn F f) := by
  obtain ⟨ta, pa, qa⟩ := ha.ex
  refine ⟨⟨_, pe_un ho pa, fun ph am σ H δ Q ans δ' s q k kx => ?_⟩⟩
  rcases bnd_some q with ⟨a, δ1, e1, q1⟩ | ⟨c, fs, e1, q1⟩
  · refine qa ph am σ H δ _ _ _ s e1 (fun d ed am1 x H1 st1 s1 d1 => ?_) (fun c fs z => by cases z)
    cases ed
    obtain ⟨z, e3, rfl, rfl⟩ := lif_some q1
    exact hr ph am1 H1 x a z _ (fun b h => s1.hidden h) d1 e3 fun v H3 sm dv => k _ rfl am1 v H3 (st1.trans (Step.of sm)) (s1.same sm) dv
  · subst q1
    exact qa ph am σ H δ _ _ _ s e1 (fun d ed => by cases ed) (fun c' fs' z => by cases z; exact kx _ _ rfl)
/-- a new list as a value -/
theorem de_df {fs : M (List PyData)} (h : DF X W e fs) : DE X W e (bnd fs fun ds => ret (.list ds)) := by
  obtain ⟨t, p, q⟩ := h.ex
  refine ⟨⟨t, p, fun ph am σ H δ Q ans δ' s e k kx => ?_⟩⟩
  rcases bnd_some e with ⟨ds, δ1, e1, q1⟩ | ⟨c, fs, e1, q1⟩
  · cases q1
    refine q ph am σ H δ _ _ _ s e1 (fun d ed am1 p vs H1 n0 n1 st s1 dv hz => ?_) (fun c fs z => by cases z)
    cases ed
    have sm : Same H1 (upd H1 p (.lst vs)) := same_new n1
    refine k _ rfl am1 _ _ (st.trans (Step.of sm)) (s1.same sm) (.lst (.inl (.inl (hid_some.mpr ⟨s1.new n1, upd_same⟩))) (dps_mono (hid_same sm) dv))
  · subst q1
    exact q ph am σ H δ _ _ _ s e1 (fun d ed => by cases ed) (fun c' fs' z => by cases z; exact kx _ _ rfl)
/-! ### arguments and displays -/
theorem da_nil : DA X W [] (ret []) := ⟨⟨tNil, pa_nil, fun ph am σ H δ Q ans δ' s q k _ => by cases q; exact k _ rfl am [] H Step.refl s .nil⟩⟩
theorem da_cons (h : DE X W e f) (t : DA X W es fs) (hs : starEach (e :: es) X.env = (false, eval e X.env) :: starEach es X.env := by rfl) : DA X W (e :: es) (bnd f fun d => bnd fs fun ds => ret (d :: ds)) := by
  obtain ⟨ta, pa, qa⟩ := h.ex
  obtain ⟨tb, pb, qb⟩ := t.ex
  refine ⟨⟨_, pa_cons pa pb hs, fun ph am σ H δ Q ans δ' s q k kx => ?_⟩⟩
  rcases bnd_some q with ⟨a, δ1, e1, q1⟩ | ⟨c, fs, e1, q1⟩
  · refine qa ph am σ H δ _ _ _ s e1 (fun d ed am1 x H1 st1 s1 d1 => ?_) (fun c fs z => by cases z)
    cases ed
    rcases bnd_some q1 with ⟨b, δ2, e2, q2⟩ | ⟨c, fs, e2, q2⟩
    · cases q2
      refine qb ph am1 σ H1 δ1 _ _ _ s1 e2 (fun d ed am2 y H2 st2 s2 d2 => ?_) (fun c fs z => by cases z)
      cases ed
      exact k _ rfl am2 _ H2 (st1.trans st2) s2 (.cons (dp_mono st2.hid d1) d2)
    · subst q2
      exact qb ph am1 σ H1 δ1 _ _ _ s1 e2 (fun d ed => by cases ed) (fun c' fs' z => by cases z; exact (kx _ _ rfl).step st1)
  · subst q1
    exact qa ph am σ H δ _ _ _ s e1 (fun d ed => by cases ed) (fun c' fs' z => by cases z; exact kx _ _ rfl)
def xTup (fs : M (List PyData)) : M PyData := bnd fs fun ds => lif (if ds.length ≤ sizeLine then some (.tuple ds) else none)
def xLst (fs : M (List PyData)) : M (List PyData) := bnd fs fun ds => lif (if ds.length ≤ sizeLine then some ds else none)
theorem if_some {c : Prop} [Decidable c] {α : Type} {a b : α} (h : (if c then some a else none) = some b) : c ∧ a = b := by
  split at h
  · cases h; exact ⟨by assumption, rfl⟩
  · cases h
theorem de_tup {x1} (h : DA X W es fs) : DE X W (.Tuple es x1 pos) (xTup fs) := by
  obtain ⟨ta, pa, qa⟩ := h.ex
  refine ⟨⟨_, pe_tup pa, fun ph am σ H δ Q ans δ' s q k kx => ?_⟩⟩
  rcases bnd_some q with ⟨a, δ1, e1, q1⟩ | ⟨c, fs, e1, q1⟩
  · refine qa ph am σ H δ _ _ _ s e1 (fun d ed am1 x H1 st1 s1 d1 => ?_) (fun c fs z => by cases z)
    cases ed
    obtain ⟨z, e3, rfl, rfl⟩ := lif_some q1
    obtain ⟨hz, rfl⟩ := if_some e3
    refine ⟨by rw [DqAll.length d1]; exact hz, fun p np => ?_⟩
    have sm : Same H1 (upd H1 p (.tup x)) := same_new np
    exact k _ rfl am1 _ _ (st1.trans (Step.of sm)) (s1.same sm) (.tup (hid_some.mpr ⟨s1.new np, upd_same⟩) (dps_mono (hid_same sm) d1))
  · subst q1
    exact qa ph am σ H δ _ _ _ s e1 (fun d ed => by cases ed) (fun c' fs' z => by cases z; exact kx _ _ rfl)
/-- nothing that is new was there -/
theorem Step.none (st : Step am H am' H') {p : Addr} (h : H' p = .none) : H p = .none := by
  cases e : H p with
  | none => rfl
  | some o =>
    obtain ⟨o', e'⟩ := st.there p o e
    rw [h] at e'; cases e'
theorem df_lst (h : DA X W es fs) : DF X W (.List es pos) (xLst fs) := by
  obtain ⟨ta, pa, qa⟩ := h.ex
  refine ⟨⟨_, pe_lst pa, fun ph am σ H δ Q ans δ' s q k kx => ?_⟩⟩
  rcases bnd_some q with ⟨a, δ1, e1, q1⟩ | ⟨c, fs, e1, q1⟩
  · refine qa ph am σ H δ _ _ _ s e1 (fun d ed am1 x H1 st1 s1 d1 => ?_) (fun c fs z => by cases z)
    cases ed
    obtain ⟨z, e3, rfl, rfl⟩ := lif_some q1
    obtain ⟨hz, rfl⟩ := if_some e3
    exact ⟨by rw [DqAll.length d1]; exact hz, fun p np => k _ rfl am1 p x H1 (st1.none np) np st1 s1 d1 (by rw [DqAll.length d1]; exact hz)⟩
  · subst q1
    exact qa ph am σ H δ _ _ _ s e1 (fun d ed => by cases ed) (fun c' fs' z => by cases z; exact kx _ _ rfl)
/-! ### built-ins called by name -/
def xCall (F : List PyData → Option PyData) (fs : M (List PyData)) : M PyData := bnd fs fun ds => lif (F ds)
def xCallF (F : List PyData → Option (List PyData)) (fs : M (List PyData)) : M (List PyData) := bnd fs fun ds => lif (F ds)
theorem call_core {r : List V → Hp → VK → Prop} {F : List PyData → Option PyData} (hr : CallD X r F) (h : DA X W es fs) (rule : ∀ t, PA X es t → PE X e (tCB r t)) : DE X W e (xCall F fs) := by
  obtain ⟨ta, pa, qa⟩ := h.ex
  refine ⟨⟨_, rule _ pa, fun ph am σ H δ Q ans δ' s q k kx => ?_⟩⟩
  rcases bnd_some q with ⟨a, δ1, e1, q1⟩ | ⟨c, fs, e1, q1⟩
  · refine qa ph am σ H δ _ _ _ s e1 (fun d ed am1 x H1 st1 s1 d1 => ?_) (fun c fs z => by cases z)
    cases ed
    obtain ⟨z, e3, rfl, rfl⟩ := lif_some q1
    exact hr ph am1 H1 x a z _ (fun b h => s1.hidden h) d1 e3 fun v H3 sm dv => k _ rfl am1 v H3 (st1.trans (Step.of sm)) (s1.same sm) dv
  · subst q1
    exact qa ph am σ H δ _ _ _ s e1 (fun d ed => by cases ed) (fun c' fs' z => by cases z; exact kx _ _ rfl)
theorem callF_core {r : List V → Hp → VK → Prop} {F : List PyData → Option (List PyData)} (hr : CallF X r F) (h : DA X W es fs) (rule : ∀ t, PA X es t → PE X e (tCB r t)) : DF X W e (xCallF F fs) := by
  obtain ⟨ta, pa, qa⟩ := h.ex
  refine ⟨⟨_, rule _ pa, fun ph am σ H δ Q ans δ' s q k kx => ?_⟩⟩
  rcases bnd_some q with ⟨a, δ1, e1, q1⟩ | ⟨c, fs, e1, q1⟩
  · refine qa ph am σ H δ _ _ _ s e1 (fun d ed am1 x H1 st1 s1 d1 => ?_) (fun c fs z => by cases z)
    cases ed
    obtain ⟨z, e3, rfl, rfl⟩ := lif_some q1
    exact hr ph am1 H1 x a z _ (fun b h => s1.hidden h) d1 e3 fun p vs np dv hz => k _ rfl am1 p vs H1 (st1.none np) np st1 s1 dv hz
  · subst q1
    exact qa ph am σ H δ _ _ _ s e1 (fun d ed => by cases ed) (fun c' fs' z => by cases z; exact kx _ _ rfl)
def xBinF (F : PyData → PyData → Option (List PyData)) (f g : M PyData) : M (List PyData) := bnd f fun a => bnd g fun b => lif (F a b)
theorem binF_core {r : R2} {F : PyData → PyData → Option (List PyData)} (hr : OpF X r F) (ha : DE X W e1 f) (hb : DE X W e2 g) (rule : ∀ ta tb, PE X e1 ta → PE X e2 tb → PE X e (tOp r ta tb)) : DF X W e (xBinF F f g) := by
  obtain ⟨ta, pa, qa⟩ := ha.ex
  obtain ⟨tb, pb, qb⟩ := hb.ex
  refine ⟨⟨_, rule ta tb pa pb, fun ph am σ H δ Q ans δ' s q k kx => ?_⟩⟩
  rcases bnd_some q with ⟨a, δ1, e1, q1⟩ | ⟨c, fs, e1, q1⟩
  · refine qa ph am σ H δ _ _ _ s e1 (fun d ed am1 x H1 st1 s1 d1 => ?_) (fun c fs z => by cases z)
    cases ed
    rcases bnd_some q1 with ⟨b, δ2, e2, q2⟩ | ⟨c, fs, e2, q2⟩
    · refine qb ph am1 σ H1 δ1 _ _ _ s1 e2 (fun d ed am2 y H2 st2 s2 d2 => ?_) (fun c fs z => by cases z)
      cases ed
      obtain ⟨z, e3, rfl, rfl⟩ := lif_some q2
      exact hr ph am2 H2 x y a b z _ (fun b h => s2.hidden h) (dp_mono st2.hid d1) d2 e3 fun p vs np dv hz => k _ rfl am2 p vs H2 ((st1.trans st2).none np) np (st1.trans st2) s2 dv hz
    · subst q2
      exact qb ph am1 σ H1 δ1 _ _ _ s1 e2 (fun d ed => by cases ed) (fun c' fs' z => by cases z; exact (kx _ _ rfl).step st1)
  · subst q1
    exact qa ph am σ H δ _ _ _ s e1 (fun d ed => by cases ed) (fun c' fs' z => by cases z; exact kx _ _ rfl)
end PD
end

section
set_option Elab.async false
set_option linter.all false
set_option maxRecDepth 100000
set_option maxHeartbeats 4000000
namespace PD
open PySem PySem.Spec PyProof.Rows L2
theorem tuple_mulS (l : Addr) (items : Array Value) (n : Nat) (sl : Array (Option Value)) (dd : Option Addr) (x : Int) (u : Tok) (c0 : (decide (x < -(2 ^ 63)) || decide (x ≥ 2 ^ 63)) = false) (c1 : (items.isEmpty || x == 1) = true) :
    Meets (Builtin.«tuple.__mul__» ⟨[.ref l, .int x u], []⟩) (fun _ R s => s.heap.get? l = some { cls := .type "tuple", dict := dd, data := .seq items n, slots := sl } ∧
      R (.ok (.ret (Value.ref l))) s) :=
  .of_wp fun prog w A R s h => by
    obtain ⟨hp, g, d, tk, os⟩ := s
    obtain ⟨hl, h⟩ := h
    have f1 := AutoSeq1.idx_int
    wp_walk using wpAny_loadPart' hl
    repeat (first
      | (refine wpAny_ite_false (decide_eq_false (by rw [c0]; exact Bool.false_ne_true)) ?_; wp_walk using wpAny_loadPart' hl)
      | (refine wpAny_ite_true (decide_eq_true (by rw [c1])) ?_; wp_walk using wpAny_loadPart' hl))
    exact ⟨_, rfl, h⟩
theorem tuple_mul0 (l : Addr) (items : Array Value) (n : Nat) (sl : Array (Option Value)) (dd : Option Addr) (x : Int) (u : Tok) (c0 : (decide (x < -(2 ^ 63)) || decide (x ≥ 2 ^ 63)) = false) (c1 : (items.isEmpty || x == 1) = false) (c2 : (decide (x ≤ 0) || items.isEmpty) = true) :
    Meets (Builtin.«tuple.__mul__» ⟨[.ref l, .int x u], []⟩) (fun _ R s => s.heap.get? l = some { cls := .type "tuple", dict := dd, data := .seq items n, slots := sl } ∧
      R (.ok (.ret (Value.ref s.heap.objs.size))) { s with heap := s.heap.push { cls := Value.type "tuple", data := Data.seq #[] }, toks := s.toks }) :=
  .of_wp fun prog w A R s h => by
    obtain ⟨hp, g, d, tk, os⟩ := s
    obtain ⟨hl, h⟩ := h
    have f1 := AutoSeq1.idx_int
    wp_walk using wpAny_loadPart' hl
    repeat (first
      | (refine wpAny_ite_false (decide_eq_false (by rw [c0]; exact Bool.false_ne_true)) ?_; wp_walk using wpAny_loadPart' hl)
      | (refine wpAny_ite_false (decide_eq_false (by rw [c1]; exact Bool.false_ne_true)) ?_; wp_walk using wpAny_loadPart' hl)
      | (refine wpAny_ite_true (decide_eq_true (by rw [c2])) ?_; wp_walk using wpAny_loadPart' hl))
    exact ⟨_, rfl, h⟩

variable {X : Cx}
def rRepA (K : PySem.W.Frag) : R2 := fun x y H Q => ∃ l k xs, x = .ref l ∧ y = .int k ∧ SqT K H l xs ∧ -(2 ^ 63) ≤ k ∧ k ≤ 1000 ∧ xs.length ≤ 1000 ∧
  ((xs = [] ∨ k = 1) → Q (.ref l) H) ∧ (xs ≠ [] → k ≠ 1 → ∀ p, H p = none → Q (.ref p) (upd H p (.tup (List.replicate k.toNat xs).flatten)))
theorem op_repA : OpR X (binaryOp .Mult) (rRepA X.K) := by
  intro pins s σ H x y v u Q I rx ry h
  obtain ⟨l, k, xs, rfl, rfl, hT, h0, h1, hz, q1, q2⟩ := h
  by_cases big : xs ≠ [] ∧ 2 ≤ k
  · exact op_repT pins s σ H _ _ v u Q I rx ry ⟨l, k, xs, rfl, rfl, hT, big.1, big.2, h1, hz, q2 big.1 (by omega)⟩
  cases rx
  obtain ⟨t, rfl⟩ := ry
  obtain ⟨its, r, ⟨⟨cls, dd, data, sl⟩, ho, hc, n, hd⟩, hs⟩ := I.tuple hT
  simp only at hc hd
  subst hc hd
  have hle : its.length = xs.length := r.length.symm
  have c0 : (decide (k < -(2 ^ 63)) || decide (k ≥ 2 ^ 63)) = false := by
    rw [decide_eq_false (by omega), decide_eq_false (by omega)] <;> rfl
  by_cases c1 : (its.toArray.isEmpty || k == 1) = true
  · have hx : xs = [] ∨ k = 1 := by
      simp only [Bool.or_eq_true, beq_iff_eq] at c1
      rcases c1 with c | c
      · left
        have : its = [] := by simpa using c
        rw [this] at hle
        exact List.eq_nil_of_length_eq_zero hle.symm
      · exact .inr c
    refine wpAny_binaryOp_repeat_ref (T := "tuple") (U := "int") (by decide) ⟨_, ho, rfl⟩ (fun s' => typeIs_int s' k t) noFill_tuple_mul F.fills_int_mul F.slot_int_rmul repeat_tuple F.slot_int_index.lookup
      (call_meets F.slot_int_rmul (typeIs_int s k t) F.entry_int_rmul (F.args_int_rmul_2 _ _) (int_rmul_tuple k t l its.toArray n dd sl)
        ⟨ho, rfl, ⟨_, ho, rfl⟩, call_meets F.slot_tuple_mul ⟨_, ho, rfl⟩ F.entry_tuple_mul (F.args_tuple_mul_2 _ _) (tuple_mulS l its.toArray n sl dd k t c0 c1) ⟨ho, ?_⟩⟩)
    exact ⟨.ref l, H, I, rfl, q1 hx⟩
  · have c1' : (its.toArray.isEmpty || k == 1) = false := by simpa using c1
    have hx : xs ≠ [] := fun e => by
      rw [e] at hle
      have : its = [] := List.eq_nil_of_length_eq_zero hle
      rw [this] at c1'
      simp at c1'
    have hk : k ≠ 1 := fun e => by
      rw [e] at c1'
      simp at c1'
    have hk0 : k ≤ 0 := by
      have : ¬ 2 ≤ k := fun z => big ⟨hx, z⟩
      omega
    have c2 : (decide (k ≤ 0) || its.toArray.isEmpty) = true := by
      rw [decide_eq_true hk0, Bool.true_or]
    refine wpAny_binaryOp_repeat_ref (T := "tuple") (U := "int") (by decide) ⟨_, ho, rfl⟩ (fun s' => typeIs_int s' k t) noFill_tuple_mul F.fills_int_mul F.slot_int_rmul repeat_tuple F.slot_int_index.lookup
      (call_meets F.slot_int_rmul (typeIs_int s k t) F.entry_int_rmul (F.args_int_rmul_2 _ _) (int_rmul_tuple k t l its.toArray n dd sl)
        ⟨ho, rfl, ⟨_, ho, rfl⟩, call_meets F.slot_tuple_mul ⟨_, ho, rfl⟩ F.entry_tuple_mul (F.args_tuple_mul_2 _ _) (tuple_mul0 l its.toArray n sl dd k t c0 c1' c2) ⟨ho, ?_⟩⟩)
    have e0 : (List.replicate k.toNat xs).flatten = [] := by
      rw [show k.toNat = 0 by omega]
      rfl
    refine ⟨.ref s.heap.objs.size, upd H s.heap.objs.size (.tup (List.replicate k.toNat xs).flatten), ?_, rfl, q2 hx hk _ (I.hok.fresh (Nat.le_refl _))⟩
    rw [e0]
    exact I.laid (t' := s.toks) (o := .tup []) (fun b ob q => Heap.get?_push_of_some _ q) (Nat.le_refl _) ⟨Nat.zero_le _, [], .nil, IsTup.new _ _⟩
/-! ### list + list, list * int, of any list that may be read -/
def rCatL (K : PySem.W.Frag) : R2 := fun x y H Q => ∃ l b xs zs, x = .ref l ∧ y = .ref b ∧ SqL K H l xs ∧ SqL K H b zs ∧ xs.length + zs.length ≤ sizeLine ∧ ∀ p, H p = none → Q (.ref p) (upd H p (.lst (xs ++ zs)))
theorem op_catL : OpR X (binaryOp .Add) (rCatL X.K) := by
  intro pins s σ H x y v u Q I rx ry h
  obtain ⟨l, b, xs, zs, rfl, rfl, hH, hB, hz, q⟩ := h
  cases rx
  cases ry
  obtain ⟨its, r, p1, _⟩ := I.list hH
  obtain ⟨its2, r2, p2, _⟩ := I.list hB
  have hl := r.length
  have hl2 := r2.length
  obtain ⟨⟨cls, dd, data, sl⟩, ho, hc, n, hd⟩ := p1.isList
  obtain ⟨⟨cls2, dd2, data2, sl2⟩, ho2, hc2, n2, hd2⟩ := p2.isList
  simp only at hc hd hc2 hd2
  subst hc hd hc2 hd2
  have e : its.toArray ++ its2.toArray = (its ++ its2).toArray := by simp
  refine concat_meets ⟨_, ho, rfl⟩ ⟨_, ho2, rfl⟩ noFill_list_add seq_list_add PySem.F.slot_list_add PySem.F.entry_list_add (PySem.F.args_list_add_2 _ _) (list_addW l b its.toArray its2.toArray n n2 dd dd2 sl sl2 (by rw [List.size_toArray, List.size_toArray]; omega)) ⟨ho, ho2, ?_⟩
  rw [e]
  exact ⟨.ref _, _, I.lnew (t' := s.toks) (r.append r2) (by rw [List.length_append]; omega), rfl, q _ I.fresh⟩
end PD
end

section
set_option Elab.async false
set_option linter.all false
set_option maxRecDepth 100000
set_option maxHeartbeats 2000000
namespace PD
open PySem PySem.Spec PyProof.Rows L2
/-! ### lists and tuples, in any mix, under zip and enumerate -/
def SqK (k : Bool) (K : PySem.W.Frag) (H : Hp) (a : Addr) (xs : List V) : Prop := if k = true then SqL K H a xs else SqT K H a xs
def IsK (k : Bool) (h : Heap) (a : Addr) (its : Array Value) : Prop := if k = true then h.IsList a its else h.IsTuple a its
def ItK (k : Bool) (h : Heap) (it a : Addr) (i : Nat) : Prop := if k = true then h.IsListIter it a i else h.IsTupleIter it a i
def obK (k : Bool) (a : Addr) : Obj := if k = true then { cls := .type "list_iterator", data := .fields #[.ref a, .int 0 0] } else { cls := .type "tuple_iterator", data := .fields #[.ref a, .int 0 0] }
theorem seq_of {X : Cx} {pins : List (Addr × Obj)} {σ : L2.St} {H : Hp} {s : Shared} {a : Addr} {xs : List V} {k : Bool} (I : Inv X pins σ H s) (q : SqK k X.K H a xs) : ∃ its : List Value, Vals xs its ∧ IsK k s.heap a its.toArray ∧ xs.length ≤ sizeLine := by
  cases k with
  | true =>
    obtain ⟨its, r, p, z⟩ := I.list (show SqL _ _ _ _ from q)
    exact ⟨its, r, p.isList, z⟩
  | false =>
    obtain ⟨its, r, p, z⟩ := I.tuple (show SqT _ _ _ _ from q)
    exact ⟨its, r, p, z⟩
theorem seq_inj {X : Cx} {pins : List (Addr × Obj)} {σ : L2.St} {H : Hp} {s : Shared} {a : Addr} {xs ys : List V} {k : Bool} (I : Inv X pins σ H s) (q : SqK k X.K H a xs) (q' : SqK k X.K H a ys) : xs = ys := by
  cases k with
  | true => exact I.list_inj q q'
  | false => exact I.tuple_inj q q'
theorem begins_k (k : Bool) (a : Addr) (items : Array Value) : Begins (.ref a) (obK k a) fun h => IsK k h a items := by
  cases k with
  | true => exact begins_list a items
  | false => exact begins_tuple a items
theorem draws_k {prog : Program} {w : World} {A : Around} (k : Bool) (hh : A.handled = none) (it a : Addr) (hne : a ≠ it) (items : Array Value) :
    Draws prog w A it [it, a] items.size (fun i v => items[i]? = some v) (fun i h => ItK k h it a i ∧ IsK k h a items) := by
  cases k with
  | true => exact Draws.list hh it a hne items
  | false => exact Draws.tuple hh it a hne items
theorem itK_at {k : Bool} {h h' : Heap} {it a : Addr} {i : Nat} (x : ItK k h it a i) (e : ∀ o, h.get? it = some o → h'.get? it = some o) : ItK k h' it a i := by
  cases k with
  | true => exact Heap.IsListIter.at (show h.IsListIter it a i from x) e
  | false => exact Heap.IsTupleIter.at (show h.IsTupleIter it a i from x) e
theorem itK_ob {k : Bool} {h : Heap} {it a : Addr} {i : Nat} (x : ItK k h it a i) : ∃ o, h.get? it = some o ∧ ∀ v, o.data ≠ .cell v := by
  cases k with
  | true =>
    obtain ⟨o, e, _, d⟩ := (show h.IsListIter it a i from x)
    exact ⟨o, e, fun v q => by rw [d] at q; cases q⟩
  | false =>
    obtain ⟨o, e, _, d⟩ := (show h.IsTupleIter it a i from x)
    exact ⟨o, e, fun v q => by rw [d] at q; cases q⟩
theorem itK_new {k : Bool} {h : Heap} {it a : Addr} (x : h.get? it = some (obK k a)) : ItK k h it a 0 := by
  cases k with
  | true => exact ⟨_, x, rfl, rfl⟩
  | false => exact ⟨_, x, rfl, rfl⟩
def ItzK (k1 k2 : Bool) (K : PySem.W.Frag) (a b : Addr) : It :=
  ⟨fun i H => ∃ (xs ys : List V) (x y : V), SqK k1 K H a xs ∧ SqK k2 K H b ys ∧ xs[i]? = some x ∧ ys[i]? = some y,
    fun i H v H' => ∃ T x y, v = .ref T ∧ H T = none ∧ H' = upd H T (.tup [x, y]) ∧ (∀ xs, SqK k1 K H a xs → xs[i]? = some x) ∧ ∀ ys, SqK k2 K H b ys → ys[i]? = some y,
    fun i H => ∃ xs ys : List V, SqK k1 K H a xs ∧ SqK k2 K H b ys ∧ i = min xs.length ys.length⟩
theorem turn_zipK {P : Program} {w : World} {K : PySem.W.Frag} {elts : List Expr} {kk : Nat} {tpos : Pos} {k1 k2 : Bool} {a b z TI TO i1 i2 : Addr} (D : ZipSep2 z TI TO i1 i2 [i1, a] [i2, b]) (ha : a ≠ i1) (hb : b ≠ i2) :
    Turn P w K (.Tuple elts kk tpos) (ItzK k1 k2 K a b) [z, TI, TO, i1, i2] z (fun i h => IsZip h z TI TO .none ∧ IsPair h TI (.ref i1) (.ref i2) ∧ (∃ x y, IsPair h TO x y) ∧ ItK k1 h i1 a i ∧ ItK k2 h i2 b i) where
  mem := by simp
  obj := fun i h st c hc => by
    obtain ⟨hz, hTI, ⟨x, y, hTO⟩, h1, h2⟩ := st
    have e' : c = z ∨ c = TI ∨ c = TO ∨ c = i1 ∨ c = i2 := by simpa using hc
    rcases e' with q | q | q | q | q
    · rw [q]; exact ⟨_, hz, fun v q => nomatch q⟩
    · rw [q]; exact ⟨_, hTI, fun v q => nomatch q⟩
    · rw [q]; exact ⟨_, hTO, fun v q => nomatch q⟩
    · rw [q]; exact itK_ob h1
    · rw [q]; exact itK_ob h2
  keep := fun i h h' st k => by
    obtain ⟨hz, hTI, ⟨x, y, hTO⟩, h1, h2⟩ := st
    exact ⟨k z (by simp) _ hz, k TI (by simp) _ hTI, ⟨x, y, k TO (by simp) _ hTO⟩, itK_at h1 fun o q => k i1 (by simp) o q, itK_at h2 fun o q => k i2 (by simp) o q⟩
  item := by
    intro X hP hw hK hc i pins s σ H E I hf st hg
    subst hP hw hK
    obtain ⟨hz, hTI, ⟨x0, y0, hTO⟩, h1, h2⟩ := st
    obtain ⟨xs, ys, x, y, hqx, hqy, hx, hy⟩ := hg
    obtain ⟨its, rv, p, _⟩ := seq_of I hqx
    obtain ⟨its2, rv2, p2, _⟩ := seq_of I hqy
    obtain ⟨u, hu, ru⟩ := rv.get hx
    obtain ⟨u2, hu2, ru2⟩ := rv2.get hy
    have hzl : z < s.heap.objs.size := Heap.lt_size hz
    have D1 := draws_k (prog := X.prog) (w := X.w) (A := X.A.in1) k1 (I.ok.hd hc) i1 a ha its.toArray
    have D2 := draws_k (prog := X.prog) (w := X.w) (A := X.A.in1) k2 (I.ok.hd hc) i2 b hb its2.toArray
    have l1 : i < its.toArray.size := by rw [List.size_toArray]; exact (List.getElem?_eq_some_iff.mp hu).1
    have l2 : i < its2.toArray.size := by rw [List.size_toArray]; exact (List.getElem?_eq_some_iff.mp hu2).1
    refine wpAny_pyNext_zipD2_item D D1 D2 hz hTI hTO ⟨h1, p⟩ ⟨h2, p2⟩ l1 l2 fun x1 x2 h' tk g1 g2 z' TO' s1' s2' hT hsz hk => ?_
    have e1 : x1 = u := by
      have : its.toArray[i]? = some u := by simpa using hu
      rw [this] at g1
      exact (Option.some.inj g1).symm
    have e2 : x2 = u2 := by
      have : its2.toArray[i]? = some u2 := by simpa using hu2
      rw [this] at g2
      exact (Option.some.inj g2).symm
    subst e1 e2
    refine ⟨_, rfl, wpAny_letOwnedTupleGo_zip (s := { s with heap := h', toks := tk }) z' fun h'' z'' sb => ?_⟩
    have hT2 : h''.get? s.heap.objs.size = some { cls := .type "tuple", data := .seq #[x1, x2] } := (sb.2 _ (Nat.ne_of_gt hzl)).trans hT
    have new : ObjOk X.prog X.w (upd H s.heap.objs.size (.tup [x, y])) h'' s.heap.objs.size (.tup [x, y]) :=
      ⟨by show 2 ≤ sizeLine; decide, [x1, x2], .cons ru (.cons ru2 .nil), ⟨_, hT2, rfl, _, rfl⟩⟩
    have I1 : Inv X pins σ (upd H s.heap.objs.size (.tup [x, y])) { s with heap := h'', toks := tk } :=
      I.turnedNew (t' := tk) (ch := [z, TI, TO, i1, i2]) (fun c o hb q => (sb.2 c (fun q' => hb (by simp [q']))).trans (hk c o (fun q' => hb (by simp [q'])) (fun q' => hb (by simp [q'])) (fun q' => hb (by simp [q'])) (fun q' => hb (by simp [q'])) q)) hf (Nat.le_refl _) new
    refine ⟨.ref s.heap.objs.size, _, I1, rfl, ⟨_, x, y, rfl, I.hok.fresh (Nat.le_refl _), rfl, fun l hl => by rw [seq_inj I hl hqx]; exact hx, fun l hl => by rw [seq_inj I hl hqy]; exact hy⟩, ⟨z'', ?_, ⟨x1, x2, ?_⟩, ?_, ?_⟩, fun c hcm => ?_⟩
    · exact (sb.2 _ D.TIz).trans (hk _ _ D.TIz D.TITO D.TIi1 D.TIi2 hTI)
    · exact (sb.2 _ D.TOz).trans TO'
    · exact itK_at s1'.1 fun o q => (sb.2 _ (fun e => D.zi1 e.symm)).trans q
    · exact itK_at s2'.1 fun o q => (sb.2 _ (fun e => D.zi2 e.symm)).trans q
    · have hlt : c < s.heap.objs.size := by
        have e' : c = z ∨ c = TI ∨ c = TO ∨ c = i1 ∨ c = i2 := by simpa using hcm
        rcases e' with q | q | q | q | q
        · rw [q]; exact hzl
        · rw [q]; exact Heap.lt_size hTI
        · rw [q]; exact Heap.lt_size hTO
        · rw [q]; obtain ⟨_, e1, _⟩ := itK_ob h1; exact Heap.lt_size e1
        · rw [q]; obtain ⟨_, e2, _⟩ := itK_ob h2; exact Heap.lt_size e2
      rw [upd_ne (Nat.ne_of_lt hlt)]
      exact (hf c hcm).1
  done := by
    intro X hP hw hK hc i pins s σ H E I hf st hg
    subst hP hw hK
    obtain ⟨hz, hTI, ⟨x0, y0, hTO⟩, h1, h2⟩ := st
    obtain ⟨xs, ys, hqx, hqy, hend⟩ := hg
    obtain ⟨its, rv, p, _⟩ := seq_of I hqx
    obtain ⟨its2, rv2, p2, _⟩ := seq_of I hqy
    have l1 := rv.length
    have l2 := rv2.length
    have D1 := draws_k (prog := X.prog) (w := X.w) (A := X.A.in1) k1 (I.ok.hd hc) i1 a ha its.toArray
    have D2 := draws_k (prog := X.prog) (w := X.w) (A := X.A.in1) k2 (I.ok.hd hc) i2 b hb its2.toArray
    exact wpAny_pyNext_zipD2_end D D1 D2 hz hTI hTO ⟨h1, p⟩ ⟨h2, p2⟩ (by rw [List.size_toArray]; omega) (by rw [List.size_toArray]; omega) (by rw [List.size_toArray, List.size_toArray]; omega) fun h' tk hk => ⟨rfl, I.turnedL (t' := tk) (ch := [z, TI, TO, i1, i2]) (fun c o hb q =>
      hk c o (fun q' => hb (by simp [q'])) (fun q' => hb (by simp [q'])) (fun q' => hb (by simp [q'])) (fun q' => hb (by simp [q'])) q) hf⟩
  self := fun A i s Q E st h => wpAny_pyIter_zip st.1 h
def iZipK (K : PySem.W.Frag) (ta : TA) : TI := fun σ H R => ta σ H fun vs H1 => ∃ k1 k2 a b xs ys, vs = [.ref a, .ref b] ∧ SqK k1 K H1 a xs ∧ SqK k2 K H1 b ys ∧ R (ItzK k1 k2 K a b) H1
theorem isK_lt {k : Bool} {h : Heap} {a : Addr} {its : Array Value} (x : IsK k h a its) : a < h.objs.size := by
  cases k with
  | true => obtain ⟨o, e, _⟩ := (show h.IsList a its from x); exact Heap.lt_size e
  | false => obtain ⟨o, e, _⟩ := (show h.IsTuple a its from x); exact Heap.lt_size e
theorem pi_zipK {X : Cx} {e e2 : Expr} {ta : TA} {p pos tpos : Pos} {elts : List Expr} {kk : Nat} (hg : Gl X "zip") (hm : X.mg "zip" = none) (ha : PA X [e, e2] ta)
    (hs : starEach [e, e2] X.env = (false, eval e X.env) :: starEach [e2] X.env) (hpl : (backTo pos (starEach [e2] X.env)).any (·.1) = false) :
    PI X (.Tuple elts kk tpos) (.Call (.Name "zip" p) [e, e2] [] pos) (iZipK X.K ta) := by
  refine ⟨fun pins s σ H R I h => ?_⟩
  refine Call_ (ld_blt I hg hm PyProof.Rows.boot_zip (PyProof.Rows.callWith_type1 (thn (ha.run pos pins s σ H _ I h) fun us s1 ⟨vs, H1, I1, r1, q1⟩ => ?_) hs hpl))
  obtain ⟨k1, k2, a, b, xs, ys, ex, hqx, hqy, q⟩ := q1
  subst ex
  cases r1 with
  | cons r rr =>
    cases rr with
    | cons r' rr =>
      cases rr
      cases r
      cases r'
      obtain ⟨its, rv, p1, _⟩ := seq_of I1 hqx
      obtain ⟨its2, rv2, p2, _⟩ := seq_of I1 hqy
      have la : a < s1.heap.objs.size := isK_lt p1
      have lb : b < s1.heap.objs.size := isK_lt p2
      refine zip_begins2 (begins_k k1 a its.toArray) (begins_k k2 b its2.toArray) p1 p2 fun h' hz hTI hTO h1 h2 hsz hk => wpAny_pyIter_zip hz ?_
      have I2 : Inv X pins σ H1 { s1 with heap := h' } := I1.kept (t' := s1.toks) hk
      have sep : ZipSep2 (s1.heap.objs.size + 4) (s1.heap.objs.size + 2) (s1.heap.objs.size + 3) s1.heap.objs.size (s1.heap.objs.size + 1) (s1.heap.objs.size :: [a]) ((s1.heap.objs.size + 1) :: [b]) :=
        zip_sep2 (fun c hc => by rw [List.mem_singleton.mp hc]; exact la) (fun c hc => by rw [List.mem_singleton.mp hc]; exact lb)
      refine ⟨s1.heap.objs.size + 4, [s1.heap.objs.size + 4, s1.heap.objs.size + 2, s1.heap.objs.size + 3, s1.heap.objs.size, s1.heap.objs.size + 1], _, _, H1, rfl, I2, turn_zipK sep (Nat.ne_of_lt la) (Nat.ne_of_lt (Nat.lt_succ_of_lt lb)), ⟨hz, hTI, ⟨_, _, hTO⟩, itK_new h1, itK_new h2⟩, fun c hcm => ?_, q⟩
      have e' : c = s1.heap.objs.size + 4 ∨ c = s1.heap.objs.size + 2 ∨ c = s1.heap.objs.size + 3 ∨ c = s1.heap.objs.size ∨ c = s1.heap.objs.size + 1 := by simpa using hcm
      have hle : s1.heap.objs.size ≤ c := by
        rcases e' with z | z | z | z | z
        · rw [z]; exact Nat.le_add_right _ _
        · rw [z]; exact Nat.le_add_right _ _
        · rw [z]; exact Nat.le_add_right _ _
        · rw [z]; exact Nat.le_refl _
        · rw [z]; exact Nat.le_add_right _ _
      exact I1.fpOk hle (I1.hok.fresh hle)
theorem walk_zipK {K : PySem.W.Frag} {k1 k2 : Bool} {a b : Addr} {xs ys : List V} {n : Nat} (hn : n = min xs.length ys.length) : Walk (ItzK k1 k2 K a b) n (fun H => SqK k1 K H a xs ∧ SqK k2 K H b ys) (YPair (fun i => xs[i]?) (fun i => ys[i]?)) := by
  subst hn
  refine ⟨fun i _ hi q => ?_, fun _ q => ⟨xs, ys, q.1, q.2, rfl⟩, fun i H v H' _ q y => ?_⟩
  · have h1 : i < xs.length := by omega
    have h2 : i < ys.length := by omega
    exact ⟨xs, ys, xs[i], ys[i], q.1, q.2, by simp [h1], by simp [h2]⟩
  · obtain ⟨T, x, z, h1, h2, h3, h4, h5⟩ := y
    exact ⟨T, x, z, h1, h2, h3, h4 xs q.1, h5 ys q.2⟩
/-! enumerate -/
theorem meets_enumerate_newB0 {v : Value} {o : Obj} {H : Heap → Prop} (B : Begins v o H) :
    Meets (Builtin.«enumerate.__new__» ⟨[.type "enumerate", v], []⟩) (fun _ R s => H s.heap ∧
      R (.ok (.ret (.ref (s.heap.push o).objs.size))) { s with heap := (s.heap.push o).push { cls := .type "enumerate", data := .fields #[.none, .bool false, .ref s.heap.objs.size, rawInt 0, .none, .none] } }) :=
  .of_wp fun prog w A R s h => by
    obtain ⟨hp, g, d, tk, os⟩ := s; obtain ⟨h1, h⟩ := h
    have hsub := sub_enumerate
    have q1 : ∀ {A' : Around} {E : Value → Shared → Prop} {Q : Value → Shared → Prop}, Q (.ref hp.objs.size) ⟨hp.push o, g, d, tk, os⟩ → wpAny (model prog w) A' (pyIter v) Q E ⟨hp, g, d, tk, os⟩ :=
      fun q => B.iter prog w _ _ ⟨hp, g, d, tk, os⟩ _ h1 q
    wp_walk using q1
    refine wpAny_stack_any fun st => wpAny_pure ?_
    split
    · rename_i c _ _ _ _ _
      cases (c == Value.type "enumerate")
      · wp_walk using q1
        exact ⟨_, rfl, h⟩
      · wp_walk using q1
        exact ⟨_, rfl, h⟩
    · wp_walk using q1
      exact ⟨_, rfl, h⟩
theorem enum_begins0 {prog : Program} {w : World} {A : Around} {E : Value → Shared → Prop} {s : Shared} {v : Value} {o : Obj} {H : Heap → Prop} {Q : Value → Shared → Prop} (B : Begins v o H) (h1 : H s.heap)
    (h : ∀ h', IsEnum h' (s.heap.objs.size + 1) s.heap.objs.size 0 .none → h'.get? s.heap.objs.size = some o → h'.objs.size = s.heap.objs.size + 2 →
      (∀ b o, s.heap.get? b = some o → h'.get? b = some o) → Q (.ref (s.heap.objs.size + 1)) { s with heap := h' }) :
    wpAny (model prog w) A (call (.type "enumerate") [v]) Q E s := by
  refine callType_new F.called_enumerate (by decide) (F.typeCall_enumerate_1 _) (F.newCall_enumerate_1 _) (fun obj => F.args_object_init_2 obj _) F.entry_enumerate_new
    (meets_enumerate_newB0 B) ⟨h1, ?_⟩
  have hz : (s.heap.push o).objs.size = s.heap.objs.size + 1 := Heap.size_push ..
  show _ ∧ _
  rw [hz]
  have he : IsEnum ((s.heap.push o).push { cls := .type "enumerate", data := .fields #[.none, .bool false, .ref s.heap.objs.size, rawInt 0, .none, .none] }) (s.heap.objs.size + 1) s.heap.objs.size 0 .none := by
    have := Heap.get?_push_size (s.heap.push o) (o := { cls := .type "enumerate", data := .fields #[.none, .bool false, .ref s.heap.objs.size, rawInt 0, .none, .none] }) rfl
    rw [hz] at this; exact this
  refine ⟨⟨_, he, rfl⟩, h _ he (Heap.get?_push_of_some _ (Heap.get?_push_size _ B.free)) (by rw [Heap.size_push, hz]) fun b o x => Heap.get?_push_of_some _ (Heap.get?_push_of_some _ x)⟩
def IteK (k : Bool) (K : PySem.W.Frag) (a : Addr) : It :=
  ⟨fun i H => ∃ (xs : List V) (x : V), SqK k K H a xs ∧ xs[i]? = some x, fun i H v H' => ∃ T x, v = .ref T ∧ H T = none ∧ H' = upd H T (.tup [.int (i : Nat), x]) ∧ ∀ xs, SqK k K H a xs → xs[i]? = some x, fun i H => ∃ xs : List V, SqK k K H a xs ∧ xs.length = i⟩
theorem turn_enumK {P : Program} {w : World} {K : PySem.W.Frag} {elts : List Expr} {kk : Nat} {tpos : Pos} {k : Bool} {a e it : Addr} (hne : e ≠ it) (hea : e ≠ a) (hai : a ≠ it) :
    Turn P w K (.Tuple elts kk tpos) (IteK k K a) [e, it] e (fun i h => (∃ old, IsEnum h e it ((i : Nat) : Int) old) ∧ ItK k h it a i) where
  mem := by simp
  obj := fun i h st b hb => by
    obtain ⟨⟨old, he⟩, h1⟩ := st
    have e' : b = e ∨ b = it := by simpa using hb
    rcases e' with z | z
    · rw [z]; exact ⟨_, he, fun v q => nomatch q⟩
    · rw [z]; exact itK_ob h1
  keep := fun i h h' st k => let ⟨⟨old, he⟩, hi⟩ := st; ⟨⟨old, k e (by simp) _ he⟩, itK_at hi fun o q => k it (by simp) o q⟩
  item := by
    intro X hP hw hK hc i pins s σ H E I hf st hg
    subst hP hw hK
    obtain ⟨⟨old, he⟩, hit⟩ := st
    obtain ⟨xs, x, hq, hx⟩ := hg
    obtain ⟨its, rv, p, hz⟩ := seq_of I hq
    obtain ⟨u, hu, ru⟩ := rv.get hx
    have hel : e < s.heap.objs.size := Heap.lt_size he
    have hil : it < s.heap.objs.size := by obtain ⟨_, q, _⟩ := itK_ob hit; exact Heap.lt_size q
    have D1 := draws_k (prog := X.prog) (w := X.w) (A := X.A.in1) k (I.ok.hd hc) it a hai its.toArray
    have l1 : i < its.toArray.size := by rw [List.size_toArray]; exact (List.getElem?_eq_some_iff.mp hu).1
    refine wpAny_pyNext_enum_itemD D1 he ⟨hit, p⟩ l1 hne (by simp [hne, hea]) fun x1 h' tk g1 ho st' hT hsz hk => ?_
    have e1 : x1 = u := by
      have : its.toArray[i]? = some u := by simpa using hu
      rw [this] at g1
      exact (Option.some.inj g1).symm
    subst e1
    refine ⟨_, rfl, wpAny_letOwnedTupleGo_enum (s := { s with heap := h', toks := tk + 1 }) ho fun h'' he' sb => ?_⟩
    have hT2 : h''.get? s.heap.objs.size = some { cls := .type "tuple", data := .seq #[.int i tk, x1] } := (sb.2 _ (Nat.ne_of_gt hel)).trans hT
    have new : ObjOk X.prog X.w (upd H s.heap.objs.size (.tup [.int (i : Nat), x])) h'' s.heap.objs.size (.tup [.int (i : Nat), x]) :=
      ⟨by show 2 ≤ sizeLine; decide, [.int i tk, x1], .cons ⟨_, rfl⟩ (.cons ru .nil), ⟨_, hT2, rfl, _, rfl⟩⟩
    have I1 : Inv X pins σ (upd H s.heap.objs.size (.tup [.int (i : Nat), x])) { s with heap := h'', toks := tk + 1 } :=
      I.turnedNew (ch := [e, it]) (fun b ob hb q => (sb.2 b (fun z => hb (by simp [z]))).trans (hk b ob (fun z => hb (by simp [z])) (fun z => hb (by simp [z])) q)) hf (Nat.le_refl _) new
    refine ⟨.ref s.heap.objs.size, _, I1, rfl, ⟨_, x, rfl, I.hok.fresh (Nat.le_refl _), rfl, fun ys hy => by rw [seq_inj I hy hq]; exact hx⟩, ⟨⟨x1, ?_⟩, itK_at st'.1 fun o q => (sb.2 it (Ne.symm hne)).trans q⟩, fun b hb => ?_⟩
    · have e1 : ((i + 1 : Nat) : Int) = (i : Int) + 1 := by omega
      rw [e1]; exact he'
    · have hb' : b < s.heap.objs.size := by
        have e' : b = e ∨ b = it := by simpa using hb
        rcases e' with z | z
        · rw [z]; exact hel
        · rw [z]; exact hil
      rw [upd_ne (Nat.ne_of_lt hb')]
      exact (hf b hb).1
  done := by
    intro X hP hw hK hc i pins s σ H E I hf st hg
    subst hP hw hK
    obtain ⟨⟨old, he⟩, hit⟩ := st
    obtain ⟨xs, hq, hx⟩ := hg
    obtain ⟨its, rv, p, hz⟩ := seq_of I hq
    have hl := rv.length
    have D1 := draws_k (prog := X.prog) (w := X.w) (A := X.A.in1) k (I.ok.hd hc) it a hai its.toArray
    have W := WalksT.enumerateD D1 e hne (by simp [hne, hea]) (by simp)
    subst hx
    have hs : its.toArray.size = xs.length := by rw [List.size_toArray]; omega
    refine W.done s _ _ ⟨⟨old, by rw [hs]; exact he⟩, by rw [hs]; exact ⟨hit, p⟩⟩ fun h' tk hk => ?_
    exact ⟨rfl, I.turnedL (t' := tk) (ch := [e, it]) (fun c o hb q => hk c o hb q) hf⟩
  self := fun A i s Q E st h => wpAny_pyIter_enum st.1.choose_spec h
def iEnumK (K : PySem.W.Frag) (ta : TA) : TI := fun σ H R => ta σ H fun vs H1 => ∃ k a xs, vs = [.ref a] ∧ SqK k K H1 a xs ∧ R (IteK k K a) H1
theorem pi_enumK {X : Cx} {e : Expr} {ta : TA} {p pos tpos : Pos} {elts : List Expr} {kk : Nat} (hg : Gl X "enumerate") (hm : X.mg "enumerate" = none) (ha : PA X [e] ta) (hs : starEach [e] X.env = [(false, eval e X.env)]) :
    PI X (.Tuple elts kk tpos) (.Call (.Name "enumerate" p) [e] [] pos) (iEnumK X.K ta) := by
  refine ⟨fun pins s σ H R I h => ?_⟩
  refine Call_ (ld_blt I hg hm boot_enumerate (PyProof.Rows.callWith_type1 (thn (ha.run pos pins s σ H _ I h) fun us s1 ⟨vs, H1, I1, r1, q1⟩ => ?_) hs rfl))
  obtain ⟨k, a, xs, ex, hq, q⟩ := q1
  subst ex
  cases r1 with
  | cons r rr =>
    cases rr
    cases r
    obtain ⟨its, rv, p', hz⟩ := seq_of I1 hq
    have la : a < s1.heap.objs.size := isK_lt p'
    refine enum_begins0 (begins_k k a its.toArray) p' fun h' he hit hsz hk => wpAny_pyIter_enum he ?_
    have I2 : Inv X pins σ H1 { s1 with heap := h' } := I1.kept (t' := s1.toks) hk
    refine ⟨s1.heap.objs.size + 1, [s1.heap.objs.size + 1, s1.heap.objs.size], _, _, H1, rfl, I2, turn_enumK (a := a) (e := s1.heap.objs.size + 1) (it := s1.heap.objs.size) (Nat.succ_ne_self _) (Nat.ne_of_gt (Nat.lt_succ_of_lt la)) (Nat.ne_of_lt la), ⟨⟨.none, he⟩, itK_new hit⟩, fun b hb => ?_, q⟩
    have e' : b = s1.heap.objs.size + 1 ∨ b = s1.heap.objs.size := by simpa using hb
    have hle : s1.heap.objs.size ≤ b := by
      rcases e' with z | z
      · rw [z]; exact Nat.le_succ _
      · rw [z]; exact Nat.le_refl _
    exact I1.fpOk hle (I1.hok.fresh hle)
theorem walk_enumK {K : PySem.W.Frag} {k : Bool} {a : Addr} {xs : List V} : Walk (IteK k K a) xs.length (fun H => SqK k K H a xs) (YPair (fun i => some (.int (i : Nat))) (fun i => xs[i]?)) := by
  refine ⟨fun i _ hi q => ⟨xs, xs[i], q, by simp [hi]⟩, fun _ q => ⟨xs, q, rfl⟩, fun i H v H' _ q y => ?_⟩
  obtain ⟨T, x, h1, h2, h3, h4⟩ := y
  exact ⟨T, .int (i : Nat), x, h1, h2, h3, rfl, h4 xs q⟩
/-! a list or a tuple as it is -/
def iSeqK (K : PySem.W.Frag) (tl : TE) : TI := fun σ H R => tl σ H fun x H1 => ∃ a, x = .ref a ∧ ((∃ xs, SqL K H1 a xs) ∧ R (Itl K a) H1 ∨ (∃ xs, SqT K H1 a xs) ∧ R (Itt K a) H1)
theorem pi_seqK {X : Cx} {tg l : Expr} {tl : TE} (hl : PE X l tl) : PI X tg l (iSeqK X.K tl) := by
  refine ⟨fun pins s σ H R I h => ?_⟩
  refine thn (hl.run pins s σ H _ I h) fun u s1 ⟨x, H1, I1, r1, a, e, q⟩ => ?_
  subst e
  cases r1
  rcases q with ⟨⟨xs, hq⟩, q⟩ | ⟨⟨xs, hq⟩, q⟩
  · obtain ⟨its, rv, p', hz⟩ := I1.list hq
    refine wpAny_pyIter_list p'.isList (pi_one (tk := s1.toks) I1 _ (turn_list a _) ?_ q)
    exact ⟨_, Heap.get?_push_size _ rfl, rfl, rfl⟩
  · obtain ⟨its, rv, p', hz⟩ := I1.tuple hq
    refine wpAny_pyIter_tuple p' (pi_one (tk := s1.toks) I1 _ (turn_tuple a _) ?_ q)
    exact ⟨_, Heap.get?_push_size _ rfl, rfl, rfl⟩
end PD
end

section
set_option Elab.async false
set_option linter.all false
set_option maxRecDepth 100000
set_option maxHeartbeats 1000000
namespace PD
open PySem PySem.Spec PyProof.Rows L2
variable {X : Cx} {W : WX} {pos : Pos} {e e1 e2 : Expr} {es : List Expr} {f g : M PyData} {fs : M (List PyData)}
variable {K : PySem.W.Frag} {ph : Fx} {am am' : Am} {H H' : Hp} {σ : L2.St} {δ δ' : Sg} {p : Addr}

theorem seqT_hid {a : Addr} {xs : List V} (q : hid ph am H a = some (.tup xs)) : SqT K H a xs := .inl (.inl (hid_sub _ _ q))
theorem rd_hid {a : Addr} {xs : List V} (q : SqL K (hid ph am H) a xs) : SqL K H a xs := hid_sub.seq q
/-- a new object is not hidden -/
theorem new_hid {o : HO} (hn : ∀ b, Hid ph am b → ∃ o, H b = some o) (h : H p = none) : hid ph am (upd H p o) p = some o :=
  hid_some.mpr ⟨fun q => (by
    obtain ⟨o, e⟩ := hn p q
    rw [h] at e
    cases e), upd_same⟩
theorem new_tup {xs : List V} {ds : List PyData} (hn : ∀ b, Hid ph am b → ∃ o, H b = some o) (h : H p = none) (d : DqAll K (hid ph am H) xs ds) : Dq K (hid ph am (upd H p (.tup xs))) (.ref p) (.tuple ds) :=
  .tup (new_hid hn h) (dps_mono (hid_same (same_new h)) d)
theorem new_lst {xs : List V} {ds : List PyData} (hn : ∀ b, Hid ph am b → ∃ o, H b = some o) (h : H p = none) (d : DqAll K (hid ph am H) xs ds) : Dq K (hid ph am (upd H p (.lst xs))) (.ref p) (.list ds) :=
  .lst (.inl (.inl (new_hid hn h))) (dps_mono (hid_same (same_new h)) d)
theorem OpD.or {r r' : R2} {F G : PyData → PyData → Option PyData} (h : OpD X r F) (h' : OpD X r' G) : OpD X (fun x y H Q => r x y H Q ∨ r' x y H Q) (fun a b => match F a b with | some c => some c | none => G a b) := by
  intro ph am H x y d e c Q hn dx dy q k
  simp only at q
  cases hF : F d e with
  | some c' =>
    rw [hF] at q
    cases q
    exact .inl (h ph am H x y d e _ Q hn dx dy hF k)
  | none =>
    rw [hF] at q
    exact .inr (h' ph am H x y d e _ Q hn dx dy q k)

/-! ### ints -/
def intsD (F : Int → Int → Option PyData) : PyData → PyData → Option PyData
  | .int i, .int j => F i j
  | _, _ => none
theorem opd_rI0 {gv : Int → Int → V} {gd : Int → Int → PyData} (h : ∀ H i j, Dq X.K H (gv i j) (gd i j)) : OpD X (rI0 gv) (intsD fun i j => some (gd i j)) := by
  intro ph am H x y d e c Q hn dx dy q k
  cases dx with
  | int i =>
    cases dy with
    | int j =>
      cases q
      exact ⟨i, j, rfl, rfl, k _ H (Same.refl H) (h _ i j)⟩
    | _ => cases q
  | _ => cases q
theorem opd_rI {C : Int → Int → Prop} {Cb : Int → Int → Bool} {gv : Int → Int → V} {gd : Int → Int → PyData} (h : ∀ H i j, Dq X.K H (gv i j) (gd i j)) (hc : ∀ i j, Cb i j = true → C i j) : OpD X (rI C gv) (intsD fun i j => if Cb i j = true then some (gd i j) else none) := by
  intro ph am H x y d e c Q hn dx dy q k
  cases dx with
  | int i =>
    cases dy with
    | int j =>
      obtain ⟨h1, rfl⟩ := if_some q
      exact ⟨i, j, rfl, rfl, hc i j h1, k _ H (Same.refl H) (h _ i j)⟩
    | _ => cases q
  | _ => cases q
def small64 (i : Int) : Bool := decide (-(2 ^ 64) < i) && decide (i < 2 ^ 64)
def mulOk (i j : Int) : Bool := small64 i || small64 j
def subD : PyData → PyData → Option PyData := intsD fun i j => some (.int (i - j))
theorem opd_sub : OpD X (rI0 fun i j => .int (i - j)) subD := opd_rI0 fun _ i j => .int _
def mulI : PyData → PyData → Option PyData := intsD fun i j => if mulOk i j = true then some (.int (i * j)) else none
theorem opd_mulI : OpD X (rI CMul fun i j => .int (i * j)) mulI := opd_rI (fun _ i j => .int _) fun i j h => by
  unfold mulOk small64 at h
  simp only [Bool.or_eq_true, Bool.and_eq_true, decide_eq_true_eq] at h
  exact h
def divOk (j : Int) : Bool := decide (j ≠ 0) && decide (j.natAbs < 1073741824)
def fdivD : PyData → PyData → Option PyData := intsD fun i j => if divOk j = true then some (.int (i.fdiv j)) else none
theorem opd_fdiv : OpD X (rI CDivN fun i j => .int (i.fdiv j)) fdivD := opd_rI (Cb := fun _ j => divOk j) (fun _ i j => .int _) fun i j h => by
  unfold divOk at h
  simp only [Bool.and_eq_true, decide_eq_true_eq] at h
  exact h
def modD : PyData → PyData → Option PyData := intsD fun i j => if decide (j ≠ 0) = true then some (.int (i.fmod j)) else none
theorem opd_mod : OpD X (rI (fun _ j => j ≠ 0) fun i j => .int (i.fmod j)) modD := opd_rI (Cb := fun _ j => decide (j ≠ 0)) (fun _ i j => .int _) fun i j h => of_decide_eq_true h
def powOk (i j : Int) : Bool := decide (0 ≤ j) && decide (j ≤ 1000000) && decide (i.natAbs < 2 ^ 64)
def powD : PyData → PyData → Option PyData := intsD fun i j => if powOk i j = true then some (.int (i ^ j.toNat)) else none
theorem opd_pow : OpD X (rI CPow fun i j => .int (i ^ j.toNat)) powD := opd_rI (Cb := powOk) (fun _ i j => .int _) fun i j h => by
  unfold powOk at h
  simp only [Bool.and_eq_true, decide_eq_true_eq] at h
  exact ⟨h.1.1, h.1.2, h.2⟩
def addI : PyData → PyData → Option PyData := intsD fun i j => some (.int (i + j))
theorem opd_addI : OpD X (rI0 fun i j => .int (i + j)) addI := opd_rI0 fun _ i j => .int _
/-! ### tuples, lists -/
def catT : PyData → PyData → Option PyData
  | .tuple xs, .tuple ys => if xs.length + ys.length ≤ sizeLine then some (.tuple (xs ++ ys)) else none
  | _, _ => none
theorem opd_catT : OpD X (rCatA X.K) catT := by
  intro ph am H x y d e c Q hn dx dy q k
  cases dx with
  | tup h1 a1 =>
    cases dy with
    | tup h2 a2 =>
      rename_i a xs ds b ys es
      obtain ⟨hz, rfl⟩ := if_some q
      have l1 := a1.length
      have l2 := a2.length
      refine ⟨a, b, xs, ys, rfl, rfl, seqT_hid h1, seqT_hid h2, by omega, fun e => ?_, fun _ e => ?_, fun _ _ p np => ?_⟩
      · subst e
        cases a1
        exact k _ H (Same.refl H) (.tup h2 a2)
      · subst e
        cases a2
        rw [List.append_nil] at k
        exact k _ H (Same.refl H) (.tup h1 a1)
      · exact k _ _ (same_new np) (new_tup hn np (a1.append a2))
    | _ => cases q
  | _ => cases q
def catL : PyData → PyData → Option (List PyData)
  | .list xs, .list ys => if xs.length + ys.length ≤ sizeLine then some (xs ++ ys) else none
  | _, _ => none
theorem opf_catL : OpF X (rCatL X.K) catL := by
  intro ph am H x y d e c Q hn dx dy q k
  cases dx with
  | lst h1 a1 =>
    cases dy with
    | lst h2 a2 =>
      rename_i a xs ds b ys es
      obtain ⟨hz, rfl⟩ := if_some q
      have l1 := a1.length
      have l2 := a2.length
      exact ⟨a, b, xs, ys, rfl, rfl, rd_hid h1, rd_hid h2, by omega, fun p np => k p _ np (a1.append a2) (by rw [List.length_append]; omega)⟩
    | _ => cases q
  | _ => cases q
theorem OpF.d {r : R2} {F : PyData → PyData → Option (List PyData)} (h : OpF X r F) : OpD X r (fun a b => (F a b).map .list) := by
  intro ph am H x y d e c Q hn dx dy q k
  simp only at q
  cases hF : F d e with
  | none => rw [hF] at q; cases q
  | some cs =>
    rw [hF] at q
    cases q
    exact h ph am H x y d e cs Q hn dx dy hF fun p vs np dv hz => k _ _ (same_new np) (new_lst hn np dv)
def repT : PyData → PyData → Option PyData
  | .tuple xs, .int k => if -(2 ^ 63) ≤ k ∧ k ≤ 1000 ∧ xs.length ≤ 1000 then some (.tuple (List.replicate k.toNat xs).flatten) else none
  | _, _ => none
theorem DqAll.flat {vs : List V} {ds : List PyData} (h : DqAll K H vs ds) : ∀ n, DqAll K H (List.replicate n vs).flatten (List.replicate n ds).flatten
  | 0 => .nil
  | n + 1 => by
    rw [List.replicate_succ, List.replicate_succ, List.flatten_cons, List.flatten_cons]
    exact h.append (DqAll.flat h n)
theorem opd_repT : OpD X (rRepA X.K) repT := by
  intro ph am H x y d e c Q hn dx dy q k
  cases dx with
  | tup h1 a1 =>
    cases dy with
    | int n =>
      rename_i a xs ds
      obtain ⟨⟨z1, z2, z3⟩, rfl⟩ := if_some q
      have l1 := a1.length
      refine ⟨a, n, xs, rfl, rfl, seqT_hid h1, z1, z2, by omega, fun e => ?_, fun _ _ p np => ?_⟩
      · have e' : (List.replicate n.toNat ds).flatten = ds := by
          rcases e with e | e
          · subst e
            cases a1
            rw [List.flatten_replicate_nil]
          · subst e
            show (List.replicate 1 ds).flatten = ds
            simp
        rw [e'] at k
        exact k _ H (Same.refl H) (.tup h1 a1)
      · exact k _ _ (same_new np) (new_tup hn np (a1.flat _))
    | _ => cases q
  | _ => cases q
/-! ### the operators at any data -/
def addD : PyData → PyData → Option PyData := fun a b => match addI a b with | some c => some c | none => (fun a b => match catT a b with | some c => some c | none => (fun a b => (catL a b).map .list) a b) a b
theorem de_add (ha : DE X W e1 f) (hb : DE X W e2 g) : DE X W (.BinOp e1 .Add e2 pos) (xBin addD f g) :=
  de_bin (opd_addI.or (opd_catT.or opf_catL.d)) (op_add.or (op_catA.or op_catL)) ha hb
theorem df_cat (ha : DE X W e1 f) (hb : DE X W e2 g) : DF X W (.BinOp e1 .Add e2 pos) (xBinF catL f g) :=
  binF_core opf_catL ha hb fun _ _ pa pb => pe_op op_catL pa pb
theorem de_sub (ha : DE X W e1 f) (hb : DE X W e2 g) : DE X W (.BinOp e1 .Sub e2 pos) (xBin subD f g) := de_bin opd_sub op_sub ha hb
def mulD : PyData → PyData → Option PyData := fun a b => match mulI a b with | some c => some c | none => repT a b
theorem de_mul (ha : DE X W e1 f) (hb : DE X W e2 g) : DE X W (.BinOp e1 .Mult e2 pos) (xBin mulD f g) := de_bin (opd_mulI.or opd_repT) (op_mul.or op_repA) ha hb
theorem de_fdiv (ha : DE X W e1 f) (hb : DE X W e2 g) : DE X W (.BinOp e1 .FloorDiv e2 pos) (xBin fdivD f g) := de_bin opd_fdiv op_fdivN ha hb
theorem de_mod (ha : DE X W e1 f) (hb : DE X W e2 g) : DE X W (.BinOp e1 .Mod e2 pos) (xBin modD f g) := de_bin opd_mod op_modN ha hb
theorem de_pow (ha : DE X W e1 f) (hb : DE X W e2 g) : DE X W (.BinOp e1 .Pow e2 pos) (xBin powD f g) := de_bin opd_pow op_pow ha hb
/-! ### comparisons -/
def ltD : PyData → PyData → Option PyData := intsD fun i j => some (.bool (decide (i < j)))
def leD : PyData → PyData → Option PyData := intsD fun i j => some (.bool (decide (i ≤ j)))
def gtD : PyData → PyData → Option PyData := intsD fun i j => some (.bool (decide (j < i)))
def geD : PyData → PyData → Option PyData := intsD fun i j => some (.bool (decide (j ≤ i)))
theorem opd_lt : OpD X (rI0 fun i j => .bl (decide (i < j))) ltD := opd_rI0 fun _ i j => .bl _
theorem opd_le : OpD X (rI0 fun i j => .bl (decide (i ≤ j))) leD := opd_rI0 fun _ i j => .bl _
theorem opd_gt : OpD X (rI0 fun i j => .bl (decide (j < i))) gtD := opd_rI0 fun _ i j => .bl _
theorem opd_ge : OpD X (rI0 fun i j => .bl (decide (j ≤ i))) geD := opd_rI0 fun _ i j => .bl _
theorem de_lt (ha : DE X W e1 f) (hb : DE X W e2 g) : DE X W (.Compare e1 [.Lt] [e2] pos) (xBin ltD f g) := de_cmp opd_lt op_lt (nomark _) ha hb
theorem de_le (ha : DE X W e1 f) (hb : DE X W e2 g) : DE X W (.Compare e1 [.LtE] [e2] pos) (xBin leD f g) := de_cmp opd_le op_le (nomark _) ha hb
theorem de_gt (ha : DE X W e1 f) (hb : DE X W e2 g) : DE X W (.Compare e1 [.Gt] [e2] pos) (xBin gtD f g) := de_cmp opd_gt op_gt (nomark _) ha hb
theorem de_ge (ha : DE X W e1 f) (hb : DE X W e2 g) : DE X W (.Compare e1 [.GtE] [e2] pos) (xBin geD f g) := de_cmp opd_ge op_ge (nomark _) ha hb
def eqD (a b : PyData) : Option PyData := if SeqAt.shaped a = true ∧ SeqAt.shaped b = true then some (.bool (PyData.eqv a b)) else none
def neD (a b : PyData) : Option PyData := if SeqAt.shaped a = true ∧ SeqAt.shaped b = true then some (.bool (!PyData.eqv a b)) else none
theorem opd_eq : OpD X (rEqD X.K) eqD := by
  intro ph am H x y d e c Q hn dx dy q k
  obtain ⟨⟨h1, h2⟩, rfl⟩ := if_some q
  exact ⟨d, e, (dp_mono hid_sub dx).dp, (dp_mono hid_sub dy).dp, h1, h2, k _ H (Same.refl H) (.bl _)⟩
theorem opd_ne : OpD X (rNeD X.K) neD := by
  intro ph am H x y d e c Q hn dx dy q k
  obtain ⟨⟨h1, h2⟩, rfl⟩ := if_some q
  exact ⟨d, e, (dp_mono hid_sub dx).dp, (dp_mono hid_sub dy).dp, h1, h2, k _ H (Same.refl H) (.bl _)⟩
theorem de_eq (hu : X.A.units + 64 < cLine) (ha : DE X W e1 f) (hb : DE X W e2 g) : DE X W (.Compare e1 [.Eq] [e2] pos) (xBin eqD f g) := de_cmp opd_eq (op_eqD hu) (nomark _) ha hb
theorem de_ne (hu : X.A.units + 64 < cLine) (ha : DE X W e1 f) (hb : DE X W e2 g) : DE X W (.Compare e1 [.NotEq] [e2] pos) (xBin neD f g) := de_cmp opd_ne (op_neD hu) (nomark _) ha hb
def isNone : PyData → Bool
  | .none => true
  | _ => false
def isD (a b : PyData) : Option PyData := if isNone b = true then some (.bool (isNone a)) else none
def isnotD (a b : PyData) : Option PyData := if isNone b = true then some (.bool (!isNone a)) else none
theorem dq_none {v : V} {d : PyData} (h : Dq K H v d) : isNone d = decide (v = .non) := by cases h <;> rfl
theorem opd_is : OpD X (fun x y H Q => y = .non ∧ Q (.bl (decide (x = .non))) H) isD := by
  intro ph am H x y d e c Q hn dx dy q k
  obtain ⟨h1, rfl⟩ := if_some q
  refine ⟨?_, ?_⟩
  · rw [dq_none dy] at h1
    exact of_decide_eq_true h1
  · rw [dq_none dx] at k
    exact k _ H (Same.refl H) (.bl _)
theorem opd_isnot : OpD X (fun x y H Q => y = .non ∧ Q (.bl (!decide (x = .non))) H) isnotD := by
  intro ph am H x y d e c Q hn dx dy q k
  obtain ⟨h1, rfl⟩ := if_some q
  refine ⟨?_, ?_⟩
  · rw [dq_none dy] at h1
    exact of_decide_eq_true h1
  · rw [dq_none dx] at k
    exact k _ H (Same.refl H) (.bl _)
theorem de_is (ha : DE X W e1 f) (hb : DE X W e2 g) : DE X W (.Compare e1 [.Is] [e2] pos) (xBin isD f g) := de_cmp opd_is op_isN (nomark _) ha hb
theorem de_isnot (ha : DE X W e1 f) (hb : DE X W e2 g) : DE X W (.Compare e1 [.IsNot] [e2] pos) (xBin isnotD f g) := de_cmp opd_isnot op_notN (nomark _) ha hb
/-! ### signs -/
def negD : PyData → Option PyData
  | .int i => some (.int (-i))
  | _ => none
theorem und_neg : UnD X (rU fun i => .int (-i)) negD := by
  intro ph am H x d c Q hn dx q k
  cases dx with
  | int i =>
    cases q
    exact ⟨i, rfl, k _ H (Same.refl H) (.int _)⟩
  | _ => cases q
theorem de_neg (ha : DE X W e1 f) : DE X W (.UnaryOp .USub e1 pos) (xUn negD f) := de_un und_neg un_neg ha
/-! ### subscripts -/
def ixD : PyData → PyData → Option PyData
  | .list xs, .int i => atI xs i
  | .tuple xs, .int i => atI xs i
  | _, _ => none
theorem atI_get {vs : List V} {ds : List PyData} {i : Int} {d : PyData} (h : DqAll K H vs ds) (e : atI ds i = some d) : ∃ v, atI vs i = some v ∧ Dq K H v d := by
  unfold atI at e ⊢
  rw [h.length]
  cases hj : ixN ds.length i with
  | none => rw [hj] at e; cases e
  | some j =>
    rw [hj] at e
    exact h.get e
theorem de_ix (hs : PlainIx e2) (ha : DE X W e1 f) (hb : DE X W e2 g) : DE X W (.Subscript e1 e2 pos) (xBin ixD f g) :=
  bin_core (r := rIx X.K) (fun ph am H x y d e c Q hn dx dy q k => by
    cases dx with
    | lst h1 a1 =>
      cases dy with
      | int i =>
        obtain ⟨v, q1, q2⟩ := atI_get a1 q
        exact .inl ⟨_, _, i, v, rfl, rfl, rd_hid h1, q1, k _ H (Same.refl H) q2⟩
      | _ => cases q
    | tup h1 a1 =>
      cases dy with
      | int i =>
        obtain ⟨v, q1, q2⟩ := atI_get a1 q
        exact .inr (.inl ⟨_, _, i, v, rfl, rfl, seqT_hid h1, q1, k _ H (Same.refl H) q2⟩)
      | _ => cases q
    | _ => cases q) ha hb fun _ _ pa pb => pe_ix ix_seq pa pb hs
/-! ### calls -/
variable {t : TA} {p1 : Pos}
def lenD : List PyData → Option PyData
  | [.list xs] => some (.int xs.length)
  | [.tuple xs] => some (.int xs.length)
  | _ => none
theorem calld_len : CallD X (fun xs H Q => ∃ p ys, xs = [.ref p] ∧ (SqL X.K H p ys ∨ SqT X.K H p ys) ∧ Q (.int ys.length) H) lenD := by
  intro ph am H xs ds c Q hn dx q k
  cases dx with
  | nil => cases q
  | cons h t =>
    cases t with
    | cons _ _ => cases h <;> cases q
    | nil =>
      cases h with
      | lst h1 a1 => cases q; exact ⟨_, _, rfl, .inl (rd_hid h1), k _ H (Same.refl H) (by rw [← a1.length]; exact .int _)⟩
      | tup h1 a1 => cases q; exact ⟨_, _, rfl, .inr (seqT_hid h1), k _ H (Same.refl H) (by rw [← a1.length]; exact .int _)⟩
      | _ => cases q
def intD : List PyData → Option PyData
  | [.int i] => some (.int i)
  | [.bool k] => some (.int (if k then 1 else 0))
  | _ => none
theorem calld_int : CallD X (fun xs H Q => (∃ i, xs = [.int i] ∧ Q (.int i) H) ∨ ∃ k, xs = [.bl k] ∧ Q (.int (if k then 1 else 0)) H) intD := by
  intro ph am H xs ds c Q hn dx q k
  cases dx with
  | nil => cases q
  | cons h t =>
    cases t with
    | cons _ _ => cases h <;> cases q
    | nil =>
      cases h with
      | int i => cases q; exact .inl ⟨i, rfl, k _ H (Same.refl H) (.int _)⟩
      | bl b => cases q; exact .inr ⟨b, rfl, k _ H (Same.refl H) (.int _)⟩
      | _ => cases q
def absD : List PyData → Option PyData
  | [.int i] => some (.int (if i < 0 then -i else i))
  | _ => none
theorem calld_abs : CallD X (fun xs H Q => ∃ i, xs = [.int i] ∧ Q (.int (if i < 0 then -i else i)) H) absD := by
  intro ph am H xs ds c Q hn dx q k
  cases dx with
  | nil => cases q
  | cons h t =>
    cases t with
    | cons _ _ => cases h <;> cases q
    | nil =>
      cases h with
      | int i => cases q; exact ⟨i, rfl, k _ H (Same.refl H) (.int _)⟩
      | _ => cases q

/-- a built-in called by its name -/
theorem de_callB {id : String} {x : Str} {r : List V → Hp → VK → Prop} {F : List PyData → Option PyData} (hr : CallD X r F) (hc : CallR X (.builtin id) r) (hm : X.mg x = none) (hv : bootBuiltins x = some (.builtin id)) (h : DA X W (e :: es) fs)
    (hg : Gl X x := by rfl) (hn : x ≠ "__name__" := by decide) (hdb : (x == ("__debug__" : Str)) = false := by decide)
    (he : starEach (e :: es) X.env = (false, eval e X.env) :: starEach es X.env := by rfl) (hpl : (backTo pos (starEach es X.env)).any (·.1) = false := by rfl) : DE X W (.Call (.Name x p1) (e :: es) [] pos) (xCall F fs) :=
  call_core hr h fun t pa => pe_callB hc hg hm hv pa hn hdb he hpl
theorem de_callTy {T : String} {x : Str} {r : List V → Hp → VK → Prop} {F : List PyData → Option PyData} (hr : CallD X r F) (hc : CallR X (.type T) r) (hm : X.mg x = none) (hv : bootBuiltins x = some (.type T)) (h : DA X W (e :: es) fs)
    (hg : Gl X x := by rfl) (hn : x ≠ "__name__" := by decide) (hdb : (x == ("__debug__" : Str)) = false := by decide)
    (he : starEach (e :: es) X.env = (false, eval e X.env) :: starEach es X.env := by rfl) (hpl : (backTo pos (starEach es X.env)).any (·.1) = false := by rfl) : DE X W (.Call (.Name x p1) (e :: es) [] pos) (xCall F fs) :=
  call_core hr h fun t pa => pe_callTy hc hg hm hv pa hn hdb he hpl
theorem df_callTy {T : String} {x : Str} {r : List V → Hp → VK → Prop} {F : List PyData → Option (List PyData)} (hr : CallF X r F) (hc : CallR X (.type T) r) (hm : X.mg x = none) (hv : bootBuiltins x = some (.type T)) (h : DA X W (e :: es) fs)
    (hg : Gl X x := by rfl) (hn : x ≠ "__name__" := by decide) (hdb : (x == ("__debug__" : Str)) = false := by decide)
    (he : starEach (e :: es) X.env = (false, eval e X.env) :: starEach es X.env := by rfl) (hpl : (backTo pos (starEach es X.env)).any (·.1) = false := by rfl) : DF X W (.Call (.Name x p1) (e :: es) [] pos) (xCallF F fs) :=
  callF_core hr h fun t pa => pe_callTy hc hg hm hv pa hn hdb he hpl
/-! all, any, sum, tuple, list -/
def bools? : List PyData → Option (List Bool)
  | [] => some []
  | .bool b :: r => (bools? r).map (b :: ·)
  | _ :: _ => none
def ints? : List PyData → Option (List Int)
  | [] => some []
  | .int i :: r => (ints? r).map (i :: ·)
  | _ :: _ => none
theorem bools_vs : ∀ {vs : List V} {ds : List PyData} {bs : List Bool}, DqAll K H vs ds → bools? ds = some bs → vs = bs.map V.bl
  | _, _, _, .nil, h => by cases h; rfl
  | _, d :: r, bs, .cons hd t, h => by
    cases hd with
    | bl b =>
      unfold bools? at h
      cases hr : bools? r with
      | none => rw [hr] at h; cases h
      | some bs' =>
        rw [hr] at h
        cases h
        rw [bools_vs t hr]
        rfl
    | _ => cases h
theorem ints_vs : ∀ {vs : List V} {ds : List PyData} {bs : List Int}, DqAll K H vs ds → ints? ds = some bs → vs = bs.map V.int
  | _, _, _, .nil, h => by cases h; rfl
  | _, d :: r, bs, .cons hd t, h => by
    cases hd with
    | int b =>
      unfold ints? at h
      cases hr : ints? r with
      | none => rw [hr] at h; cases h
      | some bs' =>
        rw [hr] at h
        cases h
        rw [ints_vs t hr]
        rfl
    | _ => cases h
def allD : List PyData → Option PyData
  | [.list xs] => (bools? xs).map fun bs => .bool (bs.all id)
  | _ => none
def anyD : List PyData → Option PyData
  | [.list xs] => (bools? xs).map fun bs => .bool (bs.any id)
  | _ => none
def sumD : List PyData → Option PyData
  | [.list xs] => (ints? xs).map fun bs => .int bs.sum
  | _ => none
theorem one_list {F : List PyData → Option PyData} {R : List PyData → PyData → Prop} {r : List V → Hp → VK → Prop} (hF : ∀ ds c, F ds = some c → ∃ xs, ds = [.list xs] ∧ R xs c)
    (hr : ∀ a vs xs c H (ph : Fx) (am : Am) (Q : VK), SqL X.K H a vs → DqAll X.K (hid ph am H) vs xs → R xs c → (∀ v, Dq X.K (hid ph am H) v c → Q v H) → r [.ref a] H Q) : CallD X r F := by
  intro ph am H xs ds c Q hn dx q k
  obtain ⟨ys, rfl, h⟩ := hF ds c q
  cases dx with
  | cons h1 t =>
    cases t
    cases h1 with
    | lst h1 a1 => exact hr _ _ ys c H ph am Q (rd_hid h1) a1 h fun v dv => k v H (Same.refl H) dv
theorem calld_all : CallD X (rAll X.K) allD := one_list (R := fun xs c => ∃ bs, bools? xs = some bs ∧ c = .bool (bs.all id)) (fun ds c h => by
    unfold allD at h
    split at h
    · rename_i xs
      cases hb : bools? xs with
      | none => rw [hb] at h; cases h
      | some bs => rw [hb] at h; cases h; exact ⟨xs, rfl, bs, hb, rfl⟩
    · cases h) fun a vs xs c H ph am Q h1 a1 ⟨bs, hb, e⟩ k => by
      subst e
      have := bools_vs a1 hb
      subst this
      exact ⟨a, bs, rfl, h1, k _ (.bl _)⟩
theorem calld_any : CallD X (rAny X.K) anyD := one_list (R := fun xs c => ∃ bs, bools? xs = some bs ∧ c = .bool (bs.any id)) (fun ds c h => by
    unfold anyD at h
    split at h
    · rename_i xs
      cases hb : bools? xs with
      | none => rw [hb] at h; cases h
      | some bs => rw [hb] at h; cases h; exact ⟨xs, rfl, bs, hb, rfl⟩
    · cases h) fun a vs xs c H ph am Q h1 a1 ⟨bs, hb, e⟩ k => by
      subst e
      have := bools_vs a1 hb
      subst this
      exact ⟨a, bs, rfl, h1, k _ (.bl _)⟩
theorem calld_sum : CallD X (rSum X.K) sumD := one_list (R := fun xs c => ∃ bs, ints? xs = some bs ∧ c = .int bs.sum) (fun ds c h => by
    unfold sumD at h
    split at h
    · rename_i xs
      cases hb : ints? xs with
      | none => rw [hb] at h; cases h
      | some bs => rw [hb] at h; cases h; exact ⟨xs, rfl, bs, hb, rfl⟩
    · cases h) fun a vs xs c H ph am Q h1 a1 ⟨bs, hb, e⟩ k => by
      subst e
      have := ints_vs a1 hb
      subst this
      exact ⟨a, bs, rfl, h1, k _ (.int _)⟩
def tupleD : List PyData → Option PyData
  | [.list xs] => some (.tuple xs)
  | [.tuple xs] => some (.tuple xs)
  | _ => none
theorem calld_tuple : CallD X (fun xs H Q => ∃ p ys, xs = [.ref p] ∧ ((SqL X.K H p ys ∧ ∀ l, H l = none → Q (.ref l) (upd H l (.tup ys))) ∨ (SqT X.K H p ys ∧ Q (.ref p) H))) tupleD := by
  intro ph am H xs ds c Q hn dx q k
  cases dx with
  | nil => cases q
  | cons h t =>
    cases t with
    | cons _ _ => cases h <;> cases q
    | nil =>
      cases h with
      | lst h1 a1 => cases q; exact ⟨_, _, rfl, .inl ⟨rd_hid h1, fun l nl => k _ _ (same_new nl) (new_tup hn nl a1)⟩⟩
      | tup h1 a1 => cases q; exact ⟨_, _, rfl, .inr ⟨seqT_hid h1, k _ H (Same.refl H) (.tup h1 a1)⟩⟩
      | _ => cases q
def listD : List PyData → Option (List PyData)
  | [.list xs] => if xs.length ≤ sizeLine then some xs else none
  | [.tuple xs] => if xs.length ≤ sizeLine then some xs else none
  | _ => none
theorem callf_list : CallF X (fun xs H Q => ∃ p ys, xs = [.ref p] ∧ (SqL X.K H p ys ∨ SqT X.K H p ys) ∧ ∀ l, H l = none → Q (.ref l) (upd H l (.lst ys))) listD := by
  intro ph am H xs ds c Q hn dx q k
  cases dx with
  | nil => cases q
  | cons h t =>
    cases t with
    | cons _ _ => cases h <;> cases q
    | nil =>
      cases h with
      | lst h1 a1 =>
        obtain ⟨hz, rfl⟩ := if_some q
        exact ⟨_, _, rfl, .inl (rd_hid h1), fun l nl => k _ _ nl a1 (by rw [a1.length]; exact hz)⟩
      | tup h1 a1 =>
        obtain ⟨hz, rfl⟩ := if_some q
        exact ⟨_, _, rfl, .inr (seqT_hid h1), fun l nl => k _ _ nl a1 (by rw [a1.length]; exact hz)⟩
      | _ => cases q
/-! isinstance -/
def tyOfD : PyData → String
  | .none => "NoneType"
  | .bool _ => "bool"
  | .int _ => "int"
  | .str _ => "str"
  | .list _ => "list"
  | .tuple _ => "tuple"
  | .dict _ => "dict"
theorem tyx_of {v : V} {d : PyData} (h : Dq X.K (hid ph am H) v d) : TyX X.K H v (.type (tyOfD d)) := by
  cases h with
  | non => exact .base .non
  | bl b => exact .base (.bl b)
  | int i => exact .base (.int i)
  | str x => exact .base (.str x)
  | lst h1 _ =>
    rcases rd_hid h1 with (q | ⟨o, q⟩) | ⟨o, its, n, q, c, _⟩
    · exact .base (.lst q)
    · exact .base (.frz q)
    · exact .kList q c
  | tup h1 _ =>
    rcases seqT_hid h1 with (q | ⟨o, q⟩) | ⟨o, its, n, q, c, _⟩
    · exact .base (.tup q)
    · exact .fTuple q
    · exact .kTuple q c
end PD
end

section
set_option Elab.async false
set_option linter.all false
set_option maxRecDepth 100000
set_option maxHeartbeats 1000000
namespace PD
open PySem PySem.Spec PyProof.Rows L2
variable {X : Cx} {W : WX} {pos : Pos} {e e1 e2 e3 : Expr} {es : List Expr} {f g h : M PyData} {fs : M (List PyData)} {fb gb : M Bool}
variable {K : PySem.W.Frag} {ph : Fx} {am am' : Am} {H H' : Hp} {σ : L2.St} {δ δ' : Sg} {p p1 p2 : Addr}

/-! ### isinstance -/
def isSub (s T : String) : Bool := s == T || (s == "bool" && T == "int")
theorem kit_tab : ∀ s ∈ ["NoneType", "bool", "int", "str", "list", "tuple", "dict"], ∀ T ∈ ["int", "bool", "str", "list", "tuple"], kitB s T = some (isSub s T) := by decide +kernel
theorem tyOf_mem (d : PyData) : tyOfD d ∈ ["NoneType", "bool", "int", "str", "list", "tuple", "dict"] := by cases d <;> simp [tyOfD]
def isiD (Ts : List String) (d : PyData) : Option PyData := some (.bool (Ts.any (isSub (tyOfD d))))
theorem kit_any {t : String} (ht : t ∈ ["NoneType", "bool", "int", "str", "list", "tuple", "dict"]) : ∀ {Ts : List String}, (∀ T ∈ Ts, T ∈ ["int", "bool", "str", "list", "tuple"]) → PySem.W.kitAny K (.type t) (Ts.map .type) = some (Ts.any (isSub t))
  | [], _ => rfl
  | T :: Ts, hT => by
    have h1 := kit_tab t ht T (hT T (by simp))
    refine kitAny_cons (b := isSub t T) (kit_ty h1) (fun e => ?_) (fun e => ?_)
    · rw [kit_any ht fun T h => hT T (by simp [h])]
      simp [e]
    · simp [e]
variable {pf pt pT : Pos}
theorem de_isi1 {T : Str} (Tn : String) (hT : Tn ∈ ["int", "bool", "str", "list", "tuple"]) (hm : X.mg "isinstance" = none) (hmT : X.mg T = none) (hv : bootBuiltins T = some (.type Tn)) (he : DE X W e f)
    (hg : Gl X "isinstance" := by rfl) (hgT : Gl X T := by rfl) (hn : T ≠ "__name__" := by decide) (hd : (T == ("__debug__" : Str)) = false := by decide)
    (hs1 : starEach [.Name T pT] X.env = (false, eval (.Name T pT) X.env) :: starEach [] X.env := by rfl)
    (hs : starEach [e, .Name T pT] X.env = (false, eval e X.env) :: starEach [.Name T pT] X.env := by rfl) (hpl : (backTo pos (starEach [.Name T pT] X.env)).any (·.1) = false := by rfl) :
    DE X W (.Call (.Name "isinstance" pf) [e, .Name T pT] [] pos) (xUn (isiD [Tn]) f) := by
  obtain ⟨ta, pa, qa⟩ := he.ex
  refine ⟨⟨_, pe_callB call_isi hg hm boot_isinstance (pa_cons pa (pa_cons (pe_bltn (v := .ty Tn) hgT hmT hv rfl hn hd) pa_nil hs1) hs) (by decide) (by decide) hs hpl, fun ph am σ H δ Q ans δ' s q k kx => ?_⟩⟩
  rcases bnd_some q with ⟨a, δ1, e1, q1⟩ | ⟨c, fs, e1, q1⟩
  · refine qa ph am σ H δ _ _ _ s e1 (fun d ed am1 x H1 st1 s1 d1 => ?_) (fun c fs z => by cases z)
    cases ed
    obtain ⟨z, e3, rfl, rfl⟩ := lif_some q1
    cases e3
    refine ⟨x, .ty Tn, .type (tyOfD a), .type Tn, isSub (tyOfD a) Tn, rfl, .ty Tn, tyx_of d1, kit_ty (kit_tab _ (tyOf_mem a) _ hT), k _ rfl am1 _ H1 st1 s1 ?_⟩
    have : [Tn].any (isSub (tyOfD a)) = isSub (tyOfD a) Tn := by simp
    rw [this]
    exact .bl _
  · subst q1
    exact qa ph am σ H δ _ _ _ s e1 (fun d ed => by cases ed) (fun c' fs' z => by cases z; exact kx _ _ rfl)
/-- isinstance(x, (S, T)) -/
theorem de_isi2 {S T : Str} {kk : Nat} {pS pT2 : Pos} (Sn Tn : String) (hS : Sn ∈ ["int", "bool", "str", "list", "tuple"]) (hT : Tn ∈ ["int", "bool", "str", "list", "tuple"]) (hm : X.mg "isinstance" = none) (hmS : X.mg S = none) (hvS : bootBuiltins S = some (.type Sn)) (hmT : X.mg T = none) (hv : bootBuiltins T = some (.type Tn)) (he : DE X W e f)
    (hg : Gl X "isinstance" := by rfl) (hgS : Gl X S := by rfl) (hnS : S ≠ "__name__" := by decide) (hdS : (S == ("__debug__" : Str)) = false := by decide) (hgT : Gl X T := by rfl) (hn : T ≠ "__name__" := by decide) (hd : (T == ("__debug__" : Str)) = false := by decide)
    (hs0 : starEach [.Name T pT] X.env = (false, eval (.Name T pT) X.env) :: starEach [] X.env := by rfl)
    (hs2 : starEach [.Name S pS, .Name T pT] X.env = (false, eval (.Name S pS) X.env) :: starEach [.Name T pT] X.env := by rfl)
    (hs1 : starEach [.Tuple [.Name S pS, .Name T pT] kk pT2] X.env = (false, eval (.Tuple [.Name S pS, .Name T pT] kk pT2) X.env) :: starEach [] X.env := by rfl)
    (hs : starEach [e, .Tuple [.Name S pS, .Name T pT] kk pT2] X.env = (false, eval e X.env) :: starEach [.Tuple [.Name S pS, .Name T pT] kk pT2] X.env := by rfl) (hpl : (backTo pos (starEach [.Tuple [.Name S pS, .Name T pT] kk pT2] X.env)).any (·.1) = false := by rfl) :
    DE X W (.Call (.Name "isinstance" pf) [e, .Tuple [.Name S pS, .Name T pT] kk pT2] [] pos) (xUn (isiD [Sn, Tn]) f) := by
  obtain ⟨ta, pa, qa⟩ := he.ex
  refine ⟨⟨_, pe_callB call_isiT hg hm boot_isinstance (pa_cons pa (pa_cons (pe_tup (pa_cons (pe_bltn (v := .ty Sn) hgS hmS hvS rfl hnS hdS) (pa_cons (pe_bltn (v := .ty Tn) hgT hmT hv rfl hn hd) pa_nil hs0) hs2)) pa_nil hs1) hs) (by decide) (by decide) hs hpl, fun ph am σ H δ Q ans δ' s q k kx => ?_⟩⟩
  rcases bnd_some q with ⟨a, δ1, e1, q1⟩ | ⟨c, fs, e1, q1⟩
  · refine qa ph am σ H δ _ _ _ s e1 (fun d ed am1 x H1 st1 s1 d1 => ?_) (fun c fs z => by cases z)
    cases ed
    obtain ⟨z, e3, rfl, rfl⟩ := lif_some q1
    cases e3
    refine ⟨by show 2 ≤ sizeLine; decide, fun p np => ?_⟩
    have sm : Same H1 (upd H1 p (.tup [.ty Sn, .ty Tn])) := same_new np
    refine ⟨x, p, [.ty Sn, .ty Tn], .type (tyOfD a), [.type Sn, .type Tn], [Sn, Tn].any (isSub (tyOfD a)), rfl, upd_same, .cons (.ty Sn) (.cons (.ty Tn) .nil), tyx_of (dp_mono (hid_same sm) d1), kit_any (K := X.K) (Ts := [Sn, Tn]) (tyOf_mem a) (fun T h => ?_), k _ rfl am1 _ _ (st1.trans (Step.of sm)) (s1.same sm) (.bl _)⟩
    simp only [List.mem_cons, List.not_mem_nil, or_false] at h
    rcases h with rfl | rfl
    · exact hS
    · exact hT
  · subst q1
    exact qa ph am σ H δ _ _ _ s e1 (fun d ed => by cases ed) (fun c' fs' z => by cases z; exact kx _ _ rfl)

/-! ### tests -/
def truthD : PyData → Option Bool
  | .none => some false
  | .bool b => some b
  | .int i => some (i != 0)
  | .str x => if x.length ≤ sizeLine then some ((x.length : Int) != 0) else none
  | .list xs => some (!xs.isEmpty)
  | .tuple xs => some (!xs.isEmpty)
  | _ => none
theorem tru_of {v : V} {d : PyData} {b : Bool} (h : Dq X.K (hid ph am H) v d) (e : truthD d = some b) : TruV X.K v H b := by
  cases h with
  | non => cases e; rfl
  | bl b => cases e; rfl
  | int i => cases e; rfl
  | str x => obtain ⟨h1, rfl⟩ := if_some e; exact ⟨h1, rfl⟩
  | lst h1 a1 =>
    cases e
    refine .inl ⟨_, rd_hid h1, ?_⟩
    cases a1 <;> rfl
  | tup h1 a1 =>
    cases e
    refine .inr (.inl ⟨_, seqT_hid h1, ?_⟩)
    cases a1 <;> rfl
def boolD : PyData → Option Bool
  | .bool b => some b
  | _ => none
def xTru (f : M PyData) : M Bool := bnd f fun d => lif (truthD d)
def xBool (f : M PyData) : M Bool := bnd f fun d => lif (boolD d)
theorem dt_tru (ha : DE X W e f) (he : ∀ whole, isTrue e X.env whole = (do let v ← whole; standAt e.pos; holding [v] (truthy v)) := by intro _; rfl) : DT X W e (xTru f) := by
  obtain ⟨ta, pa, qa⟩ := ha.ex
  refine ⟨⟨_, pt_truth pa he, fun ph am σ H δ Q ans δ' s q k kx => ?_⟩⟩
  rcases bnd_some q with ⟨a, δ1, e1, q1⟩ | ⟨c, fs, e1, q1⟩
  · refine qa ph am σ H δ _ _ _ s e1 (fun d ed am1 x H1 st1 s1 d1 => ?_) (fun c fs z => by cases z)
    cases ed
    obtain ⟨z, e3, rfl, rfl⟩ := lif_some q1
    exact ⟨z, tru_of d1 e3, k _ rfl am1 H1 st1 s1⟩
  · subst q1
    exact qa ph am σ H δ _ _ _ s e1 (fun d ed => by cases ed) (fun c' fs' z => by cases z; exact kx _ _ rfl)
theorem bool_read {t : TE} (qa : ReadE X W t f) : ReadT X W (tTest t) (xBool f) := by
  intro ph am σ H δ Q ans δ' s q k kx
  rcases bnd_some q with ⟨a, δ1, e1, q1⟩ | ⟨c, fs, e1, q1⟩
  · refine qa ph am σ H δ _ _ _ s e1 (fun d ed am1 x H1 st1 s1 d1 => ?_) (fun c fs z => by cases z)
    cases ed
    obtain ⟨z, e3, rfl, rfl⟩ := lif_some q1
    cases d1 with
    | bl b => cases e3; exact ⟨_, rfl, k _ rfl am1 H1 st1 s1⟩
    | _ => cases e3
  · subst q1
    exact qa ph am σ H δ _ _ _ s e1 (fun d ed => by cases ed) (fun c' fs' z => by cases z; exact kx _ _ rfl)
theorem dt_cmp {op : CmpOp} {r : R2} {F : PyData → PyData → Option PyData} (hr : OpD X r F) (ho : OpR X (compareOp op) r) (hm : behindInMarks op e2 = false) (ha : DE X W e1 f) (hb : DE X W e2 g) : DT X W (.Compare e1 [op] [e2] pos) (xBool (xBin F f g)) := by
  obtain ⟨ta, pa, qa⟩ := ha.ex
  obtain ⟨tb, pb, qb⟩ := hb.ex
  exact ⟨⟨_, pt_cmpR ho pa pb hm, bool_read (bin_read hr qa qb)⟩⟩
theorem dt_lt (ha : DE X W e1 f) (hb : DE X W e2 g) : DT X W (.Compare e1 [.Lt] [e2] pos) (xBool (xBin ltD f g)) := dt_cmp opd_lt op_lt (nomark _) ha hb
theorem dt_le (ha : DE X W e1 f) (hb : DE X W e2 g) : DT X W (.Compare e1 [.LtE] [e2] pos) (xBool (xBin leD f g)) := dt_cmp opd_le op_le (nomark _) ha hb
theorem dt_gt (ha : DE X W e1 f) (hb : DE X W e2 g) : DT X W (.Compare e1 [.Gt] [e2] pos) (xBool (xBin gtD f g)) := dt_cmp opd_gt op_gt (nomark _) ha hb
theorem dt_ge (ha : DE X W e1 f) (hb : DE X W e2 g) : DT X W (.Compare e1 [.GtE] [e2] pos) (xBool (xBin geD f g)) := dt_cmp opd_ge op_ge (nomark _) ha hb
theorem dt_eq (hu : X.A.units + 64 < cLine) (ha : DE X W e1 f) (hb : DE X W e2 g) : DT X W (.Compare e1 [.Eq] [e2] pos) (xBool (xBin eqD f g)) := dt_cmp opd_eq (op_eqD hu) (nomark _) ha hb
theorem dt_ne (hu : X.A.units + 64 < cLine) (ha : DE X W e1 f) (hb : DE X W e2 g) : DT X W (.Compare e1 [.NotEq] [e2] pos) (xBool (xBin neD f g)) := dt_cmp opd_ne (op_neD hu) (nomark _) ha hb
theorem dt_is (ha : DE X W e1 f) (hb : DE X W e2 g) : DT X W (.Compare e1 [.Is] [e2] pos) (xBool (xBin isD f g)) := dt_cmp opd_is op_isN (nomark _) ha hb
theorem dt_isnot (ha : DE X W e1 f) (hb : DE X W e2 g) : DT X W (.Compare e1 [.IsNot] [e2] pos) (xBool (xBin isnotD f g)) := dt_cmp opd_isnot op_notN (nomark _) ha hb
/-- a < b < c -/
def xChain (F G : PyData → PyData → Option PyData) (f g h : M PyData) : M PyData := bnd f fun a => bnd g fun b => bnd (lif (F a b)) fun z => match z with
  | .bool true => bnd h fun c => lif (G b c)
  | .bool false => ret (.bool false)
  | _ => lif none
theorem chain_read {ta tb tc : TE} {r r' : R2} {F G : PyData → PyData → Option PyData} (hr : OpD X r F) (hr' : OpD X r' G) (qa : ReadE X W ta f) (qb : ReadE X W tb g) (qc : ReadE X W tc h) : ReadE X W (tChain r r' ta tb tc) (xChain F G f g h) := by
  intro ph am σ H δ Q ans δ' s q k kx
  rcases bnd_some q with ⟨a, δ1, e1, q1⟩ | ⟨c, fs, e1, q1⟩
  · refine qa ph am σ H δ _ _ _ s e1 (fun d ed am1 x H1 st1 s1 d1 => ?_) (fun c fs z => by cases z)
    cases ed
    rcases bnd_some q1 with ⟨b, δ2, e2, q2⟩ | ⟨c, fs, e2, q2⟩
    · refine qb ph am1 σ H1 δ1 _ _ _ s1 e2 (fun d ed am2 y H2 st2 s2 d2 => ?_) (fun c fs z => by cases z)
      cases ed
      rcases bnd_some q2 with ⟨z, δ3, e3, q3⟩ | ⟨c, fs, e3, q3⟩
      · obtain ⟨z', e4, e5, e6⟩ := lif_some e3
        cases e5
        subst e6
        refine hr ph am2 H2 x y a b z _ (fun b h => s2.hidden h) (dp_mono st2.hid d1) d2 e4 fun v H3 sm dv => ?_
        have st3 := (st1.trans st2).trans (Step.of (am := am2) sm)
        have s3 := s2.same sm
        cases dv with
        | bl kb =>
          cases kb with
          | false =>
            cases q3
            exact ⟨false, rfl, iteF (k _ rfl am2 _ H3 st3 s3 (.bl false))⟩
          | true =>
            refine ⟨true, rfl, iteT ?_⟩
            simp only at q3
            rcases bnd_some q3 with ⟨c, δ4, e7, q4⟩ | ⟨c, fs, e7, q4⟩
            · refine qc ph am2 σ H3 _ _ _ _ s3 e7 (fun d ed am4 w H4 st4 s4 d4 => ?_) (fun c fs z => by cases z)
              cases ed
              obtain ⟨z2, e8, rfl, rfl⟩ := lif_some q4
              refine hr' ph am4 H4 y w b c z2 _ (fun b h => s4.hidden h) (dp_mono st4.hid (dp_mono (hid_same sm) d2)) d4 e8 fun v H5 sm5 dv5 => ?_
              exact k _ rfl am4 v H5 ((st3.trans st4).trans (Step.of sm5)) (s4.same sm5) dv5
            · subst q4
              exact qc ph am2 σ H3 _ _ _ _ s3 e7 (fun d ed => by cases ed) (fun c' fs' z => by cases z; exact (kx _ _ rfl).step st3)
        | _ => cases q3
      · obtain ⟨_, _, z, _⟩ := lif_some e3
        cases z
    · subst q2
      exact qb ph am1 σ H1 δ1 _ _ _ s1 e2 (fun d ed => by cases ed) (fun c' fs' z => by cases z; exact (kx _ _ rfl).step st1)
  · subst q1
    exact qa ph am σ H δ _ _ _ s e1 (fun d ed => by cases ed) (fun c' fs' z => by cases z; exact kx _ _ rfl)
theorem de_chain {op op' : CmpOp} {r r' : R2} {F G : PyData → PyData → Option PyData} (hr : OpD X r F) (hr' : OpD X r' G) (ho : OpR X (compareOp op) r) (ho' : OpR X (compareOp op') r') (ha : DE X W e1 f) (hb : DE X W e2 g) (hc : DE X W e3 h)
    (hm : lastMarks [op, op'] [e2, e3] = false := by with_unfolding_all rfl) : DE X W (.Compare e1 [op, op'] [e2, e3] pos) (xChain F G f g h) := by
  obtain ⟨ta, pa, qa⟩ := ha.ex
  obtain ⟨tb, pb, qb⟩ := hb.ex
  obtain ⟨tc, pc, qc⟩ := hc.ex
  exact ⟨⟨_, pe_chain ho ho' pa pb pc hm, chain_read hr hr' qa qb qc⟩⟩
theorem dt_chain {op op' : CmpOp} {r r' : R2} {F G : PyData → PyData → Option PyData} (hr : OpD X r F) (hr' : OpD X r' G) (ho : OpR X (compareOp op) r) (ho' : OpR X (compareOp op') r') (ha : DE X W e1 f) (hb : DE X W e2 g) (hc : DE X W e3 h)
    (hm : lastMarks [op, op'] [e2, e3] = false := by with_unfolding_all rfl) : DT X W (.Compare e1 [op, op'] [e2, e3] pos) (xBool (xChain F G f g h)) := by
  obtain ⟨ta, pa, qa⟩ := ha.ex
  obtain ⟨tb, pb, qb⟩ := hb.ex
  obtain ⟨tc, pc, qc⟩ := hc.ex
  exact ⟨⟨_, pt_chain ho ho' pa pb pc hm, bool_read (chain_read hr hr' qa qb qc)⟩⟩
/-! and, or, not as tests -/
def xAndT (fb gb : M Bool) : M Bool := bnd fb fun b => if b = true then gb else ret false
def xOrT (fb gb : M Bool) : M Bool := bnd fb fun b => if b = true then ret true else gb
def xNotT (fb : M Bool) : M Bool := bnd fb fun b => ret (!b)
theorem dw_and1 (ha : DT X W e1 fb) : DW X W (.BoolOp .And [e1] pos) fb := by
  obtain ⟨ta, pa, qa⟩ := ha.ex
  exact ⟨⟨_, pw_and1 pa, qa⟩⟩
theorem dw_or1 (ha : DT X W e1 fb) : DW X W (.BoolOp .Or [e1] pos) fb := by
  obtain ⟨ta, pa, qa⟩ := ha.ex
  exact ⟨⟨_, pw_or1 pa, qa⟩⟩
theorem dw_and (ha : DT X W e1 fb) (hb : DW X W (.BoolOp .And (e2 :: es) pos) gb) : DW X W (.BoolOp .And (e1 :: e2 :: es) pos) (xAndT fb gb) := by
  obtain ⟨ta, pa, qa⟩ := ha.ex
  obtain ⟨tb, pb, qb⟩ := hb.ex
  refine ⟨⟨_, pw_and pa pb, fun ph am σ H δ Q ans δ' s q k kx => ?_⟩⟩
  rcases bnd_some q with ⟨a, δ1, e1, q1⟩ | ⟨c, fs, e1, q1⟩
  · refine qa ph am σ H δ _ _ _ s e1 (fun d ed am1 H1 st1 s1 => ?_) (fun c fs z => by cases z)
    cases ed
    cases a with
    | true =>
      rw [if_pos rfl] at q1
      exact iteT (qb ph am1 σ H1 δ1 _ _ _ s1 q1 (fun d ed am2 H2 st2 s2 => k d ed am2 H2 (st1.trans st2) s2) fun c fs z => (kx c fs z).step st1)
    | false =>
      rw [if_neg Bool.false_ne_true] at q1
      cases q1
      exact iteF (k _ rfl am1 H1 st1 s1)
  · subst q1
    exact qa ph am σ H δ _ _ _ s e1 (fun d ed => by cases ed) (fun c' fs' z => by cases z; exact kx _ _ rfl)
theorem dw_or (ha : DT X W e1 fb) (hb : DW X W (.BoolOp .Or (e2 :: es) pos) gb) : DW X W (.BoolOp .Or (e1 :: e2 :: es) pos) (xOrT fb gb) := by
  obtain ⟨ta, pa, qa⟩ := ha.ex
  obtain ⟨tb, pb, qb⟩ := hb.ex
  refine ⟨⟨_, pw_or pa pb, fun ph am σ H δ Q ans δ' s q k kx => ?_⟩⟩
  rcases bnd_some q with ⟨a, δ1, e1, q1⟩ | ⟨c, fs, e1, q1⟩
  · refine qa ph am σ H δ _ _ _ s e1 (fun d ed am1 H1 st1 s1 => ?_) (fun c fs z => by cases z)
    cases ed
    cases a with
    | true =>
      rw [if_pos rfl] at q1
      cases q1
      exact iteT (k _ rfl am1 H1 st1 s1)
    | false =>
      rw [if_neg Bool.false_ne_true] at q1
      exact iteF (qb ph am1 σ H1 δ1 _ _ _ s1 q1 (fun d ed am2 H2 st2 s2 => k d ed am2 H2 (st1.trans st2) s2) fun c fs z => (kx c fs z).step st1)
  · subst q1
    exact qa ph am σ H δ _ _ _ s e1 (fun d ed => by cases ed) (fun c' fs' z => by cases z; exact kx _ _ rfl)
theorem dt_w (ha : DW X W e fb) : DT X W e fb := by
  obtain ⟨ta, pa, qa⟩ := ha.ex
  exact ⟨⟨_, pa.pt, qa⟩⟩
theorem dt_not (ha : DT X W e fb) : DT X W (.UnaryOp .Not e pos) (xNotT fb) := by
  obtain ⟨ta, pa, qa⟩ := ha.ex
  refine ⟨⟨_, pt_not pa, fun ph am σ H δ Q ans δ' s q k kx => ?_⟩⟩
  rcases bnd_some q with ⟨a, δ1, e1, q1⟩ | ⟨c, fs, e1, q1⟩
  · refine qa ph am σ H δ _ _ _ s e1 (fun d ed am1 H1 st1 s1 => ?_) (fun c fs z => by cases z)
    cases ed
    cases q1
    exact k _ rfl am1 H1 st1 s1
  · subst q1
    exact qa ph am σ H δ _ _ _ s e1 (fun d ed => by cases ed) (fun c' fs' z => by cases z; exact kx _ _ rfl)
/-! and, or, not as values: all but the last True or False -/
def xAnd (f g : M PyData) : M PyData := bnd f fun d => match d with
  | .bool true => g
  | .bool false => ret (.bool false)
  | _ => lif none
def xOr (f g : M PyData) : M PyData := bnd f fun d => match d with
  | .bool true => ret (.bool true)
  | .bool false => g
  | _ => lif none
def xNot (f : M PyData) : M PyData := bnd f fun d => match d with
  | .bool b => ret (.bool (!b))
  | _ => lif none
theorem de_one {op} (ha : DE X W e f) : DE X W (.BoolOp op [e] pos) f := by
  obtain ⟨ta, pa, qa⟩ := ha.ex
  exact ⟨⟨_, pe_one pa, qa⟩⟩
theorem lif_none {α : Type} {ans : Ans α} (h : lif (none : Option α) δ = some (ans, δ')) : False := by cases h
theorem de_and (ha : DE X W e1 f) (hb : DE X W (.BoolOp .And (e2 :: es) pos) g) : DE X W (.BoolOp .And (e1 :: e2 :: es) pos) (xAnd f g) := by
  obtain ⟨ta, pa, qa⟩ := ha.ex
  obtain ⟨tb, pb, qb⟩ := hb.ex
  refine ⟨⟨_, pe_and pa pb, fun ph am σ H δ Q ans δ' s q k kx => ?_⟩⟩
  rcases bnd_some q with ⟨a, δ1, e1, q1⟩ | ⟨c, fs, e1, q1⟩
  · refine qa ph am σ H δ _ _ _ s e1 (fun d ed am1 x H1 st1 s1 d1 => ?_) (fun c fs z => by cases z)
    cases ed
    cases d1 with
    | bl b =>
      cases b with
      | true => exact ⟨true, rfl, iteT (qb ph am1 σ H1 δ1 _ _ _ s1 q1 (fun d ed am2 v H2 st2 s2 d2 => k d ed am2 v H2 (st1.trans st2) s2 d2) fun c fs z => (kx c fs z).step st1)⟩
      | false =>
        cases q1
        exact ⟨false, rfl, iteF (k _ rfl am1 _ H1 st1 s1 (.bl false))⟩
    | _ => exact (lif_none q1).elim
  · subst q1
    exact qa ph am σ H δ _ _ _ s e1 (fun d ed => by cases ed) (fun c' fs' z => by cases z; exact kx _ _ rfl)
theorem de_or (ha : DE X W e1 f) (hb : DE X W (.BoolOp .Or (e2 :: es) pos) g) : DE X W (.BoolOp .Or (e1 :: e2 :: es) pos) (xOr f g) := by
  obtain ⟨ta, pa, qa⟩ := ha.ex
  obtain ⟨tb, pb, qb⟩ := hb.ex
  refine ⟨⟨_, pe_or pa pb, fun ph am σ H δ Q ans δ' s q k kx => ?_⟩⟩
  rcases bnd_some q with ⟨a, δ1, e1, q1⟩ | ⟨c, fs, e1, q1⟩
  · refine qa ph am σ H δ _ _ _ s e1 (fun d ed am1 x H1 st1 s1 d1 => ?_) (fun c fs z => by cases z)
    cases ed
    cases d1 with
    | bl b =>
      cases b with
      | false => exact ⟨false, rfl, iteF (qb ph am1 σ H1 δ1 _ _ _ s1 q1 (fun d ed am2 v H2 st2 s2 d2 => k d ed am2 v H2 (st1.trans st2) s2 d2) fun c fs z => (kx c fs z).step st1)⟩
      | true =>
        cases q1
        exact ⟨true, rfl, iteT (k _ rfl am1 _ H1 st1 s1 (.bl true))⟩
    | _ => exact (lif_none q1).elim
  · subst q1
    exact qa ph am σ H δ _ _ _ s e1 (fun d ed => by cases ed) (fun c' fs' z => by cases z; exact kx _ _ rfl)
theorem de_not (ha : DE X W e f) : DE X W (.UnaryOp .Not e pos) (xNot f) := by
  obtain ⟨ta, pa, qa⟩ := ha.ex
  refine ⟨⟨_, pe_not pa, fun ph am σ H δ Q ans δ' s q k kx => ?_⟩⟩
  rcases bnd_some q with ⟨a, δ1, e1, q1⟩ | ⟨c, fs, e1, q1⟩
  · refine qa ph am σ H δ _ _ _ s e1 (fun d ed am1 x H1 st1 s1 d1 => ?_) (fun c fs z => by cases z)
    cases ed
    cases d1 with
    | bl b => cases q1; exact ⟨b, rfl, k _ rfl am1 _ H1 st1 s1 (.bl _)⟩
    | _ => exact (lif_none q1).elim
  · subst q1
    exact qa ph am σ H δ _ _ _ s e1 (fun d ed => by cases ed) (fun c' fs' z => by cases z; exact kx _ _ rfl)
def xIf {α : Type} (fb : M Bool) (f g : M α) : M α := bnd fb fun b => if b = true then f else g
theorem de_if (hc : DT X W e3 fb) (ha : DE X W e1 f) (hb : DE X W e2 g) : DE X W (.IfExp e3 e1 e2 pos) (xIf fb f g) := by
  obtain ⟨tc, pc, qc⟩ := hc.ex
  obtain ⟨ta, pa, qa⟩ := ha.ex
  obtain ⟨tb, pb, qb⟩ := hb.ex
  refine ⟨⟨_, pe_ifExp pc pa pb, fun ph am σ H δ Q ans δ' s q k kx => ?_⟩⟩
  rcases bnd_some q with ⟨a, δ1, e1, q1⟩ | ⟨c, fs, e1, q1⟩
  · refine qc ph am σ H δ _ _ _ s e1 (fun d ed am1 H1 st1 s1 => ?_) (fun c fs z => by cases z)
    cases ed
    cases a with
    | true =>
      rw [if_pos rfl] at q1
      exact iteT (qa ph am1 σ H1 δ1 _ _ _ s1 q1 (fun d ed am2 v H2 st2 s2 d2 => k d ed am2 v H2 (st1.trans st2) s2 d2) fun c fs z => (kx c fs z).step st1)
    | false =>
      rw [if_neg Bool.false_ne_true] at q1
      exact iteF (qb ph am1 σ H1 δ1 _ _ _ s1 q1 (fun d ed am2 v H2 st2 s2 d2 => k d ed am2 v H2 (st1.trans st2) s2 d2) fun c fs z => (kx c fs z).step st1)
  · subst q1
    exact qc ph am σ H δ _ _ _ s e1 (fun d ed => by cases ed) (fun c' fs' z => by cases z; exact kx _ _ rfl)
end PD
end

section
set_option Elab.async false
set_option linter.all false
set_option maxRecDepth 100000
set_option maxHeartbeats 1000000
namespace PD
open PySem PySem.Spec PyProof.Rows L2
variable {X : Cx} {W : WX} {pos : Pos} {e e1 e2 e3 : Expr} {es : List Expr} {f g h : M PyData} {fs : M (List PyData)} {fb gb : M Bool}
variable {K : PySem.W.Frag} {ph : Fx} {am am' am1 : Am} {H H' H1 : Hp} {σ σ' : L2.St} {δ δ' δ1 : Sg} {a p p1 p2 : Addr} {v : V} {vs : List V} {d : PyData} {ds : List PyData} {i : Nat}

/-! ### slots -/
/-- a cell that may be stored anew -/
def Cell.free : Cell → Bool
  | .ow true _ => false
  | _ => true
theorem SR.nba (s : SR K ph am σ H δ) {c : Cell} (e : δ[i]? = some c) (hc : c.free = true) : ph.ba i = none := by
  cases hb : ph.ba i with
  | none => rfl
  | some a =>
    have h1 := s.bas i a hb
    obtain ⟨_, c', h2, co⟩ := s.amf i a h1
    rw [e] at h2
    cases h2
    cases c with
    | un => exact co.elim
    | fz d => exact co.elim
    | od o =>
      obtain ⟨_, _, _, _, _, _, h3⟩ := s.od i o e
      rw [h3] at hb
      cases hb
    | ow b ds =>
      cases b with
      | true => cases hc
      | false =>
        obtain ⟨_, _, _, _, _, _, _, h3⟩ := s.ow i false ds e
        rw [h3 rfl] at hb
        cases hb
theorem SR.put (s : SR K ph am σ H δ) {c : Cell} (e : δ[i]? = some c) (hc : c.free = true) (dv : Dq K (hid ph am H) v d) : SR K ph (amDrop am i) (σ.set i (some v)) H (δ.set i (.fz d)) := by
  have st : Step am H (amDrop am i) H := step_drop
  have hi : i < δ.length := (List.getElem?_eq_some_iff.mp e).1
  have hσ : i < σ.length := by rw [s.len]; exact hi
  refine ⟨by rw [List.length_set, List.length_set, s.len], fun j d' q => ?_, fun j b' ds' q => ?_, fun j a' q => ?_, fun j k a' q1 q2 => ?_, s.phs, fun j a' q => ?_, fun j o q => ?_⟩
  · by_cases hj : j = i
    · subst hj
      rw [List.getElem?_set_self hi] at q
      cases q
      exact ⟨v, List.getElem?_set_self hσ, dp_mono st.hid dv⟩
    · rw [List.getElem?_set_ne (Ne.symm hj)] at q
      obtain ⟨v', h1, h2⟩ := s.fz j d' q
      exact ⟨v', by rw [List.getElem?_set_ne (Ne.symm hj)]; exact h1, dp_mono st.hid h2⟩
  · by_cases hj : j = i
    · subst hj
      rw [List.getElem?_set_self hi] at q
      cases q
    · rw [List.getElem?_set_ne (Ne.symm hj)] at q
      obtain ⟨a2, vs2, h1, h2, h3, h4, h5, h6⟩ := s.ow j b' ds' q
      exact ⟨a2, vs2, amDrop_some.mpr ⟨hj, h1⟩, by rw [List.getElem?_set_ne (Ne.symm hj)]; exact h2, h3, dps_mono st.hid h4, h5, h6⟩
  · obtain ⟨n, q⟩ := amDrop_some.mp q
    obtain ⟨h1, c', h2, h3⟩ := s.amf j a' q
    exact ⟨h1, c', by rw [List.getElem?_set_ne (Ne.symm n)]; exact h2, h3⟩
  · exact s.inj j k a' (amDrop_some.mp q1).2 (amDrop_some.mp q2).2
  · refine amDrop_some.mpr ⟨fun z => ?_, s.bas j a' q⟩
    subst z
    rw [s.nba e hc] at q
    cases q
  · by_cases hj : j = i
    · subst hj
      rw [List.getElem?_set_self hi] at q
      cases q
    · rw [List.getElem?_set_ne (Ne.symm hj)] at q
      obtain ⟨a2, u, h1, h2, h3, h4, h5⟩ := s.od j o q
      exact ⟨a2, u, amDrop_some.mpr ⟨hj, h1⟩, by rw [List.getElem?_set_ne (Ne.symm hj)]; exact h2, h3, dor_mono st.hid h4, h5⟩
def amPut (am : Am) (i : Nat) (p : Addr) : Am := fun j => if j = i then some p else am j
theorem amPut_same : amPut am i p i = some p := by simp [amPut]
theorem amPut_ne {j : Nat} (h : j ≠ i) : amPut am i p j = am j := by simp [amPut, h]
theorem step_put (n : H p = none) : Step am H (amPut am i p) (upd H p (.lst vs)) :=
  ⟨fun b o h _ => same_new n b o h, fun j a h => by
    by_cases hj : j = i
    · subst hj
      rw [amPut_same] at h
      cases h
      exact .inr n
    · rw [amPut_ne hj] at h
      exact .inl ⟨j, h⟩, fun b o h => ⟨o, same_new n b o h⟩⟩
theorem SR.putOwn (s : SR K ph am σ H δ) {c : Cell} (e : δ[i]? = some c) (hc : c.free = true) (n : H p = none) (dv : DqAll K (hid ph am H) vs ds) (hz : vs.length ≤ sizeLine) :
    SR K ph (amPut am i p) (σ.set i (some (.ref p))) (upd H p (.lst vs)) (δ.set i (.ow false ds)) := by
  have st : Step am H (amPut am i p) (upd H p (.lst vs)) := step_put n
  have hi : i < δ.length := (List.getElem?_eq_some_iff.mp e).1
  have hσ : i < σ.length := by rw [s.len]; exact hi
  have np : ¬ Hid ph am p := s.new n
  refine ⟨by rw [List.length_set, List.length_set, s.len], fun j d' q => ?_, fun j b' ds' q => ?_, fun j a' q => ?_, fun j k a' q1 q2 => ?_, fun b hb => ?_, fun j a' q => ?_, fun j o q => ?_⟩
  · by_cases hj : j = i
    · subst hj
      rw [List.getElem?_set_self hi] at q
      cases q
    · rw [List.getElem?_set_ne (Ne.symm hj)] at q
      obtain ⟨v', h1, h2⟩ := s.fz j d' q
      exact ⟨v', by rw [List.getElem?_set_ne (Ne.symm hj)]; exact h1, dp_mono st.hid h2⟩
  · by_cases hj : j = i
    · subst hj
      rw [List.getElem?_set_self hi] at q
      cases q
      exact ⟨p, vs, amPut_same, List.getElem?_set_self hσ, upd_same, dps_mono st.hid dv, hz, fun _ => s.nba e hc⟩
    · rw [List.getElem?_set_ne (Ne.symm hj)] at q
      obtain ⟨a2, vs2, h1, h2, h3, h4, h5, h6⟩ := s.ow j b' ds' q
      exact ⟨a2, vs2, by rw [amPut_ne hj]; exact h1, by rw [List.getElem?_set_ne (Ne.symm hj)]; exact h2, same_new n _ _ h3, dps_mono st.hid h4, h5, h6⟩
  · by_cases hj : j = i
    · subst hj
      rw [amPut_same] at q
      cases q
      exact ⟨fun z => np (.inl z), _, List.getElem?_set_self hi, trivial⟩
    · rw [amPut_ne hj] at q
      obtain ⟨h1, c', h2, h3⟩ := s.amf j a' q
      exact ⟨h1, c', by rw [List.getElem?_set_ne (Ne.symm hj)]; exact h2, h3⟩
  · by_cases hj : j = i
    · by_cases hk : k = i
      · rw [hj, hk]
      · rw [hj, amPut_same] at q1
        cases q1
        rw [amPut_ne hk] at q2
        exact (np (.inr ⟨k, q2⟩)).elim
    · by_cases hk : k = i
      · rw [hk, amPut_same] at q2
        cases q2
        rw [amPut_ne hj] at q1
        exact (np (.inr ⟨j, q1⟩)).elim
      · rw [amPut_ne hj] at q1
        rw [amPut_ne hk] at q2
        exact s.inj j k a' q1 q2
  · obtain ⟨o, h1, m⟩ := s.phs b hb
    exact ⟨o, same_new n _ _ h1, m⟩
  · have hj : j ≠ i := fun z => by
      subst z
      rw [s.nba e hc] at q
      cases q
    rw [amPut_ne hj]
    exact s.bas j a' q
  · by_cases hj : j = i
    · subst hj
      rw [List.getElem?_set_self hi] at q
      cases q
    · rw [List.getElem?_set_ne (Ne.symm hj)] at q
      obtain ⟨a2, u, h1, h2, h3, h4, h5⟩ := s.od j o q
      exact ⟨a2, u, by rw [amPut_ne hj]; exact h1, by rw [List.getElem?_set_ne (Ne.symm hj)]; exact h2, same_new n _ _ h3, dor_mono st.hid h4, h5⟩
/-- a list of one's own is changed -/
theorem hid_own (h : am i = some a) {o : HO} : hid ph am (upd H a o) = hid ph am H := by
  funext b
  unfold hid
  by_cases hb : Hid ph am b
  · rw [if_pos hb, if_pos hb]
  · rw [if_neg hb, if_neg hb, upd_ne]
    intro z
    subst z
    exact hb (.inr ⟨i, h⟩)
theorem step_mut (h : am i = some a) {u : HO} (e : H a = some u) : Step am H am (upd H a (.lst vs)) :=
  ⟨fun b o q n => by rw [upd_ne (fun z => n i (by rw [z]; exact h))]; exact q, fun j b q => .inl ⟨j, q⟩, fun b o q => by
    by_cases z : b = a
    · subst z
      exact ⟨_, upd_same⟩
    · exact ⟨o, by rw [upd_ne z]; exact q⟩⟩
theorem SR.mut (s : SR K ph am σ H δ) {b : Bool} (e : δ[i]? = some (.ow b ds)) (h : am i = some a) {ds' : List PyData} {vs' : List V} (dv : DqAll K (hid ph am H) vs' ds') (hz : vs'.length ≤ sizeLine) :
    SR K ph am σ (upd H a (.lst vs')) (δ.set i (.ow b ds')) := by
  have hi : i < δ.length := (List.getElem?_eq_some_iff.mp e).1
  obtain ⟨a0, vs0, e1, e2, e3, e4, e5, e6⟩ := s.ow i b ds e
  rw [h] at e1
  cases e1
  have hh : ∀ o, hid ph am (upd H a o) = hid ph am H := fun o => hid_own h
  refine ⟨by rw [List.length_set, s.len], fun j d' q => ?_, fun j b' ds2 q => ?_, fun j a' q => ?_, s.inj, fun c hc => ?_, s.bas, fun j o q => ?_⟩
  · have hj : j ≠ i := fun z => by
      subst z
      rw [List.getElem?_set_self hi] at q
      cases q
    rw [List.getElem?_set_ne (Ne.symm hj)] at q
    rw [hh]
    exact s.fz j d' q
  · by_cases hj : j = i
    · subst hj
      rw [List.getElem?_set_self hi] at q
      cases q
      exact ⟨a, vs', h, e2, upd_same, by rw [hh]; exact dv, hz, e6⟩
    · rw [List.getElem?_set_ne (Ne.symm hj)] at q
      obtain ⟨a2, vs2, h1, h2, h3, h4, h5, h6⟩ := s.ow j b' ds2 q
      have na : a2 ≠ a := fun z => hj (s.inj j i a (by rw [← z]; exact h1) h)
      exact ⟨a2, vs2, h1, h2, by rw [upd_ne na]; exact h3, by rw [hh]; exact h4, h5, h6⟩
  · obtain ⟨h1, c2, h2, h3⟩ := s.amf j a' q
    by_cases hj : j = i
    · exact ⟨h1, .ow b ds', by rw [hj]; exact List.getElem?_set_self hi, trivial⟩
    · exact ⟨h1, c2, by rw [List.getElem?_set_ne (Ne.symm hj)]; exact h2, h3⟩
  · obtain ⟨o, h1, m⟩ := s.phs c hc
    have na : c ≠ a := fun z => (s.amf i a h).1 (by rw [← z]; exact hc)
    exact ⟨o, by rw [upd_ne na]; exact h1, m⟩
  · by_cases hj : j = i
    · subst hj
      rw [List.getElem?_set_self hi] at q
      cases q
    · rw [List.getElem?_set_ne (Ne.symm hj)] at q
      obtain ⟨a2, u, h1, h2, h3, h4, h5⟩ := s.od j o q
      have na : a2 ≠ a := fun z => hj (s.inj j i a (by rw [← z]; exact h1) h)
      exact ⟨a2, u, h1, h2, by rw [upd_ne na]; exact h3, by rw [hh]; exact h4, h5⟩

/-! ### canonical readings -/
theorem PE.weak {t t' : TE} (h : PE X e t) (w : ∀ σ H Q, t' σ H Q → t σ H Q) : PE X e t' := ⟨fun pins s σ H Q I q => h.run pins s σ H Q I (w σ H Q q)⟩
theorem PT.weak {t t' : TT} (h : PT X e t) (w : ∀ σ H Q, t' σ H Q → t σ H Q) : PT X e t' := ⟨fun pins s σ H Q I q => h.run pins s σ H Q I (w σ H Q q)⟩
def tOf (K : PySem.W.Frag) (mg : Str → Option Value) (W : WX) (f : M PyData) : TE := fun σ H Q => ∃ ph am δ ans δ', SR K ph am σ H δ ∧ f δ = some (ans, δ') ∧
  (∀ d, ans = .ok d → ∀ am' v H', Step am H am' H' → SR K ph am' σ H' δ' → Dq K (hid ph am' H') v d → Q v H') ∧ (∀ c fs, ans = .ex c fs → XPm K mg W ph am σ H δ' c fs)
def ttOf (K : PySem.W.Frag) (mg : Str → Option Value) (W : WX) (f : M Bool) : TT := fun σ H Q => ∃ ph am δ ans δ', SR K ph am σ H δ ∧ f δ = some (ans, δ') ∧
  (∀ b, ans = .ok b → ∀ am' H', Step am H am' H' → SR K ph am' σ H' δ' → Q b H') ∧ (∀ c fs, ans = .ex c fs → XPm K mg W ph am σ H δ' c fs)
theorem DE.can (d : DE X W e f) : PE X e (tOf X.K X.mg W f) := by
  obtain ⟨t, p, q⟩ := d.ex
  refine PE.weak p fun σ H Q ⟨ph, am, δ, ans, δ', s, e, k, kx⟩ => q ph am σ H δ Q ans δ' s e k kx
theorem DT.can (d : DT X W e fb) : PT X e (ttOf X.K X.mg W fb) := by
  obtain ⟨t, p, q⟩ := d.ex
  refine PT.weak p fun σ H Q ⟨ph, am, δ, ans, δ', s, e, k, kx⟩ => q ph am σ H δ Q ans δ' s e k kx

/-! ### targets -/
abbrev Tg := PyData → Sg → Option Sg
def ReadG (X : Cx) (t : TG) (s : Tg) : Prop := ∀ (ph : Fx) (am : Am) (σ : L2.St) (H : Hp) (δ δ' : Sg) (v : V) (d : PyData) (Q : L2.St → Hp → Prop), SR X.K ph am σ H δ → Dq X.K (hid ph am H) v d → s d δ = some δ' →
  (∀ am' σ', Step am H am' H → SR X.K ph am' σ' H δ' → Q σ' H) → t v σ H Q
structure DG (X : Cx) (tg : Expr) (s : Tg) : Prop where
  ex : ∃ t, PG X tg t ∧ ReadG X t s
def tgOf (K : PySem.W.Frag) (s : Tg) : TG := fun v σ H Q => ∃ ph am δ δ' d, SR K ph am σ H δ ∧ Dq K (hid ph am H) v d ∧ s d δ = some δ' ∧ (∀ am' σ', Step am H am' H → SR K ph am' σ' H δ' → Q σ' H)
theorem DG.can {tg : Expr} {s : Tg} (d : DG X tg s) : PG X tg (tgOf X.K s) := by
  obtain ⟨t, p, q⟩ := d.ex
  exact ⟨fun pins st σ H v u Q I r ⟨ph, am, δ, δ', dd, s1, s2, s3, k⟩ => p.run pins st σ H v u Q I r (q ph am σ H δ δ' v dd Q s1 s2 s3 k)⟩
def sName (i : Nat) : Tg := fun d δ => match δ[i]? with
  | some c => if c.free = true then some (δ.set i (.fz d)) else none
  | none => none
theorem sName_some {i : Nat} (h : sName i d δ = some δ') : ∃ c, δ[i]? = some c ∧ c.free = true ∧ δ' = δ.set i (.fz d) := by
  unfold sName at h
  split at h
  · rename_i c e
    obtain ⟨h1, rfl⟩ := if_some h
    exact ⟨c, e, h1, rfl⟩
  · cases h
theorem dg_name {i : Nat} {x : Str} (hN : X.N.Nodup) (hi : X.N[i]? = some x := by rfl) (hx : Loc X.env.scope x := by first | exact Or.inl rfl | exact Or.inr rfl) (hf : X.fn x = true ∨ X.env.scope.names.lookup x = some .local := by first | exact .inl rfl | exact .inr rfl) : DG X (.Name x pos) (sName i) :=
  ⟨⟨gName i, pg_name hN hi hx hf, fun ph am σ H δ δ' v d Q s dv q k => by
    obtain ⟨c, e1, e2, rfl⟩ := sName_some q
    exact k _ _ step_drop (s.put e1 e2 dv)⟩⟩
abbrev Tgs := List PyData → Sg → Option Sg
structure DGs (X : Cx) (ts : List Expr) (s : Tgs) : Prop where
  ex : ∃ t, PGs X ts t ∧ ∀ (ph : Fx) (am : Am) (σ : L2.St) (H : Hp) (δ δ' : Sg) (vs : List V) (ds : List PyData) (Q : L2.St → Hp → Prop), SR X.K ph am σ H δ → DqAll X.K (hid ph am H) vs ds → s ds δ = some δ' →
    (∀ am' σ', Step am H am' H → SR X.K ph am' σ' H δ' → Q σ' H) → t vs σ H Q
def sNil : Tgs := fun ds δ => match ds with
  | [] => some δ
  | _ :: _ => none
def sCons (s : Tg) (r : Tgs) : Tgs := fun ds δ => match ds with
  | [] => none
  | d :: ds => match s d δ with
    | some δ1 => r ds δ1
    | none => none
theorem dgs_nil : DGs X [] sNil := ⟨⟨gNil, pgs_nil, fun ph am σ H δ δ' vs ds Q s dv q k => by
  cases dv with
  | nil => cases q; exact ⟨rfl, k am σ Step.refl s⟩
  | cons _ _ => cases q⟩⟩
theorem dgs_cons {tg : Expr} {ts : List Expr} {s : Tg} {r : Tgs} (h : DG X tg s) (t : DGs X ts r) (hs : (assignEach (tg :: ts) X.env).map (·.2) = assign tg X.env :: (assignEach ts X.env).map (·.2) := by rfl) : DGs X (tg :: ts) (sCons s r) := by
  obtain ⟨t1, p1, q1⟩ := h.ex
  obtain ⟨t2, p2, q2⟩ := t.ex
  refine ⟨⟨_, pgs_cons p1 p2 hs, fun ph am σ H δ δ' vs ds Q s dv q k => ?_⟩⟩
  cases dv with
  | nil => cases q
  | cons dv dt =>
    rename_i v vs d ds
    unfold sCons at q
    simp only at q
    split at q
    · rename_i δ1 e1
      refine ⟨v, vs, rfl, q1 ph am σ H δ δ1 v d _ s dv e1 fun am1 σ1 st1 s1 => ?_⟩
      exact q2 ph am1 σ1 H δ1 δ' vs ds Q s1 (dps_mono st1.hid dt) q fun am2 σ2 st2 s2 => k am2 σ2 (st1.trans st2) s2
    · cases q
def sTup (n : Nat) (r : Tgs) : Tg := fun d δ => match d with
  | .tuple ds => if ds.length = n then r ds δ else none
  | _ => none
theorem dg_tup {ts : List Expr} {k n : Nat} {r : Tgs} (hc : X.calm = true) (t : DGs X ts r) (hn : (assignEach ts X.env).length = n := by rfl) (hst : (assignEach ts X.env).findIdx? (·.1) = none := by rfl) : DG X (.Tuple ts k pos) (sTup n r) := by
  obtain ⟨t2, p2, q2⟩ := t.ex
  refine ⟨⟨_, pg_tup hc p2 hn hst, fun ph am σ H δ δ' v d Q s dv q k => ?_⟩⟩
  cases dv with
  | tup h1 a1 =>
    unfold sTup at q
    simp only at q
    split at q
    · rename_i hl
      exact ⟨_, _, rfl, seqT_hid h1, by rw [a1.length]; exact hl, q2 ph am σ H δ δ' _ _ Q s a1 q k⟩
    · cases q
  | _ => cases q
end PD
end

section
set_option Elab.async false
set_option linter.all false
set_option maxRecDepth 100000
set_option maxHeartbeats 1000000
namespace PD
open PySem PySem.Spec PyProof.Rows L2
variable {X : Cx} {W : WX} {pos : Pos} {e e1 e2 e3 : Expr} {es : List Expr} {f g h : M PyData} {fs : M (List PyData)} {fb gb : M Bool}
variable {K : PySem.W.Frag} {ph : Fx} {am am' am1 : Am} {H H' H1 : Hp} {σ σ' : L2.St} {δ δ' δ1 : Sg} {a p p1 p2 : Addr} {v : V} {vs : List V} {d : PyData} {ds : List PyData} {i : Nat}

inductive Flo where
  | nx | bk | ct
  | rt (d : PyData)
  | rf (ds : List PyData)
  | ro (ds : List PyData)
abbrev MS := M Flo
/-- what is wanted at an end -/
def EndOk (K : PySem.W.Frag) (ph : Fx) (am : Am) (H : Hp) (δ' : Sg) (D : Ends) : Flo → Prop
  | .nx => ∀ am' σ' H', Step am H am' H' → SR K ph am' σ' H' δ' → D.nx σ' H'
  | .bk => ∀ am' σ' H', Step am H am' H' → SR K ph am' σ' H' δ' → D.bk σ' H'
  | .ct => ∀ am' σ' H', Step am H am' H' → SR K ph am' σ' H' δ' → D.ct σ' H'
  | .rt d => ∀ am' σ' v H', Step am H am' H' → SR K ph am' σ' H' δ' → Dq K (hid ph am' H') v d → D.rt v H'
  | .rf ds => ∀ am' σ' p vs H', H p = none → H' p = none → Step am H am' H' → SR K ph am' σ' H' δ' → DqAll K (hid ph am' H') vs ds → vs.length ≤ sizeLine → D.rt (.ref p) (upd H' p (.lst vs))
  | .ro ds => ∀ am' σ' i p vs H', Step am H am' H' → SR K ph am' σ' H' δ' → δ'[i]? = some (.ow false ds) → am' i = some p → H' p = some (.lst vs) → DqAll K (hid ph am' H') vs ds → vs.length ≤ sizeLine → D.rt (.ref p) H'
theorem EndOk.step {D : Ends} {fl : Flo} (st : Step am H am1 H1) (k : EndOk K ph am H δ' D fl) : EndOk K ph am1 H1 δ' D fl := by
  cases fl with
  | nx => exact fun am' σ' H' s1 s2 => k am' σ' H' (st.trans s1) s2
  | bk => exact fun am' σ' H' s1 s2 => k am' σ' H' (st.trans s1) s2
  | ct => exact fun am' σ' H' s1 s2 => k am' σ' H' (st.trans s1) s2
  | rt d => exact fun am' σ' v H' s1 s2 => k am' σ' v H' (st.trans s1) s2
  | rf ds => exact fun am' σ' p vs H' n1 n2 s1 s2 => k am' σ' p vs H' (st.none n1) n2 (st.trans s1) s2
  | ro ds => exact fun am' σ' i p vs H' s1 s2 => k am' σ' i p vs H' (st.trans s1) s2
def ReadS (X : Cx) (W : WX) (t : TS) (g : MS) : Prop := ∀ (ph : Fx) (am : Am) (σ : L2.St) (H : Hp) (δ : Sg) (D : Ends) (ans : Ans Flo) (δ' : Sg), SR X.K ph am σ H δ → g δ = some (ans, δ') →
  (∀ fl, ans = .ok fl → EndOk X.K ph am H δ' D fl) → (∀ c fs, ans = .ex c fs → XPS X W ph am H δ' c fs) → t D σ H
structure DS (X : Cx) (W : WX) (st : Stmt) (g : MS) : Prop where
  ex : ∃ t, PS X st t ∧ ReadS X W t g
structure DSs (X : Cx) (W : WX) (st : List Stmt) (g : MS) : Prop where
  ex : ∃ t, PSs X st t ∧ ReadS X W t g
variable {st : Stmt} {sts : List Stmt} {gs hs : MS}
def sSkip : MS := ret .nx
def sSeq (g h : MS) : MS := fun δ => match g δ with
  | some (.ok .nx, δ1) => h δ1
  | r => r
theorem sSeq_some {g h : MS} {ans : Ans Flo} (q : sSeq g h δ = some (ans, δ')) : (∃ δ1, g δ = some (.ok .nx, δ1) ∧ h δ1 = some (ans, δ')) ∨ (g δ = some (ans, δ') ∧ ans ≠ .ok .nx) := by
  unfold sSeq at q
  split at q
  · rename_i δ1 e
    exact .inl ⟨δ1, e, q⟩
  · rename_i hne
    refine .inr ⟨q, fun z => ?_⟩
    subst z
    exact hne δ' q
theorem dss_nil : DSs X W [] sSkip := ⟨⟨tNext, pss_nil, fun ph am σ H δ D ans δ' s q k _ => by cases q; exact k _ rfl am σ H Step.refl s⟩⟩
theorem dss_one (h1 : DS X W st gs) : DSs X W [st] gs := by
  obtain ⟨t, p, q⟩ := h1.ex
  exact ⟨⟨t, pss_one p, q⟩⟩
theorem seq_read {t u : TS} (q1 : ReadS X W t gs) (q2 : ReadS X W u hs) : ReadS X W (tSeq t u) (sSeq gs hs) := by
  intro ph am σ H δ D ans δ' s q k kx
  rcases sSeq_some q with ⟨δ1, e1, e2⟩ | ⟨e1, ne⟩
  · refine q1 ph am σ H δ _ _ _ s e1 (fun fl z => ?_) (fun c fs z => by cases z)
    cases z
    intro am1 σ1 H1 st1 s1
    exact q2 ph am1 σ1 H1 δ1 D ans δ' s1 e2 (fun fl z => (k fl z).step st1) fun c fs z => (kx c fs z).step st1
  · refine q1 ph am σ H δ _ _ _ s e1 (fun fl z => ?_) kx
    subst z
    cases fl with
    | nx => exact (ne rfl).elim
    | bk => exact k _ rfl
    | ct => exact k _ rfl
    | rt d => exact k _ rfl
    | rf ds => exact k _ rfl
    | ro ds => exact k _ rfl
theorem dss_cons (h1 : DS X W st gs) (h2 : DSs X W sts hs) : DSs X W (st :: sts) (sSeq gs hs) := by
  obtain ⟨t1, p1, q1⟩ := h1.ex
  obtain ⟨t2, p2, q2⟩ := h2.ex
  exact ⟨⟨_, pss_cons p1 p2, seq_read q1 q2⟩⟩
/-! ### returns, expressions -/
def sRet (f : M PyData) : MS := bnd f fun d => ret (.rt d)
theorem ds_ret (he : DE X W e f) : DS X W (.Return (some e) pos) (sRet f) := by
  obtain ⟨t, p, q⟩ := he.ex
  refine ⟨⟨_, ps_ret p, fun ph am σ H δ D ans δ' s z k kx => ?_⟩⟩
  rcases bnd_some z with ⟨d, δ1, e1, e2⟩ | ⟨c, fs, e1, e2⟩
  · cases e2
    exact q ph am σ H δ _ _ _ s e1 (fun d ed am1 v H1 st1 s1 d1 => by cases ed; exact k _ rfl am1 σ v H1 st1 s1 d1) (fun c fs z => by cases z)
  · subst e2
    exact q ph am σ H δ _ _ _ s e1 (fun d ed => by cases ed) (fun c' fs' z => by cases z; exact (kx _ _ rfl).at)
def sRetF (f : M (List PyData)) : MS := bnd f fun d => ret (.rf d)
theorem ds_retF (he : DF X W e fs) : DS X W (.Return (some e) pos) (sRetF fs) := by
  obtain ⟨t, p, q⟩ := he.ex
  refine ⟨⟨_, ps_ret p, fun ph am σ H δ D ans δ' s z k kx => ?_⟩⟩
  rcases bnd_some z with ⟨d, δ1, e1, e2⟩ | ⟨c, fs, e1, e2⟩
  · cases e2
    exact q ph am σ H δ _ _ _ s e1 (fun d ed am1 p vs H1 n0 n1 st1 s1 d1 hz => by cases ed; exact k _ rfl am1 σ p vs H1 n0 n1 st1 s1 d1 hz) (fun c fs z => by cases z)
  · subst e2
    exact q ph am σ H δ _ _ _ s e1 (fun d ed => by cases ed) (fun c' fs' z => by cases z; exact (kx _ _ rfl).at)
/-- a list of its own handed back -/
def sRetO (i : Nat) : MS := fun δ => match δ[i]? with
  | some (.ow false ds) => some (.ok (.ro ds), δ)
  | _ => none
theorem ds_retO {i : Nat} {x : Str} {pn : Pos} (hN : X.N[i]? = some x := by rfl) (hv : Vis X.env.scope x := by first | exact Or.inl rfl | exact Or.inr (Or.inl rfl) | exact Or.inr (Or.inr rfl)) (hd : (x == ("__debug__" : Str)) = false := by decide)
    (hcd : (x == ("__classdict__" : Str)) = false := by decide) : DS X W (.Return (some (.Name x pn)) pos) (sRetO i) := by
  refine ⟨⟨_, ps_ret (pe_var hN hv hd hcd), fun ph am σ H δ D ans δ' s z k kx => ?_⟩⟩
  unfold sRetO at z
  split at z
  · rename_i ds e
    cases z
    obtain ⟨a, vs, o1, o2, o3, o4, o5, o6⟩ := s.ow i false ds e
    exact ⟨.ref a, o2, k _ rfl am σ i a vs H Step.refl s e o1 o3 o4 o5⟩
  · cases z
theorem ds_retN : DS X W (.Return none pos) (ret (.rt .none)) := ⟨⟨tRetN, ps_retN, fun ph am σ H δ D ans δ' s z k kx => by
  cases z
  exact k _ rfl am σ .non H Step.refl s .non⟩⟩
def sDrop (f : M PyData) : MS := bnd f fun _ => ret .nx
theorem ds_expr (he : DE X W e f) (hs : swapsWith e none pos.line X.env = pure false := by rfl) : DS X W (.Expr e pos) (sDrop f) := by
  obtain ⟨t, p, q⟩ := he.ex
  refine ⟨⟨_, ps_expr p hs, fun ph am σ H δ D ans δ' s z k kx => ?_⟩⟩
  rcases bnd_some z with ⟨d, δ1, e1, e2⟩ | ⟨c, fs, e1, e2⟩
  · cases e2
    exact q ph am σ H δ _ _ _ s e1 (fun d ed am1 v H1 st1 s1 d1 => by cases ed; exact k _ rfl am1 σ H1 st1 s1) (fun c fs z => by cases z)
  · subst e2
    exact q ph am σ H δ _ _ _ s e1 (fun d ed => by cases ed) (fun c' fs' z => by cases z; exact (kx _ _ rfl).at)
theorem ds_pass : DS X W (.Pass pos) sSkip := ⟨⟨tNext, ps_pass, fun ph am σ H δ D ans δ' s q k _ => by cases q; exact k _ rfl am σ H Step.refl s⟩⟩
theorem ds_break : DS X W (.Break pos) (ret .bk) := ⟨⟨tBreak, ps_break, fun ph am σ H δ D ans δ' s q k _ => by cases q; exact k _ rfl am σ H Step.refl s⟩⟩
theorem ds_continue : DS X W (.Continue pos) (ret .ct) := ⟨⟨tCont, ps_continue, fun ph am σ H δ D ans δ' s q k _ => by cases q; exact k _ rfl am σ H Step.refl s⟩⟩
def sIf (c : M Bool) (g h : MS) : MS := bnd c fun b => if b = true then g else h
theorem ds_if {a b : List Stmt} (hc : DT X W e fb) (ha : DSs X W a gs) (hb : DSs X W b hs) : DS X W (.If e a b pos) (sIf fb gs hs) := by
  obtain ⟨tc, pc, qc⟩ := hc.ex
  obtain ⟨ta, pa, qa⟩ := ha.ex
  obtain ⟨tb, pb, qb⟩ := hb.ex
  refine ⟨⟨_, ps_if pc pa pb, fun ph am σ H δ D ans δ' s q k kx => ?_⟩⟩
  rcases bnd_some q with ⟨x, δ1, e1, q1⟩ | ⟨c, fs, e1, q1⟩
  · refine qc ph am σ H δ _ _ _ s e1 (fun d ed am1 H1 st1 s1 => ?_) (fun c fs z => by cases z)
    cases ed
    cases x with
    | true =>
      rw [if_pos rfl] at q1
      exact iteT (qa ph am1 σ H1 δ1 D _ _ s1 q1 (fun fl z => (k fl z).step st1) fun c fs z => (kx c fs z).step st1)
    | false =>
      rw [if_neg Bool.false_ne_true] at q1
      exact iteF (qb ph am1 σ H1 δ1 D _ _ s1 q1 (fun fl z => (k fl z).step st1) fun c fs z => (kx c fs z).step st1)
  · subst q1
    exact qc ph am σ H δ _ _ _ s e1 (fun d ed => by cases ed) (fun c' fs' z => by cases z; exact (kx _ _ rfl).at)
/-! ### stores -/
def sAsg (f : M PyData) (s : Tg) : MS := bnd f fun d => fun δ => match s d δ with
  | some δ' => some (.ok .nx, δ')
  | none => none
theorem asg_read {t : TE} {u : TG} {s : Tg} (q1 : ReadE X W t f) (q2 : ReadG X u s) : ReadS X W (tAsg t u) (sAsg f s) := by
  intro ph am σ H δ D ans δ' sr z k kx
  rcases bnd_some z with ⟨d, δ1, e1, e2⟩ | ⟨c, fs, e1, e2⟩
  · refine q1 ph am σ H δ _ _ _ sr e1 (fun d ed am1 v H1 st1 s1 d1 => ?_) (fun c fs z => by cases z)
    cases ed
    split at e2
    · rename_i δ2 e3
      cases e2
      exact q2 ph am1 σ H1 δ1 _ v d _ s1 d1 e3 fun am2 σ2 st2 s2 => k _ rfl am2 σ2 H1 (st1.trans st2) s2
    · cases e2
  · subst e2
    exact q1 ph am σ H δ _ _ _ sr e1 (fun d ed => by cases ed) (fun c' fs' z => by cases z; exact (kx _ _ rfl).at)
theorem ds_asg {tg : Expr} {s : Tg} (he : DE X W e f) (hg : DG X tg s) (hs : swapsWithSole [tg] e pos.line X.env = pure false := by rfl) (hw : swappedStores [tg] e X.env = pure none := by rfl)
    (h1 : (assignEach [tg] X.env).map (·.2) = [assign tg X.env] := by rfl) : DS X W (.Assign [tg] e pos) (sAsg f s) := by
  obtain ⟨t, p, q⟩ := he.ex
  obtain ⟨u, pu, qu⟩ := hg.ex
  exact ⟨⟨_, ps_asg p pu hs hw h1, asg_read q qu⟩⟩
theorem ds_set {i : Nat} {x : Str} {pos' : Pos} (hN : X.N.Nodup) (he : DE X W e f) (hi : X.N[i]? = some x := by rfl) (hx : Loc X.env.scope x := by first | exact Or.inl rfl | exact Or.inr rfl) (hs : swapsWith e (some (.Name x pos')) pos.line X.env = pure false := by rfl)
    (hf : X.fn x = true ∨ X.env.scope.names.lookup x = some .local := by first | exact .inl rfl | exact .inr rfl) : DS X W (.Assign [.Name x pos'] e pos) (sAsg f (sName i)) := by
  obtain ⟨t, p, q⟩ := he.ex
  exact ⟨⟨_, ps_set hN hi hx p hs hf, asg_read q fun ph am σ H δ δ' v d Q s dv q k => by
    obtain ⟨c, e1, e2, rfl⟩ := sName_some q
    exact k _ _ step_drop (s.put e1 e2 dv)⟩⟩
/-- a new list that the name is to own -/
def sOwn (f : M (List PyData)) (i : Nat) : MS := bnd f fun ds => fun δ => match δ[i]? with
  | some c => if c.free = true then some (.ok .nx, δ.set i (.ow false ds)) else none
  | none => none
theorem own_read {t : TE} (q1 : ReadF X W t fs) : ReadS X W (tAsg t (gName i)) (sOwn fs i) := by
  intro ph am σ H δ D ans δ' sr z k kx
  rcases bnd_some z with ⟨ds, δ1, e1, e2⟩ | ⟨c, fs, e1, e2⟩
  · refine q1 ph am σ H δ _ _ _ sr e1 (fun d ed am1 p vs H1 n0 n1 st1 s1 d1 hz => ?_) (fun c fs z => by cases z)
    cases ed
    split at e2
    · rename_i c e3
      obtain ⟨h1, e4⟩ := if_some e2
      cases e4
      exact k _ rfl (amPut am1 i p) _ _ (st1.trans (step_put n1)) (s1.putOwn e3 h1 n1 d1 hz)
    · cases e2
  · subst e2
    exact q1 ph am σ H δ _ _ _ sr e1 (fun d ed => by cases ed) (fun c' fs' z => by cases z; exact (kx _ _ rfl).at)
theorem ds_own {i : Nat} {x : Str} {pos' : Pos} (hN : X.N.Nodup) (he : DF X W e fs) (hi : X.N[i]? = some x := by rfl) (hx : Loc X.env.scope x := by first | exact Or.inl rfl | exact Or.inr rfl) (hs : swapsWith e (some (.Name x pos')) pos.line X.env = pure false := by rfl)
    (hf : X.fn x = true ∨ X.env.scope.names.lookup x = some .local := by first | exact .inl rfl | exact .inr rfl) : DS X W (.Assign [.Name x pos'] e pos) (sOwn fs i) := by
  obtain ⟨t, p, q⟩ := he.ex
  exact ⟨⟨_, ps_set hN hi hx p hs hf, own_read q⟩⟩
/-- xs[k] = e, xs owned -/
def sSub (f : M PyData) (i : Nat) (g : M PyData) : MS := bnd f fun d => fun δ1 => match δ1[i]? with
  | some (.ow _ _) => (bnd g fun k => fun δ2 => match δ2[i]?, k with
    | some (.ow b ds), .int n => match ixN ds.length n with
      | some j => some (.ok .nx, δ2.set i (.ow b (ds.set j d)))
      | none => none
    | _, _ => none) δ1
  | _ => none
theorem ds_sub {i : Nat} {x : Str} {pn ps' : Pos} (he : DE X W e f) (hk : DE X W e2 g) (hN : X.N[i]? = some x := by rfl) (hv : Vis X.env.scope x := by first | exact Or.inl rfl | exact Or.inr (Or.inl rfl) | exact Or.inr (Or.inr rfl)) (hd : (x == ("__debug__" : Str)) = false := by decide) (hcd : (x == ("__classdict__" : Str)) = false := by decide)
    (ha : ∀ v, assign (.Subscript (.Name x pn) e2 ps') X.env v = (do
      let ov ← holding [v] (eval (.Name x pn) X.env)
      let iv ← holding [v, ov] (eval e2 X.env)
      standAt ps'
      holding [v, ov, iv] (setItem ov iv v)
      release [v, ov, iv] []) := by intro _; rfl)
    (hs : swapsWithSole [.Subscript (.Name x pn) e2 ps'] e pos.line X.env = pure false := by rfl) (hw : swappedStores [.Subscript (.Name x pn) e2 ps'] e X.env = pure none := by rfl)
    (h1 : (assignEach [.Subscript (.Name x pn) e2 ps'] X.env).map (·.2) = [assign (.Subscript (.Name x pn) e2 ps') X.env] := by rfl) : DS X W (.Assign [.Subscript (.Name x pn) e2 ps'] e pos) (sSub f i g) := by
  obtain ⟨t, p, q⟩ := he.ex
  obtain ⟨t2, p2, q2⟩ := hk.ex
  refine ⟨⟨_, ps_asg p (pg_sub (pe_var hN hv hd hcd) p2 set_list ha) hs hw h1, fun ph am σ H δ D ans δ' sr z k kx => ?_⟩⟩
  rcases bnd_some z with ⟨d, δ1, e1, e2⟩ | ⟨c, fs, e1, e2⟩
  · refine q ph am σ H δ _ _ _ sr e1 (fun d ed am1 v H1 st1 s1 d1 => ?_) (fun c fs z => by cases z)
    cases ed
    split at e2
    · rename_i b0 ds0 e3
      obtain ⟨a0, vs0, o1, o2, o3, o4, _, _⟩ := s1.ow i b0 ds0 e3
      refine ⟨.ref a0, o2, ?_⟩
      rcases bnd_some e2 with ⟨n, δ2, e4, e5⟩ | ⟨c, fs, e4, e5⟩
      · refine q2 ph am1 σ H1 δ1 _ _ _ s1 e4 (fun d ed am2 w H2 st2 s2 d2 => ?_) (fun c fs z => by cases z)
        cases ed
        split at e5
        · rename_i b ds k' e6
          cases d2 with
          | int n =>
            obtain ⟨a1, vs1, r1, r2, r3, r4, r5, r6⟩ := s2.ow i b ds e6
            rw [o2] at r2
            cases r2
            split at e5
            · rename_i j e7
              cases e5
              refine ⟨a0, vs1, _, j, rfl, rfl, r3, by rw [r4.length]; exact e7, ?_⟩
              exact k _ rfl am2 σ _ ((st1.trans st2).trans (step_mut r1 r3)) (s2.mut e6 r1 (r4.set (dp_mono st2.hid d1) j) (by rw [List.length_set]; exact r5))
            · cases e5
        · cases e5
      · subst e5
        exact q2 ph am1 σ H1 δ1 _ _ _ s1 e4 (fun d ed => by cases ed) (fun c' fs' z => by cases z; exact ((kx _ _ rfl).step st1).at)
    · cases e2
  · subst e2
    exact q ph am σ H δ _ _ _ sr e1 (fun d ed => by cases ed) (fun c' fs' z => by cases z; exact (kx _ _ rfl).at)
/-- xs.append(e), xs owned -/
def sApp (i : Nat) (f : M PyData) : MS := fun δ => match δ[i]? with
  | some (.ow _ _) => (bnd f fun d => fun δ1 => match δ1[i]? with
    | some (.ow b ds) => if ds.length < sizeLine then some (.ok .nx, δ1.set i (.ow b (ds ++ [d]))) else none
    | _ => none) δ
  | _ => none
theorem ds_app {i : Nat} {x : Str} {pn apos cpos : Pos} (he : DE X W e f) (hN : X.N[i]? = some x := by rfl) (hv : Vis X.env.scope x := by first | exact Or.inl rfl | exact Or.inr (Or.inl rfl) | exact Or.inr (Or.inr rfl)) (hd : (x == ("__debug__" : Str)) = false := by decide) (hcd : (x == ("__classdict__" : Str)) = false := by decide)
    (hs0 : starEach [e] X.env = (false, eval e X.env) :: starEach [] X.env := by rfl)
    (hbase : attributeBase (.Name x pn) "append" X.env (eval (.Name x pn) X.env) = eval (.Name x pn) X.env := by rfl)
    (hfew : ((backTo cpos (starEach [e] X.env)).all (fun x => !x.1) && (backToKw cpos (keywordEach [] X.env)).all (fun x => x.1.isSome)
      && decide (([e] : List Expr).length + ([] : List Keyword).length + (if ([] : List Keyword).isEmpty then 0 else 1) < 30)) = true := by rfl)
    (hline : (apos.endLine == cpos.line) = true := by rfl) (hplain : (backTo cpos (starEach [] X.env)).any (·.1) = false := by rfl)
    (hs : swapsWith (.Call (.Attribute (.Name x pn) "append" apos) [e] [] cpos) none pos.line X.env = pure false := by rfl) : DS X W (.Expr (.Call (.Attribute (.Name x pn) "append" apos) [e] [] cpos) pos) (sApp i f) := by
  obtain ⟨t, p, q⟩ := he.ex
  refine ⟨⟨_, ps_expr (pe_bm PySem.F.plainAttrs_list PySem.F.slot_list_append PySem.F.type_list_append mt_append (pe_var hN hv hd hcd) (pa_cons p pa_nil hs0) hbase hfew hline hs0 hplain) hs, fun ph am σ H δ D ans δ' sr z k kx => ?_⟩⟩
  unfold sApp at z
  split at z
  · rename_i b0 ds0 e3
    obtain ⟨a0, vs0, o1, o2, o3, o4, _, _⟩ := sr.ow i b0 ds0 e3
    refine ⟨.ref a0, o2, .inl ⟨rfl, _, .inl (.inl o3)⟩, ?_⟩
    rcases bnd_some z with ⟨d, δ2, e4, e5⟩ | ⟨c, fs, e4, e5⟩
    · refine q ph am σ H δ _ _ _ sr e4 (fun d ed am2 w H2 st2 s2 d2 => ?_) (fun c fs z => by cases z)
      cases ed
      split at e5
      · rename_i b ds e6
        obtain ⟨a1, vs1, r1, r2, r3, r4, r5, r6⟩ := s2.ow i b ds e6
        rw [o2] at r2
        cases r2
        obtain ⟨hz, e8⟩ := if_some e5
        cases e8
        refine ⟨a0, vs1, w, rfl, rfl, r3, by rw [r4.length]; exact hz, ?_⟩
        exact k _ rfl am2 σ _ (st2.trans (step_mut r1 r3)) (s2.mut e6 r1 (r4.append (.cons d2 .nil)) (by rw [List.length_append, r4.length]; exact hz))
      · cases e5
    · subst e5
      exact q ph am σ H δ _ _ _ sr e4 (fun d ed => by cases ed) (fun c' fs' z => by cases z; exact (kx _ _ rfl).at)
  · cases z
/-! ### reading what one owns, without freezing -/
def xIxO (i : Nat) (g : M PyData) : M PyData := fun δ => match δ[i]? with
  | some (.ow _ _) => (bnd g fun b => fun δ1 => match δ1[i]? with
    | some (.ow _ ds) => lif (ixD (.list ds) b) δ1
    | _ => none) δ
  | _ => none
theorem de_ixo {i : Nat} {x : Str} {pn : Pos} (hp : PlainIx e2) (hb : DE X W e2 g) (hN : X.N[i]? = some x := by rfl) (hv : Vis X.env.scope x := by first | exact Or.inl rfl | exact Or.inr (Or.inl rfl) | exact Or.inr (Or.inr rfl)) (hd : (x == ("__debug__" : Str)) = false := by decide) (hcd : (x == ("__classdict__" : Str)) = false := by decide) :
    DE X W (.Subscript (.Name x pn) e2 pos) (xIxO i g) := by
  obtain ⟨t, p, q⟩ := hb.ex
  refine ⟨⟨_, pe_ix ix_list (pe_var hN hv hd hcd) p hp, fun ph am σ H δ Q ans δ' sr z k kx => ?_⟩⟩
  unfold xIxO at z
  split at z
  · rename_i b0 ds0 e3
    obtain ⟨a0, vs0, o1, o2, o3, o4, _, _⟩ := sr.ow i b0 ds0 e3
    refine ⟨.ref a0, o2, ?_⟩
    rcases bnd_some z with ⟨d, δ2, e4, e5⟩ | ⟨c, fs, e4, e5⟩
    · refine q ph am σ H δ _ _ _ sr e4 (fun d ed am2 w H2 st2 s2 d2 => ?_) (fun c fs z => by cases z)
      cases ed
      split at e5
      · rename_i b ds e6
        obtain ⟨a1, vs1, r1, r2, r3, r4, r5, r6⟩ := s2.ow i b ds e6
        rw [o2] at r2
        cases r2
        obtain ⟨c, e7, rfl, rfl⟩ := lif_some e5
        cases d2 with
        | int n =>
          obtain ⟨v', h1, h2⟩ := atI_get r4 e7
          exact ⟨a0, vs1, n, v', rfl, rfl, .inl (.inl r3), h1, k _ rfl am2 v' H2 st2 s2 h2⟩
        | _ => cases e7
      · cases e5
    · subst e5
      exact q ph am σ H δ _ _ _ sr e4 (fun d ed => by cases ed) (fun c' fs' z => by cases z; exact kx _ _ rfl)
  · cases z
/-- len(xs) -/
def xLenO (i : Nat) : M PyData := fun δ => match δ[i]? with
  | some (.ow _ ds) => some (.ok (.int ds.length), δ)
  | _ => none
theorem de_leno {i : Nat} {x : Str} {pn pf : Pos} (hm : X.mg "len" = none) (hN : X.N[i]? = some x := by rfl) (hv : Vis X.env.scope x := by first | exact Or.inl rfl | exact Or.inr (Or.inl rfl) | exact Or.inr (Or.inr rfl)) (hd : (x == ("__debug__" : Str)) = false := by decide) (hcd : (x == ("__classdict__" : Str)) = false := by decide) (hg : Gl X "len" := by rfl)
    (he : starEach [.Name x pn] X.env = (false, eval (.Name x pn) X.env) :: starEach [] X.env := by rfl) (hpl : (backTo pos (starEach [] X.env)).any (·.1) = false := by rfl) : DE X W (.Call (.Name "len" pf) [.Name x pn] [] pos) (xLenO i) := by
  refine ⟨⟨_, pe_callB call_len_seq hg hm PySem.boot_len (pa_cons (pe_var hN hv hd hcd) pa_nil he) (by decide) (by decide) he hpl, fun ph am σ H δ Q ans δ' sr z k kx => ?_⟩⟩
  unfold xLenO at z
  split at z
  · rename_i b0 ds0 e3
    cases z
    obtain ⟨a0, vs0, o1, o2, o3, o4, _, _⟩ := sr.ow i b0 ds0 e3
    exact ⟨.ref a0, o2, a0, vs0, rfl, .inl (.inl (.inl o3)), k _ rfl am _ H Step.refl sr (by rw [o4.length]; exact .int _)⟩
  · cases z
/-- xs == e, xs != e: what comes is no part of xs -/
def xCmpO (F : PyData → PyData → Option PyData) (i : Nat) (g : M PyData) : M PyData := fun δ => match δ[i]? with
  | some (.ow _ _) => (bnd g fun b => fun δ1 => match δ1[i]? with
    | some (.ow _ ds) => match F (.list ds) b with
      | some (.bool c) => some (.ok (.bool c), δ1)
      | _ => none
    | _ => none) δ
  | _ => none
theorem cmpo_read {i : Nat} {t : TE} {r : R2} {F : PyData → PyData → Option PyData} (hr : OpD X r F) (q : ReadE X W t g) : ReadE X W (tOp r (tVar i) t) (xCmpO F i g) := by
  intro ph am σ H δ Q ans δ' sr z k kx
  unfold xCmpO at z
  split at z
  · rename_i b0 ds0 e3
    obtain ⟨a0, vs0, o1, o2, o3, o4, _, _⟩ := sr.ow i b0 ds0 e3
    refine ⟨.ref a0, o2, ?_⟩
    rcases bnd_some z with ⟨d, δ2, e4, e5⟩ | ⟨c, fs, e4, e5⟩
    · refine q ph am σ H δ _ _ _ sr e4 (fun d ed am2 w H2 st2 s2 d2 => ?_) (fun c fs z => by cases z)
      cases ed
      split at e5
      · rename_i b ds e6
        obtain ⟨a1, vs1, r1, r2, r3, r4, r5, r6⟩ := s2.ow i b ds e6
        rw [o2] at r2
        cases r2
        split at e5
        · rename_i c e7
          cases e5
          have st : Step am2 H2 (amDrop am2 i) H2 := step_drop
          have na : ¬ Hid ph (amDrop am2 i) a0 := by
            rintro (q | ⟨j, q⟩)
            · exact (s2.amf i a0 r1).1 q
            · obtain ⟨n, q⟩ := amDrop_some.mp q
              exact n (s2.inj j i a0 q r1)
          refine hr ph (amDrop am2 i) H2 _ w (.list ds) _ (.bool c) Q (fun b h => s2.hidden ?_) (.lst (.inl (.inl (hid_some.mpr ⟨na, r3⟩))) (dps_mono st.hid r4)) (dp_mono st.hid d2) e7 fun v H3 sm dv => ?_
          · rcases h with h | ⟨j, h⟩
            · exact .inl h
            · exact .inr ⟨j, (amDrop_some.mp h).2⟩
          · cases dv with
            | bl c => exact k _ rfl am2 _ H3 (st2.trans (Step.of sm)) (s2.same sm) (.bl c)
        · cases e5
      · cases e5
    · subst e5
      exact q ph am σ H δ _ _ _ sr e4 (fun d ed => by cases ed) (fun c' fs' z => by cases z; exact kx _ _ rfl)
  · cases z
theorem de_cmpo {i : Nat} {x : Str} {pn : Pos} {op : CmpOp} {r : R2} {F : PyData → PyData → Option PyData} (hr : OpD X r F) (ho : OpR X (compareOp op) r) (hm : behindInMarks op e2 = false) (hb : DE X W e2 g) (hN : X.N[i]? = some x := by rfl) (hv : Vis X.env.scope x := by first | exact Or.inl rfl | exact Or.inr (Or.inl rfl) | exact Or.inr (Or.inr rfl)) (hd : (x == ("__debug__" : Str)) = false := by decide) (hcd : (x == ("__classdict__" : Str)) = false := by decide) :
    DE X W (.Compare (.Name x pn) [op] [e2] pos) (xCmpO F i g) := by
  obtain ⟨t, p, q⟩ := hb.ex
  exact ⟨⟨_, pe_cmpR ho (pe_var hN hv hd hcd) p hm, cmpo_read hr q⟩⟩
theorem dt_cmpo {i : Nat} {x : Str} {pn : Pos} {op : CmpOp} {r : R2} {F : PyData → PyData → Option PyData} (hr : OpD X r F) (ho : OpR X (compareOp op) r) (hm : behindInMarks op e2 = false) (hb : DE X W e2 g) (hN : X.N[i]? = some x := by rfl) (hv : Vis X.env.scope x := by first | exact Or.inl rfl | exact Or.inr (Or.inl rfl) | exact Or.inr (Or.inr rfl)) (hd : (x == ("__debug__" : Str)) = false := by decide) (hcd : (x == ("__classdict__" : Str)) = false := by decide) :
    DT X W (.Compare (.Name x pn) [op] [e2] pos) (xBool (xCmpO F i g)) := by
  obtain ⟨t, p, q⟩ := hb.ex
  exact ⟨⟨_, pt_cmpR ho (pe_var hN hv hd hcd) p hm, bool_read (cmpo_read hr q)⟩⟩
end PD
end

section
set_option Elab.async false
set_option linter.all false
set_option maxRecDepth 100000
set_option maxHeartbeats 1000000
namespace PD
open PySem PySem.Spec PyProof.Rows L2
variable {X : Cx} {W : WX} {pos : Pos} {e e1 e2 e3 : Expr} {es : List Expr} {f g h : M PyData} {fs : M (List PyData)} {fb gb : M Bool}
variable {K : PySem.W.Frag} {ph : Fx} {am am' am1 : Am} {H H' H1 : Hp} {σ σ' : L2.St} {δ δ' δ1 : Sg} {a p p1 p2 : Addr} {v : V} {vs : List V} {d : PyData} {ds : List PyData} {i : Nat}

/-- what is walked gives ds, one after another, whatever the turns do -/
def WalkD (K : PySem.W.Frag) (ph : Fx) (am : Am) (H : Hp) (J : It) (ds : List PyData) : Prop :=
  ∃ (G : Hp → Prop) (Y : Nat → Hp → V → Hp → Prop), Walk J ds.length G Y ∧ (∀ (ph2 : Fx) am2 H2, (∀ b o, hid ph am H b = some o → hid ph2 am2 H2 b = some o) → G H2) ∧
    ∀ i x H2 H3 (ph2 : Fx) am2, i < ds.length → (∀ b o, hid ph am H b = some o → hid ph2 am2 H2 b = some o) → (∀ b, Hid ph2 am2 b → ∃ o, H2 b = some o) → Y i H2 x H3 →
      ∃ d, ds[i]? = some d ∧ Same H2 H3 ∧ Dq K (hid ph2 am2 H3) x d
def ReadI (X : Cx) (W : WX) (t : TI) (f : M (List PyData)) : Prop := ∀ (ph : Fx) (am : Am) (σ : L2.St) (H : Hp) (δ : Sg) (R : It → Hp → Prop) (ans : Ans (List PyData)) (δ' : Sg), SR X.K ph am σ H δ → f δ = some (ans, δ') →
  (∀ ds, ans = .ok ds → ∀ am' H' J, Step am H am' H' → SR X.K ph am' σ H' δ' → WalkD X.K ph am' H' J ds → R J H') → (∀ c fs, ans = .ex c fs → XP X W ph am σ H δ' c fs) → t σ H R
structure DI (X : Cx) (W : WX) (tg iter : Expr) (f : M (List PyData)) : Prop where
  ex : ∃ t, PI X tg iter t ∧ ReadI X W t f
/-! ### the walks -/
def seqD : PyData → Option (List PyData)
  | .list xs => some xs
  | .tuple xs => some xs
  | _ => none
theorem seq_rd {x : V} (h : Dq K (hid ph am H) x d) (e : seqD d = some ds) : ∃ k a xs, x = .ref a ∧ SqK k K (hid ph am H) a xs ∧ DqAll K (hid ph am H) xs ds := by
  cases h with
  | lst h1 a1 => cases e; exact ⟨true, _, _, rfl, h1, a1⟩
  | tup h1 a1 => cases e; exact ⟨false, _, _, rfl, .inl (.inl h1), a1⟩
  | _ => cases e
theorem sqK_mono {k : Bool} {xs : List V} (s : Same H H') (q : SqK k K H a xs) : SqK k K H' a xs := by
  cases k with
  | true => exact s.seq (show SqL K H a xs from q)
  | false => exact seqT_mono s (show SqT K H a xs from q)
theorem sqK_hid {k : Bool} {xs : List V} (q : SqK k K (hid ph am H) a xs) : SqK k K H a xs := sqK_mono hid_sub q
theorem at_dq {xs : List V} {x : V} (h : DqAll K H xs ds) (e : xs[i]? = some x) : ∃ d, ds[i]? = some d ∧ Dq K H x d := by
  have hi : i < ds.length := by rw [← h.length]; exact (List.getElem?_eq_some_iff.mp e).1
  obtain ⟨v, h1, h2⟩ := h.get (i := i) (List.getElem?_eq_getElem hi)
  rw [e] at h1
  cases h1
  exact ⟨_, List.getElem?_eq_getElem hi, h2⟩
theorem walkD_list {xs : List V} (q : SqL K (hid ph am H) a xs) (h : DqAll K (hid ph am H) xs ds) : WalkD K ph am H (Itl K a) ds := by
  refine ⟨_, _, by rw [← h.length]; exact walk_list (xs := xs), fun ph2 am2 H2 s => hid_sub.seq (Same.seq (H := hid ph am H) (H' := hid ph2 am2 H2) s q), fun i x H2 H3 ph2 am2 hi s hn y => ?_⟩
  obtain ⟨rfl, y⟩ := y
  obtain ⟨d, h1, h2⟩ := at_dq h y
  exact ⟨d, h1, Same.refl _, dp_mono s h2⟩
theorem walkD_tup {xs : List V} (q : SqT K (hid ph am H) a xs) (h : DqAll K (hid ph am H) xs ds) : WalkD K ph am H (Itt K a) ds := by
  refine ⟨_, _, by rw [← h.length]; exact walk_tup (xs := xs), fun ph2 am2 H2 s => seqT_mono hid_sub (seqT_mono (H := hid ph am H) (H' := hid ph2 am2 H2) s q), fun i x H2 H3 ph2 am2 hi s hn y => ?_⟩
  obtain ⟨rfl, y⟩ := y
  obtain ⟨d, h1, h2⟩ := at_dq h y
  exact ⟨d, h1, Same.refl _, dp_mono s h2⟩
def xSeq (f : M PyData) : M (List PyData) := bnd f fun d => lif (seqD d)
theorem di_seq {tg : Expr} (he : DE X W e f) : DI X W tg e (xSeq f) := by
  obtain ⟨t, p, q⟩ := he.ex
  refine ⟨⟨_, pi_seqK p, fun ph am σ H δ R ans δ' s z k kx => ?_⟩⟩
  rcases bnd_some z with ⟨d, δ1, e1, e2⟩ | ⟨c, fs, e1, e2⟩
  · refine q ph am σ H δ _ _ _ s e1 (fun d' ed am1 v H1 st1 s1 d1 => ?_) (fun c fs z => by cases z)
    cases ed
    obtain ⟨ds, e3, rfl, rfl⟩ := lif_some e2
    cases d1 with
    | lst h1 a1 =>
      cases e3
      exact ⟨_, rfl, .inl ⟨⟨_, rd_hid h1⟩, k _ rfl am1 H1 _ st1 s1 (walkD_list h1 a1)⟩⟩
    | tup h1 a1 =>
      cases e3
      exact ⟨_, rfl, .inr ⟨⟨_, seqT_hid h1⟩, k _ rfl am1 H1 _ st1 s1 (walkD_tup (.inl (.inl h1)) a1)⟩⟩
    | _ => cases e3
  · subst e2
    exact q ph am σ H δ _ _ _ s e1 (fun d ed => by cases ed) (fun c' fs' z => by cases z; exact kx _ _ rfl)
/-! range -/
def rangeL (lo : Int) (n : Nat) : List PyData := (List.range n).map fun i => .int (lo + (i : Nat))
theorem rangeL_length (lo : Int) (n : Nat) : (rangeL lo n).length = n := by simp [rangeL]
theorem walkD_range {lo : Int} {n : Nat} : WalkD K ph am H (Itr lo n) (rangeL lo n) := by
  refine ⟨_, _, by rw [rangeL_length]; exact walk_range, fun _ _ _ _ => trivial, fun i x H2 H3 ph2 am2 hi s hn y => ?_⟩
  obtain ⟨rfl, rfl⟩ := y
  rw [rangeL_length] at hi
  exact ⟨.int (lo + i), by simp [rangeL, hi], Same.refl _, .int _⟩
def fit62 (i : Int) : Bool := decide (-(2 ^ 62) ≤ i) && decide (i < 2 ^ 62)
def range1D : List PyData → Option (List PyData)
  | [.int j] => if fit62 j = true then some (rangeL 0 j.toNat) else none
  | _ => none
def range2D : List PyData → Option (List PyData)
  | [.int i, .int j] => if fit62 i = true ∧ fit62 j = true then some (rangeL i (j - i).toNat) else none
  | _ => none
def xCallF' (F : List PyData → Option (List PyData)) (fs : M (List PyData)) : M (List PyData) := bnd fs fun ds => lif (F ds)
variable {tg : Expr} {pf : Pos}
theorem di_range1 (hm : X.mg "range" = none) (h : DA X W [e] fs) (hg : Gl X "range" := by rfl) (hs : starEach [e] X.env = [(false, eval e X.env)] := by rfl) : DI X W tg (.Call (.Name "range" pf) [e] [] pos) (xCallF' range1D fs) := by
  obtain ⟨t, p, q⟩ := h.ex
  refine ⟨⟨_, pi_range1 hg hm p hs, fun ph am σ H δ R ans δ' s z k kx => ?_⟩⟩
  rcases bnd_some z with ⟨d, δ1, e1, e2⟩ | ⟨c, fs, e1, e2⟩
  · refine q ph am σ H δ _ _ _ s e1 (fun d' ed am1 v H1 st1 s1 d1 => ?_) (fun c fs z => by cases z)
    cases ed
    obtain ⟨ds, e3, rfl, rfl⟩ := lif_some e2
    cases d1 with
    | nil => cases e3
    | cons h1 t1 =>
      cases t1 with
      | cons _ _ => cases h1 <;> cases e3
      | nil =>
        cases h1 with
        | int j =>
          obtain ⟨h2, rfl⟩ := if_some e3
          unfold fit62 at h2
          simp only [Bool.and_eq_true, decide_eq_true_eq] at h2
          exact ⟨j, rfl, h2.1, h2.2, k _ rfl am1 H1 _ st1 s1 walkD_range⟩
        | _ => cases e3
  · subst e2
    exact q ph am σ H δ _ _ _ s e1 (fun d ed => by cases ed) (fun c' fs' z => by cases z; exact kx _ _ rfl)
theorem di_range2 (hm : X.mg "range" = none) (h : DA X W [e, e2] fs) (hg : Gl X "range" := by rfl) (hs : starEach [e, e2] X.env = [(false, eval e X.env), (false, eval e2 X.env)] := by rfl) (hs2 : starEach [e2] X.env = [(false, eval e2 X.env)] := by rfl) : DI X W tg (.Call (.Name "range" pf) [e, e2] [] pos) (xCallF' range2D fs) := by
  obtain ⟨t, p, q⟩ := h.ex
  refine ⟨⟨_, pi_range2 hg hm p hs hs2, fun ph am σ H δ R ans δ' s z k kx => ?_⟩⟩
  rcases bnd_some z with ⟨d, δ1, e1, e2⟩ | ⟨c, fs, e1, e2⟩
  · refine q ph am σ H δ _ _ _ s e1 (fun d' ed am1 v H1 st1 s1 d1 => ?_) (fun c fs z => by cases z)
    cases ed
    obtain ⟨ds, e3, rfl, rfl⟩ := lif_some e2
    cases d1 with
    | nil => cases e3
    | cons h1 t1 =>
      cases t1 with
      | nil => cases h1 <;> cases e3
      | cons h2 t2 =>
        cases t2 with
        | cons _ _ => cases h1 <;> cases h2 <;> cases e3
        | nil =>
          cases h1 with
          | int i =>
            cases h2 with
            | int j =>
              obtain ⟨h2, rfl⟩ := if_some e3
              unfold fit62 at h2
              simp only [Bool.and_eq_true, decide_eq_true_eq] at h2
              exact ⟨i, j, rfl, ⟨h2.1.1, h2.1.2, h2.2.1, h2.2.2⟩, k _ rfl am1 H1 _ st1 s1 walkD_range⟩
            | _ => cases e3
          | _ => cases e3
  · subst e2
    exact q ph am σ H δ _ _ _ s e1 (fun d ed => by cases ed) (fun c' fs' z => by cases z; exact kx _ _ rfl)
/-! zip, enumerate -/
def pairL : List PyData → List PyData → List PyData
  | x :: xs, y :: ys => .tuple [x, y] :: pairL xs ys
  | _, _ => []
theorem pairL_length : ∀ xs ys : List PyData, (pairL xs ys).length = min xs.length ys.length
  | [], ys => by simp [pairL]
  | x :: xs, [] => by simp [pairL]
  | x :: xs, y :: ys => by simp only [pairL, List.length_cons, pairL_length xs ys]; omega
theorem pairL_get : ∀ {xs ys : List PyData} {i : Nat} {x y : PyData}, xs[i]? = some x → ys[i]? = some y → (pairL xs ys)[i]? = some (.tuple [x, y])
  | [], _, _, _, _, h, _ => by simp at h
  | _ :: _, [], _, _, _, _, h => by simp at h
  | x :: xs, y :: ys, 0, _, _, h1, h2 => by simp at h1 h2; subst h1 h2; rfl
  | x :: xs, y :: ys, i + 1, _, _, h1, h2 => by
    simp at h1 h2
    simpa [pairL] using pairL_get h1 h2
def zipD : List PyData → Option (List PyData)
  | [a, b] => match seqD a, seqD b with
    | some xs, some ys => some (pairL xs ys)
    | _, _ => none
  | _ => none
theorem walkD_zip {k1 k2 : Bool} {b : Addr} {xs ys : List V} {es : List PyData} (q1 : SqK k1 K (hid ph am H) a xs) (q2 : SqK k2 K (hid ph am H) b ys) (h1 : DqAll K (hid ph am H) xs ds) (h2 : DqAll K (hid ph am H) ys es) : WalkD K ph am H (ItzK k1 k2 K a b) (pairL ds es) := by
  refine ⟨_, _, walk_zipK (xs := xs) (ys := ys) (by rw [pairL_length, h1.length, h2.length]), fun ph2 am2 H2 s => ⟨sqK_hid (sqK_mono s q1), sqK_hid (sqK_mono s q2)⟩, fun i x H2 H3 ph2 am2 hi s hn y => ?_⟩
  obtain ⟨T, x1, y1, rfl, nT, rfl, e1, e2⟩ := y
  obtain ⟨d1, f1, g1⟩ := at_dq h1 e1
  obtain ⟨d2, f2, g2⟩ := at_dq h2 e2
  exact ⟨_, pairL_get f1 f2, same_new nT, new_tup hn nT (.cons (dp_mono s g1) (.cons (dp_mono s g2) .nil))⟩
variable {tpos : Pos} {elts : List Expr} {kk : Nat}
theorem di_zip (hm : X.mg "zip" = none) (h : DA X W [e, e2] fs) (hg : Gl X "zip" := by rfl) (hs : starEach [e, e2] X.env = (false, eval e X.env) :: starEach [e2] X.env := by rfl) (hpl : (backTo pos (starEach [e2] X.env)).any (·.1) = false := by rfl) :
    DI X W (.Tuple elts kk tpos) (.Call (.Name "zip" pf) [e, e2] [] pos) (xCallF' zipD fs) := by
  obtain ⟨t, p, q⟩ := h.ex
  refine ⟨⟨_, pi_zipK hg hm p hs hpl, fun ph am σ H δ R ans δ' s z k kx => ?_⟩⟩
  rcases bnd_some z with ⟨d, δ1, e1, e2⟩ | ⟨c, fs, e1, e2⟩
  · refine q ph am σ H δ _ _ _ s e1 (fun d' ed am1 v H1 st1 s1 d1 => ?_) (fun c fs z => by cases z)
    cases ed
    obtain ⟨ds, e3, rfl, rfl⟩ := lif_some e2
    cases d1 with
    | nil => cases e3
    | cons h1 t1 =>
      cases t1 with
      | nil => cases e3
      | cons h2 t2 =>
        cases t2 with
        | cons _ _ => cases e3
        | nil =>
          unfold zipD at e3
          simp only at e3
          split at e3
          · rename_i xs ys r1 r2
            cases e3
            obtain ⟨k1, a, us, rfl, q1, z1⟩ := seq_rd h1 r1
            obtain ⟨k2, b, ws, rfl, q2, z2⟩ := seq_rd h2 r2
            exact ⟨k1, k2, a, b, us, ws, rfl, sqK_hid q1, sqK_hid q2, k _ rfl am1 H1 _ st1 s1 (walkD_zip q1 q2 z1 z2)⟩
          · cases e3
  · subst e2
    exact q ph am σ H δ _ _ _ s e1 (fun d ed => by cases ed) (fun c' fs' z => by cases z; exact kx _ _ rfl)
def enumL (ds : List PyData) : List PyData := ds.zipIdx.map fun p => .tuple [.int (p.2 : Nat), p.1]
def enumD : List PyData → Option (List PyData)
  | [a] => (seqD a).map enumL
  | _ => none
theorem walkD_enum {k : Bool} {xs : List V} (q1 : SqK k K (hid ph am H) a xs) (h1 : DqAll K (hid ph am H) xs ds) : WalkD K ph am H (IteK k K a) (enumL ds) := by
  refine ⟨_, _, by rw [show (enumL ds).length = xs.length by rw [h1.length]; simp [enumL]]; exact walk_enumK (xs := xs), fun ph2 am2 H2 s => sqK_hid (sqK_mono s q1), fun i x H2 H3 ph2 am2 hi s hn y => ?_⟩
  obtain ⟨T, x1, y1, rfl, nT, rfl, e1, e2⟩ := y
  cases e1
  obtain ⟨d2, f2, g2⟩ := at_dq h1 e2
  exact ⟨_, by simp [enumL, f2], same_new nT, new_tup hn nT (.cons (.int _) (.cons (dp_mono s g2) .nil))⟩
theorem di_enum (hm : X.mg "enumerate" = none) (h : DA X W [e] fs) (hg : Gl X "enumerate" := by rfl) (hs : starEach [e] X.env = [(false, eval e X.env)] := by rfl) :
    DI X W (.Tuple elts kk tpos) (.Call (.Name "enumerate" pf) [e] [] pos) (xCallF' enumD fs) := by
  obtain ⟨t, p, q⟩ := h.ex
  refine ⟨⟨_, pi_enumK hg hm p hs, fun ph am σ H δ R ans δ' s z k kx => ?_⟩⟩
  rcases bnd_some z with ⟨d, δ1, e1, e2⟩ | ⟨c, fs, e1, e2⟩
  · refine q ph am σ H δ _ _ _ s e1 (fun d' ed am1 v H1 st1 s1 d1 => ?_) (fun c fs z => by cases z)
    cases ed
    obtain ⟨ds, e3, rfl, rfl⟩ := lif_some e2
    cases d1 with
    | nil => cases e3
    | cons h1 t1 =>
      cases t1 with
      | cons _ _ => cases e3
      | nil =>
        rename_i dd
        replace e3 : (seqD dd).map enumL = some ds := e3
        cases r1 : seqD dd with
        | none => rw [r1] at e3; cases e3
        | some xs =>
          rw [r1] at e3
          cases e3
          obtain ⟨k1, a, us, rfl, q1, z1⟩ := seq_rd h1 r1
          exact ⟨k1, a, us, rfl, sqK_hid q1, k _ rfl am1 H1 _ st1 s1 (walkD_enum q1 z1)⟩
  · subst e2
    exact q ph am σ H δ _ _ _ s e1 (fun d ed => by cases ed) (fun c' fs' z => by cases z; exact kx _ _ rfl)

/-! ### for -/
variable {gs hs : MS} {body : List Stmt}
def loopD (set : Tg) (b : MS) : List PyData → MS
  | [], δ => some (.ok .nx, δ)
  | d :: ds, δ => match set d δ with
    | none => none
    | some δ1 => match b δ1 with
      | some (.ok .nx, δ2) => loopD set b ds δ2
      | some (.ok .ct, δ2) => loopD set b ds δ2
      | some (.ok .bk, δ2) => some (.ok .nx, δ2)
      | r => r
def sFor (it : M (List PyData)) (set : Tg) (b : MS) : MS := bnd it fun ds => loopD set b ds
theorem ds_for {iter : Expr} {set : Tg} (hp : PassesOwn (model X.prog X.w) X.A X.env X.xe) (hc : X.calm = true) (hi : DI X W tg iter fs) (hg : DG X tg set) (hb : DSs X W body gs) (hs : ∀ x, foldedSetIterable iter X.env x = pure x := by intro _; rfl) :
    DS X W (.For tg iter body [] pos) (sFor fs set gs) := by
  obtain ⟨ti, pi, qi⟩ := hi.ex
  obtain ⟨tgt, pg, qg⟩ := hg.ex
  obtain ⟨tb, pb, qb⟩ := hb.ex
  refine ⟨⟨_, ps_for hp hc pi pg pb hs, fun ph am σ H δ D ans δ' s z k kx => ?_⟩⟩
  rcases bnd_some z with ⟨ds, δ1, e1, e2⟩ | ⟨c, fs, e1, e2⟩
  · refine qi ph am σ H δ _ _ _ s e1 (fun d' ed am1 H1 J st1 s1 wd => ?_) (fun c fs z => by cases z)
    cases ed
    obtain ⟨G, Y, w, hG, hY⟩ := wd
    refine for_it w (fun i σ' H' => ∃ am2 δ2, Step am1 H1 am2 H' ∧ SR X.K ph am2 σ' H' δ2 ∧ loopD set gs (ds.drop i) δ2 = some (ans, δ')) ⟨am1, δ1, Step.refl, s1, e2⟩ (fun i σ' H' _ ⟨am2, δ2, st, _, _⟩ => hG ph am2 H' st.hid) (fun i x σ' H2 H3 hi ⟨am2, δ2, st, s2, el⟩ y => ?_) (fun σ' H' ⟨am2, δ2, st, s2, el⟩ => ?_)
    · obtain ⟨d, hd, sm, dq⟩ := hY i x H2 H3 ph am2 hi st.hid (fun b h => s2.hidden h) y
      have hdr : ds.drop i = d :: ds.drop (i + 1) := by
        obtain ⟨h1, h2⟩ := List.getElem?_eq_some_iff.mp hd
        rw [List.drop_eq_getElem_cons h1, h2]
      rw [hdr] at el
      unfold loopD at el
      have s3 := s2.same sm
      split at el
      · cases el
      · rename_i δ3 es
        refine qg ph am2 σ' H3 δ2 δ3 x d _ s3 dq es fun am4 σ4 st4 s4 => ?_
        have stA : Step am1 H1 am4 H3 := (st.trans (Step.of sm)).trans st4
        split at el
        · rename_i δ4 eb
          exact qb ph am4 σ4 H3 δ3 _ _ _ s4 eb (fun fl z => by cases z; exact fun am5 σ5 H5 st5 s5 => ⟨am5, δ4, stA.trans st5, s5, el⟩) (fun c fs z => by cases z)
        · rename_i δ4 eb
          exact qb ph am4 σ4 H3 δ3 _ _ _ s4 eb (fun fl z => by cases z; exact fun am5 σ5 H5 st5 s5 => ⟨am5, δ4, stA.trans st5, s5, el⟩) (fun c fs z => by cases z)
        · rename_i δ4 eb
          cases el
          exact qb ph am4 σ4 H3 δ3 _ _ _ s4 eb (fun fl z => by cases z; exact fun am5 σ5 H5 st5 s5 => k _ rfl am5 σ5 H5 ((st1.trans stA).trans st5) s5) (fun c fs z => by cases z)
        · rename_i n1 n2 n3
          refine qb ph am4 σ4 H3 δ3 _ ans δ' s4 el (fun fl z => ?_) (fun c fs z => (kx c fs z).step (st1.trans stA))
          subst z
          cases fl with
          | nx => exact (n1 _ el).elim
          | ct => exact (n2 _ el).elim
          | bk => exact (n3 _ el).elim
          | rt d => exact fun am5 σ5 v H5 st5 s5 d5 => k _ rfl am5 σ5 v H5 ((st1.trans stA).trans st5) s5 d5
          | rf ds => exact fun am5 σ5 p vs H5 m1 m2 st5 s5 d5 => k _ rfl am5 σ5 p vs H5 ((st1.trans stA).none m1) m2 ((st1.trans stA).trans st5) s5 d5
          | ro ds => exact fun am5 σ5 i p vs H5 st5 s5 d5 => k _ rfl am5 σ5 i p vs H5 ((st1.trans stA).trans st5) s5 d5
    · rw [List.drop_length] at el
      cases el
      exact k _ rfl am2 σ' H' (st1.trans st) s2
  · subst e2
    exact qi ph am σ H δ _ _ _ s e1 (fun d ed => by cases ed) (fun c' fs' z => by cases z; exact (kx _ _ rfl).at)
end PD
end

section
set_option Elab.async false
set_option linter.all false
set_option maxRecDepth 100000
set_option maxHeartbeats 1000000
namespace PD
open PySem PySem.Spec PyProof.Rows L2
variable {X : Cx} {W : WX} {pos : Pos} {e e1 e2 e3 : Expr} {es : List Expr} {f g h : M PyData} {fs : M (List PyData)} {fb gb : M Bool}
variable {K : PySem.W.Frag} {ph : Fx} {am am' am1 : Am} {H H' H1 : Hp} {σ σ' : L2.St} {δ δ' δ1 : Sg} {a p p1 p2 D : Addr} {v : V} {vs : List V} {d : PyData} {ds : List PyData} {i : Nat}

/-! ### a heap without the new list -/
def del (D : Addr) (H : Hp) : Hp := fun b => if b = D then none else H b
theorem del_same : del D H D = none := by simp [del]
theorem del_ne {b : Addr} (h : b ≠ D) : del D H b = H b := by simp [del, h]
theorem del_upd {o : HO} : del D (upd H D o) = del D H := by
  funext b
  by_cases h : b = D
  · rw [h, del_same, del_same]
  · rw [del_ne h, del_ne h, upd_ne h]
theorem del_new {o : HO} (n : H D = none) : del D (upd H D o) = H := by
  funext b
  by_cases h : b = D
  · rw [h, del_same, n]
  · rw [del_ne h, upd_ne h]
theorem upd_del {o : HO} (e : H D = some o) : upd (del D H) D o = H := by
  funext b
  by_cases h : b = D
  · rw [h, upd_same, e]
  · rw [upd_ne h, del_ne h]
/-- D hidden too -/
def Fx.also (ph : Fx) (D : Addr) : Fx := ⟨fun b => ph.ph b ∨ b = D, ph.ba⟩
theorem hid_also : hid (ph.also D) am H = hid ph am (del D H) := by
  funext b
  unfold hid
  by_cases hD : b = D
  · rw [hD, del_same, if_pos (show Hid (ph.also D) am D from .inl (.inr rfl))]
    split <;> rfl
  · rw [del_ne hD]
    have : Hid (ph.also D) am b ↔ Hid ph am b := by
      unfold Hid Fx.also
      constructor
      · rintro ((q | q) | q)
        · exact .inl q
        · exact (hD q).elim
        · exact .inr q
      · rintro (q | q)
        · exact .inl (.inl q)
        · exact .inr q
    by_cases h : Hid ph am b
    · rw [if_pos h, if_pos (this.mpr h)]
    · rw [if_neg h, if_neg (fun z => h (this.mp z))]
theorem SR.also (s : SR K ph am σ (del D H) δ) {o : HO} (e : H D = some o) (hm : mu o := by intro _ z; cases z) : SR K (ph.also D) am σ H δ := by
  have aD : ∀ i a, am i = some a → a ≠ D := fun i a h z => by
    obtain ⟨o', h'⟩ := s.hidden (.inr ⟨i, h⟩)
    rw [z, del_same] at h'
    cases h'
  refine ⟨s.len, fun i d q => by rw [hid_also]; exact s.fz i d q, fun i b ds q => ?_, fun i a q => ?_, s.inj, fun b hb => ?_, s.bas, fun i o q => ?_⟩
  · obtain ⟨a, vs, h1, h2, h3, h4, h5⟩ := s.ow i b ds q
    exact ⟨a, vs, h1, h2, by rw [del_ne (aD i a h1)] at h3; exact h3, by rw [hid_also]; exact h4, h5⟩
  · obtain ⟨h1, h2⟩ := s.amf i a q
    exact ⟨fun z => z.elim h1 (aD i a q), h2⟩
  · rcases hb with hb | hb
    · obtain ⟨o', h', m⟩ := s.phs b hb
      have : b ≠ D := fun z => by
        rw [z, del_same] at h'
        cases h'
      rw [del_ne this] at h'
      exact ⟨o', h', m⟩
    · exact ⟨o, by rw [hb]; exact e, hm⟩
  · obtain ⟨a, u, h1, h2, h3, h4, h5⟩ := s.od i o q
    exact ⟨a, u, h1, h2, by rw [del_ne (aD i a h1)] at h3; exact h3, by rw [hid_also]; exact h4, h5⟩
theorem SR.unalso (s : SR K (ph.also D) am σ H δ) (hph : ¬ ph.ph D) : SR K ph am σ (del D H) δ := by
  have aD : ∀ i a, am i = some a → a ≠ D := fun i a h z => (s.amf i a h).1 (.inr z)
  refine ⟨s.len, fun i d q => by rw [← hid_also]; exact s.fz i d q, fun i b ds q => ?_, fun i a q => ?_, s.inj, fun b hb => ?_, s.bas, fun i o q => ?_⟩
  · obtain ⟨a, vs, h1, h2, h3, h4, h5⟩ := s.ow i b ds q
    exact ⟨a, vs, h1, h2, by rw [del_ne (aD i a h1)]; exact h3, by rw [← hid_also]; exact h4, h5⟩
  · obtain ⟨h1, h2⟩ := s.amf i a q
    exact ⟨fun z => h1 (.inl z), h2⟩
  · obtain ⟨o', h', m⟩ := s.phs b (.inl hb)
    have : b ≠ D := fun z => hph (by rw [← z]; exact hb)
    exact ⟨o', by rw [del_ne this]; exact h', m⟩
  · obtain ⟨a, u, h1, h2, h3, h4, h5⟩ := s.od i o q
    exact ⟨a, u, h1, h2, by rw [del_ne (aD i a h1)]; exact h3, by rw [← hid_also]; exact h4, h5⟩
theorem Step.del (st : Step am H am' H') (hD : ∀ i, am' i ≠ some D) : Step am (PD.del D H) am' (PD.del D H') where
  keep := fun b o h n => by
    by_cases z : b = D
    · rw [z, del_same] at h; cases h
    · rw [del_ne z] at h ⊢
      exact st.keep b o h n
  new := fun i a h => by
    rcases st.new i a h with q | q
    · exact .inl q
    · refine .inr ?_
      rw [del_ne (fun z => hD i (by rw [← z]; exact h))]
      exact q
  there := fun b o h => by
    by_cases z : b = D
    · rw [z, del_same] at h; cases h
    · rw [del_ne z] at h ⊢
      exact st.there b o h

/-! ### the comprehension's own names -/
def wipeD (δ : Sg) : List Nat → Sg
  | [] => δ
  | i :: r => (wipeD δ r).set i .un
def noOw (δ : Sg) (is : List Nat) : Bool := is.all fun i => match δ[i]? with
  | some (.ow _ _) => false
  | some (.od _) => false
  | _ => true
theorem wipeD_length : ∀ {is : List Nat}, (wipeD δ is).length = δ.length
  | [] => rfl
  | i :: r => by rw [wipeD, List.length_set, wipeD_length]
theorem wipeD_out : ∀ {is : List Nat}, i ∉ is → (wipeD δ is)[i]? = δ[i]?
  | [], _ => rfl
  | j :: r, h => by
    rw [wipeD, List.getElem?_set_ne (fun z => h (by simp [z])), wipeD_out (fun z => h (by simp [z]))]
theorem wipeD_in : ∀ {is : List Nat} {c : Cell}, i ∈ is → (wipeD δ is)[i]? = some c → c = .un
  | j :: r, c, h, q => by
    by_cases hj : j = i
    · subst hj
      rw [wipeD] at q
      by_cases hl : j < (wipeD δ r).length
      · rw [List.getElem?_set_self hl] at q
        exact (Option.some.inj q).symm
      · rw [List.getElem?_eq_none (by rw [List.length_set]; omega)] at q
        cases q
    · rw [wipeD, List.getElem?_set_ne hj] at q
      exact wipeD_in (by simpa [Ne.symm hj] using h) q
theorem SR.wipe (s : SR K ph am σ H δ) {is : List Nat} (n : noOw δ is = true) : SR K ph am (L2.wipe σ is) H (wipeD δ is) := by
  have no : ∀ i ∈ is, ∀ c : Cell, c.Own → δ[i]? ≠ some c := fun i hi c co e => by
    have := List.all_eq_true.mp n i hi
    rw [e] at this
    cases c <;> first | exact co.elim | cases this
  refine ⟨by rw [L2.wipe_length, wipeD_length, s.len], fun i d q => ?_, fun i b ds q => ?_, fun i a q => ?_, s.inj, s.phs, s.bas, fun i o q => ?_⟩
  · by_cases hi : i ∈ is
    · cases wipeD_in hi q
    · rw [wipeD_out hi] at q
      rw [L2.wipe_out hi]
      exact s.fz i d q
  · by_cases hi : i ∈ is
    · cases wipeD_in hi q
    · rw [wipeD_out hi] at q
      rw [L2.wipe_out hi]
      exact s.ow i b ds q
  · obtain ⟨h1, c, h2, h3⟩ := s.amf i a q
    exact ⟨h1, c, by rw [wipeD_out (fun hi => no i hi c h3 h2)]; exact h2, h3⟩
  · by_cases hi : i ∈ is
    · cases wipeD_in hi q
    · rw [wipeD_out hi] at q
      rw [L2.wipe_out hi]
      exact s.od i o q
/-- the names as they were, all else as it is -/
def backD (δ0 δ : Sg) : List Nat → Sg
  | [] => δ
  | i :: r => (backD δ0 δ r).set i (δ0.getD i .un)
theorem backD_length {δ0 : Sg} : ∀ {is : List Nat}, (backD δ0 δ is).length = δ.length
  | [] => rfl
  | i :: r => by rw [backD, List.length_set, backD_length]
theorem backD_out {δ0 : Sg} : ∀ {is : List Nat}, i ∉ is → (backD δ0 δ is)[i]? = δ[i]?
  | [], _ => rfl
  | j :: r, h => by
    rw [backD, List.getElem?_set_ne (fun z => h (by simp [z])), backD_out (fun z => h (by simp [z]))]
theorem backD_in {δ0 : Sg} : ∀ {is : List Nat} {c : Cell}, i ∈ is → (backD δ0 δ is)[i]? = some c → c = δ0.getD i .un
  | j :: r, c, h, q => by
    by_cases hj : j = i
    · subst hj
      rw [backD] at q
      by_cases hl : j < (backD δ0 δ r).length
      · rw [List.getElem?_set_self hl] at q
        exact (Option.some.inj q).symm
      · rw [List.getElem?_eq_none (by rw [List.length_set]; omega)] at q
        cases q
    · rw [backD, List.getElem?_set_ne hj] at q
      exact backD_in (by simpa [Ne.symm hj] using h) q
theorem SR.back {δ0 : Sg} {am0 : Am} {H0 : Hp} (s0 : SR K ph am0 σ H0 δ0) (st : Step am0 H0 am H) {is : List Nat} (n0 : noOw δ0 is = true) (s : SR K ph am (L2.wipe σ is) H δ) (n : ∀ i ∈ is, ∀ c, δ[i]? = some c → c = .un) : SR K ph am σ H (backD δ0 δ is) := by
  have no : ∀ i ∈ is, ∀ c : Cell, c.Own → δ0[i]? ≠ some c := fun i hi c co e => by
    have := List.all_eq_true.mp n0 i hi
    rw [e] at this
    cases c <;> first | exact co.elim | cases this
  refine ⟨?_, fun i d q => ?_, fun i b ds q => ?_, fun i a q => ?_, s.inj, s.phs, s.bas, fun i o q => ?_⟩
  · have := s.len
    rw [L2.wipe_length] at this
    rw [backD_length, this]
  · by_cases hi : i ∈ is
    · have e := backD_in hi q
      cases e0 : δ0[i]? with
      | none =>
        rw [List.getD_eq_getElem?_getD, e0] at e
        cases e
      | some c =>
        rw [List.getD_eq_getElem?_getD, e0] at e
        have e' : Cell.fz d = c := e
        subst e'
        obtain ⟨v, h1, h2⟩ := s0.fz i d e0
        exact ⟨v, h1, dp_mono st.hid h2⟩
    · rw [backD_out hi] at q
      obtain ⟨v, h1, h2⟩ := s.fz i d q
      rw [L2.wipe_out hi] at h1
      exact ⟨v, h1, h2⟩
  · by_cases hi : i ∈ is
    · have e := backD_in hi q
      cases e0 : δ0[i]? with
      | none =>
        rw [List.getD_eq_getElem?_getD, e0] at e
        cases e
      | some c =>
        rw [List.getD_eq_getElem?_getD, e0] at e
        have e' : Cell.ow b ds = c := e
        subst e'
        exact (no i hi (.ow b ds) trivial e0).elim
    · rw [backD_out hi] at q
      obtain ⟨a, vs, h1, h2, h3⟩ := s.ow i b ds q
      rw [L2.wipe_out hi] at h2
      exact ⟨a, vs, h1, h2, h3⟩
  · obtain ⟨h1, c, h2, h3⟩ := s.amf i a q
    have hi : i ∉ is := fun hi => by
      have e := n i hi _ h2
      rw [e] at h3
      exact h3.elim
    exact ⟨h1, c, by rw [backD_out hi]; exact h2, h3⟩
  · by_cases hi : i ∈ is
    · have e := backD_in hi q
      cases e0 : δ0[i]? with
      | none =>
        rw [List.getD_eq_getElem?_getD, e0] at e
        cases e
      | some c =>
        rw [List.getD_eq_getElem?_getD, e0] at e
        have e' : Cell.od o = c := e
        subst e'
        exact (no i hi (.od o) trivial e0).elim
    · rw [backD_out hi] at q
      obtain ⟨a, u, h1, h2, h3⟩ := s.od i o q
      rw [L2.wipe_out hi] at h2
      exact ⟨a, u, h1, h2, h3⟩
/-! ### [e for x in xs if t] -/
def compD (is : List Nat) (set : Tg) (t : M Bool) (el : M PyData) : List PyData → List PyData → Sg → Option (List PyData × Sg)
  | [], acc, δ => some (acc, δ)
  | d :: ds, acc, δ => match set d δ with
    | none => none
    | some δ1 => match t δ1 with
      | some (.ok true, δ2) => match el δ2 with
        | some (.ok y, δ3) => if acc.length < sizeLine ∧ noOw δ3 is = true then compD is set t el ds (acc ++ [y]) (wipeD δ3 is) else none
        | _ => none
      | some (.ok false, δ2) => if noOw δ2 is = true then compD is set t el ds acc (wipeD δ2 is) else none
      | _ => none
def xComp (it : M (List PyData)) (is : List Nat) (set : Tg) (t : M Bool) (el : M PyData) : M (List PyData) := bnd it fun ds => fun δ =>
  if noOw δ is = true then match compD is set t el ds [] (wipeD δ is) with
    | some (acc, δ') => some (.ok acc, backD δ δ' is)
    | none => none
  else none
theorem compD_un {is : List Nat} {set : Tg} {t : M Bool} {el : M PyData} : ∀ {ds acc out : List PyData} {δ δ' : Sg}, compD is set t el ds acc δ = some (out, δ') → (∀ i ∈ is, ∀ c, δ[i]? = some c → c = .un) → ∀ i ∈ is, ∀ c, δ'[i]? = some c → c = .un
  | [], acc, out, δ, δ', h, n => by cases h; exact n
  | d :: ds, acc, out, δ, δ', h, n => by
    unfold compD at h
    split at h
    · cases h
    · split at h
      · split at h
        · split at h
          · exact compD_un h fun i hi c q => wipeD_in hi q
          · cases h
        · cases h
      · split at h
        · exact compD_un h fun i hi c q => wipeD_in hi q
        · cases h
      · cases h
abbrev Blk (X : Cx) (scope : Scope) (s : Shared) (H : Hp) (C : Addr) (cl : List (Str × Addr)) (fp : List Addr) : Cx := X.blk s H scope (compEnvC scope cl C X.env) fp
/-- a target of a comprehension: what it stores are the own names -/
structure DGc (X : Cx) (tg : Expr) (is : List Nat) (s : Tg) : Prop where
  ex : ∃ t, PG X tg t ∧ ∀ (ph : Fx) (am : Am) (σ : L2.St) (H : Hp) (δ δ' : Sg) (v : V) (d : PyData) (Q : L2.St → Hp → Prop), SR X.K ph am σ H δ → Dq X.K (hid ph am H) v d → s d δ = some δ' →
    (∀ am' σ', Step am H am' H → SR X.K ph am' σ' H δ' → L2.wipe σ' is = L2.wipe σ is → Q σ' H) → t v σ H Q
def tgcOf (K : PySem.W.Frag) (is : List Nat) (s : Tg) : TG := fun v σ H Q => ∃ ph am δ δ' d, SR K ph am σ H δ ∧ Dq K (hid ph am H) v d ∧ s d δ = some δ' ∧ (∀ am' σ', Step am H am' H → SR K ph am' σ' H δ' → L2.wipe σ' is = L2.wipe σ is → Q σ' H)
theorem DGc.can {tg : Expr} {is : List Nat} {s : Tg} (d : DGc X tg is s) : PG X tg (tgcOf X.K is s) := by
  obtain ⟨t, p, q⟩ := d.ex
  exact ⟨fun pins st σ H v u Q I r ⟨ph, am, δ, δ', dd, s1, s2, s3, k⟩ => p.run pins st σ H v u Q I r (q ph am σ H δ δ' v dd Q s1 s2 s3 k)⟩
theorem wipe_get : ∀ {is : List Nat} {σ : L2.St} {j : Nat}, (L2.wipe σ is)[j]? = if j ∈ is then (σ[j]?).map (fun _ => none) else σ[j]?
  | [], σ, j => by simp [L2.wipe]
  | v :: r, σ, j => by
    rw [L2.wipe]
    by_cases h : v = j
    · subst h
      rw [if_pos (by simp)]
      by_cases hl : v < σ.length
      · rw [List.getElem?_set_self (by rw [L2.wipe_length]; exact hl), List.getElem?_eq_getElem hl]
        rfl
      · rw [List.getElem?_eq_none (by rw [List.length_set, L2.wipe_length]; omega), List.getElem?_eq_none (by omega)]
        rfl
    · rw [List.getElem?_set_ne h, wipe_get]
      by_cases hr : j ∈ r
      · rw [if_pos hr, if_pos (by simp [hr])]
      · rw [if_neg hr, if_neg (by simp [hr, Ne.symm h])]
theorem wipe_set {is : List Nat} {i : Nat} {x : Option V} (h : i ∈ is) : L2.wipe (σ.set i x) is = L2.wipe σ is := by
  apply List.ext_getElem?
  intro j
  rw [wipe_get, wipe_get]
  by_cases hj : j ∈ is
  · rw [if_pos hj, if_pos hj]
    by_cases hl : j < σ.length
    · rw [List.getElem?_eq_getElem (by rw [List.length_set]; exact hl), List.getElem?_eq_getElem hl]
      rfl
    · rw [List.getElem?_eq_none (by rw [List.length_set]; omega), List.getElem?_eq_none (by omega)]
  · rw [if_neg hj, if_neg hj, List.getElem?_set_ne (fun z => hj (by rw [← z]; exact h))]
theorem wipe_wipe {is : List Nat} : L2.wipe (L2.wipe σ is) is = L2.wipe σ is := by
  apply List.ext_getElem?
  intro j
  rw [wipe_get, wipe_get]
  by_cases hj : j ∈ is
  · rw [if_pos hj, if_pos hj]
    cases σ[j]? <;> rfl
  · rw [if_neg hj, if_neg hj]
theorem dgc_name {is : List Nat} {i : Nat} {x : Str} (hN : X.N.Nodup) (hm : i ∈ is) (hi : X.N[i]? = some x := by rfl) (hx : Loc X.env.scope x := by first | exact Or.inl rfl | exact Or.inr rfl) (hf : X.fn x = true ∨ X.env.scope.names.lookup x = some .local := by first | exact .inl rfl | exact .inr rfl) : DGc X (.Name x pos) is (sName i) :=
  ⟨⟨gName i, pg_name hN hi hx hf, fun ph am σ H δ δ' v d Q s dv q k => by
    obtain ⟨c, e1, e2, rfl⟩ := sName_some q
    exact k _ _ step_drop (s.put e1 e2 dv) (wipe_set hm)⟩⟩
structure DGsc (X : Cx) (ts : List Expr) (is : List Nat) (s : Tgs) : Prop where
  ex : ∃ t, PGs X ts t ∧ ∀ (ph : Fx) (am : Am) (σ : L2.St) (H : Hp) (δ δ' : Sg) (vs : List V) (ds : List PyData) (Q : L2.St → Hp → Prop), SR X.K ph am σ H δ → DqAll X.K (hid ph am H) vs ds → s ds δ = some δ' →
    (∀ am' σ', Step am H am' H → SR X.K ph am' σ' H δ' → L2.wipe σ' is = L2.wipe σ is → Q σ' H) → t vs σ H Q
theorem dgsc_nil {is : List Nat} : DGsc X [] is sNil := ⟨⟨gNil, pgs_nil, fun ph am σ H δ δ' vs ds Q s dv q k => by
  cases dv with
  | nil => cases q; exact ⟨rfl, k am σ Step.refl s rfl⟩
  | cons _ _ => cases q⟩⟩
theorem dgsc_cons {is : List Nat} {tg : Expr} {ts : List Expr} {s : Tg} {r : Tgs} (h : DGc X tg is s) (t : DGsc X ts is r) (hs : (assignEach (tg :: ts) X.env).map (·.2) = assign tg X.env :: (assignEach ts X.env).map (·.2) := by rfl) : DGsc X (tg :: ts) is (sCons s r) := by
  obtain ⟨t1, p1, q1⟩ := h.ex
  obtain ⟨t2, p2, q2⟩ := t.ex
  refine ⟨⟨_, pgs_cons p1 p2 hs, fun ph am σ H δ δ' vs ds Q s dv q k => ?_⟩⟩
  cases dv with
  | nil => cases q
  | cons dv dt =>
    rename_i v vs d ds
    unfold sCons at q
    simp only at q
    split at q
    · rename_i δ1 e1
      refine ⟨v, vs, rfl, q1 ph am σ H δ δ1 v d _ s dv e1 fun am1 σ1 st1 s1 w1 => ?_⟩
      exact q2 ph am1 σ1 H δ1 δ' vs ds Q s1 (dps_mono st1.hid dt) q fun am2 σ2 st2 s2 w2 => k am2 σ2 (st1.trans st2) s2 (w2.trans w1)
    · cases q
theorem dgc_tup {is : List Nat} {ts : List Expr} {k n : Nat} {r : Tgs} (hc : X.calm = true) (t : DGsc X ts is r) (hn : (assignEach ts X.env).length = n := by rfl) (hst : (assignEach ts X.env).findIdx? (·.1) = none := by rfl) : DGc X (.Tuple ts k pos) is (sTup n r) := by
  obtain ⟨t2, p2, q2⟩ := t.ex
  refine ⟨⟨_, pg_tup hc p2 hn hst, fun ph am σ H δ δ' v d Q s dv q k => ?_⟩⟩
  cases dv with
  | tup h1 a1 =>
    unfold sTup at q
    simp only at q
    split at q
    · rename_i hl
      exact ⟨_, _, rfl, seqT_hid h1, by rw [a1.length]; exact hl, q2 ph am σ H δ δ' _ _ Q s a1 q k⟩
    · cases q
  | _ => cases q
structure DTs (X : Cx) (W : WX) (es : List Expr) (f : M Bool) : Prop where
  ex : ∃ t, PTs X es t ∧ ReadT X W t f
theorem dts_nil : DTs X W [] (ret true) := ⟨⟨tYes, pts_nil, fun ph am σ H δ Q ans δ' s q k _ => by cases q; exact k _ rfl am H Step.refl s⟩⟩
theorem dts_one (h : DT X W e fb) : DTs X W [e] fb := by
  obtain ⟨t, p, q⟩ := h.ex
  exact ⟨⟨t, pts_one p, q⟩⟩
theorem DTs.can (d : DTs X W es fb) : PTs X es (ttOf X.K X.mg W fb) := by
  obtain ⟨t, p, q⟩ := d.ex
  exact ⟨fun pins s σ H Q I ⟨ph, am, δ, ans, δ', s1, e, k, kx⟩ => p.run pins s σ H Q I (q ph am σ H δ Q ans δ' s1 e k kx)⟩
theorem comp_read {ti : TI} {is : List Nat} {set : Tg} {t : M Bool} {el : M PyData} (qi : ReadI X W ti fs) : ReadF X W (tLc ti (tgcOf X.K is set) (ttOf X.K X.mg E00 t) (tOf X.K X.mg E00 el) is) (xComp fs is set t el) := by
  intro ph am σ H δ Q ans δ' s z k kx
  rcases bnd_some z with ⟨ds, δ1, e1, e2⟩ | ⟨c, fs, e1, e2⟩
  · refine qi ph am σ H δ _ _ _ s e1 (fun d' ed am1 H1 J st1 s1 wd => ?_) (fun c fs z => by cases z)
    cases ed
    split at e2
    · rename_i hno
      split at e2
      · rename_i acc δ2 ec
        cases e2
        intro D hD
        obtain ⟨G, Y, w, hG, hY⟩ := wd
        have nD : ¬ ph.ph D := fun z => by
          obtain ⟨o, h, _⟩ := s1.phs D z
          rw [hD] at h
          cases h
        refine lc_it w (fun i H' => ∃ am2 δ3 av ad, Step am1 H1 am2 (del D H') ∧ SR X.K ph am2 (L2.wipe σ is) (del D H') δ3 ∧ H' D = some (.lst av) ∧ DqAll X.K (hid ph am2 (del D H')) av ad ∧ av.length ≤ sizeLine ∧ (∀ i ∈ is, ∀ c, δ3[i]? = some c → c = .un) ∧ compD is set t el (ds.drop i) ad δ3 = some (acc, δ2)) ?_ (fun i H' _ ⟨am2, δ3, av, ad, st, s2, hl, dq, hz, hu, el⟩ => hG (ph.also D) am2 H' (by rw [hid_also]; exact st.hid)) (fun i x H2 H3 hi ⟨am2, δ3, av, ad, st, s2, hl, dq, hz, hu, ee⟩ y => ?_) (fun H' ⟨am2, δ3, av, ad, st, s2, hl, dq, hz, hu, ee⟩ => ?_)
        · rw [del_new hD]
          exact ⟨am1, wipeD δ1 is, [], [], Step.refl, s1.wipe hno, upd_same, .nil, Nat.zero_le _, fun i hi c q => wipeD_in hi q, ec⟩
        · have sA : SR X.K (ph.also D) am2 (L2.wipe σ is) H2 δ3 := s2.also hl
          obtain ⟨d, hd, sm, dqx⟩ := hY i x H2 H3 (ph.also D) am2 hi (by rw [hid_also]; exact st.hid) (fun b h => sA.hidden h) y
          have hdr : ds.drop i = d :: ds.drop (i + 1) := by
            obtain ⟨h1, h2⟩ := List.getElem?_eq_some_iff.mp hd
            rw [List.drop_eq_getElem_cons h1, h2]
          rw [hdr] at ee
          unfold compD at ee
          split at ee
          · cases ee
          · rename_i δ4 es
            refine ⟨ph.also D, am2, δ3, δ4, d, sA.same sm, dqx, es, fun am4 σ4 st4 s4 w4 => ?_⟩
            rw [wipe_wipe] at w4
            have fin : ∀ {am6 : Am} {H6 : Hp} {δ6 : Sg} {ov : List V} {od : List PyData}, Step am4 H3 am6 H6 → SR X.K (ph.also D) am6 σ4 H6 δ6 → noOw δ6 is = true → DqAll X.K (hid (ph.also D) am6 H6) ov od → (av ++ ov).length ≤ sizeLine →
                compD is set t el (ds.drop (i + 1)) (ad ++ od) (wipeD δ6 is) = some (acc, δ2) → H6 D = some (.lst av) ∧ ∀ H7, H7 D = some (.lst (av ++ ov)) → del D H7 = del D H6 →
                ∃ am2 δ3 av ad, Step am1 H1 am2 (del D H7) ∧ SR X.K ph am2 (L2.wipe σ is) (del D H7) δ3 ∧ H7 D = some (.lst av) ∧ DqAll X.K (hid ph am2 (del D H7)) av ad ∧ av.length ≤ sizeLine ∧ (∀ i ∈ is, ∀ c, δ3[i]? = some c → c = .un) ∧ compD is set t el (ds.drop (i + 1)) ad δ3 = some (acc, δ2) := by
              intro am6 H6 δ6 ov od st6 s6 no6 dv hz6 e6
              have stT : Step am2 H2 am6 H6 := ((Step.of sm).trans st4).trans st6
              have hD6 : ∀ i, am6 i ≠ some D := fun i e => (s6.amf i D e).1 (.inr rfl)
              refine ⟨stT.keep D _ hl fun i e => (sA.amf i D e).1 (.inr rfl), fun H7 h7 e7 => ?_⟩
              rw [e7]
              refine ⟨am6, wipeD δ6 is, av ++ ov, ad ++ od, st.trans (stT.del hD6), ?_, h7, ?_, hz6, fun i hi c q => wipeD_in hi q, e6⟩
              · have := (s6.wipe no6).unalso nD
                rw [w4] at this
                exact this
              · rw [hid_also] at dv
                exact (dps_mono (stT.del hD6).hid dq).append dv
            refine ⟨w4, ?_⟩
            split at ee
            · rename_i δ5 et
              split at ee
              · rename_i yy δ6 ey
                split at ee
                · rename_i hc
                  refine ⟨ph.also D, am4, δ4, _, δ5, s4, et, fun b eb am5 H5 st5 s5 => ?_, fun c fs z => by cases z⟩
                  cases eb
                  refine iteT ⟨ph.also D, am5, δ5, _, δ6, s5, ey, fun d ed am6 v H6 st6 s6 d6 => ?_, fun c fs z => by cases z⟩
                  cases ed
                  have hl2 : av.length < sizeLine := by rw [dq.length]; exact hc.1
                  obtain ⟨g1, g2⟩ := fin (st5.trans st6) s6 hc.2 (.cons d6 .nil) (by rw [List.length_append]; exact hl2) ee
                  exact ⟨av, g1, hl2, g2 _ upd_same del_upd⟩
                · cases ee
              · cases ee
            · rename_i δ5 et
              split at ee
              · rename_i hc
                refine ⟨ph.also D, am4, δ4, _, δ5, s4, et, fun b eb am5 H5 st5 s5 => ?_, fun c fs z => by cases z⟩
                cases eb
                refine iteF ?_
                obtain ⟨g1, g2⟩ := fin (ov := []) (od := []) st5 s5 hc .nil (by rw [List.append_nil]; exact hz) (by rw [List.append_nil]; exact ee)
                exact g2 H5 (by rw [List.append_nil]; exact g1) rfl
              · cases ee
            · cases ee
        · rw [List.drop_length] at ee
          cases ee
          have := k _ rfl am2 D av (del D H') (st1.none hD) del_same (st1.trans st) (SR.back s1 st hno s2 hu) dq hz
          rw [upd_del hl] at this
          exact this
      · cases e2
    · cases e2
  · subst e2
    exact qi ph am σ H δ _ _ _ s e1 (fun d ed => by cases ed) (fun c' fs' z => by cases z; exact kx _ _ rfl)
theorem df_lc {elt tg iter : Expr} {ifs : List Expr} {scope : Scope} {own : List (Str × Nat)} {set : Tg} {t : M Bool} {el : M PyData} (hc : X.calm = true) (hN : X.N.Nodup) (hi : DI X W tg iter fs) (ok : BlkOk X.N X.env.scope scope own)
    (hg : ∀ (s : Shared) (H : Hp) (C : Addr) (cl : List (Str × Addr)) (fp : List Addr), DGc (Blk X scope s H C cl fp) tg (own.map (·.2)) set) (ht : ∀ (s : Shared) (H : Hp) (C : Addr) (cl : List (Str × Addr)) (fp : List Addr), DTs (Blk X scope s H C cl fp) E00 ifs t)
    (he : ∀ (s : Shared) (H : Hp) (C : Addr) (cl : List (Str × Addr)) (fp : List Addr), DE (Blk X scope s H C cl fp) E00 elt el) (hs : ∀ x, foldedSetIterable iter X.env x = pure x := by intro _; rfl) :
    DF X W (.ListComp elt [⟨tg, iter, ifs, 0⟩] scope pos) (xComp fs (own.map (·.2)) set t el) := by
  obtain ⟨ti, pi, qi⟩ := hi.ex
  exact ⟨⟨_, pe_lc hc hN pi ok (fun s H C cl fp => (hg s H C cl fp).can) (fun s H C cl fp => (ht s H C cl fp).can) (fun s H C cl fp => (he s H C cl fp).can) hs, comp_read qi⟩⟩
/-- name = [..] on one line -/
theorem ds_setLc {i : Nat} {y : Str} {py spos : Pos} {elt tg iter : Expr} {ifs : List Expr} {scope : Scope} {own : List (Str × Nat)} {set : Tg} {t : M Bool} {el : M PyData} (hc : X.calm = true) (hN : X.N.Nodup) (hi : DI X W tg iter fs) (ok : BlkOk X.N X.env.scope scope own)
    (hg : ∀ (s : Shared) (H : Hp) (C : Addr) (cl : List (Str × Addr)) (fp : List Addr), DGc (Blk X scope s H C cl fp) tg (own.map (·.2)) set) (ht : ∀ (s : Shared) (H : Hp) (C : Addr) (cl : List (Str × Addr)) (fp : List Addr), DTs (Blk X scope s H C cl fp) E00 ifs t)
    (he : ∀ (s : Shared) (H : Hp) (C : Addr) (cl : List (Str × Addr)) (fp : List Addr), DE (Blk X scope s H C cl fp) E00 elt el)
    (hsw : swapsWith (.ListComp elt [⟨tg, iter, ifs, 0⟩] scope pos) (some (.Name y py)) spos.line X.env = pure true)
    (hy : X.N[i]? = some y := by rfl) (hyl : X.env.scope.names.lookup y = some .local := by rfl) (hs : ∀ x, foldedSetIterable iter X.env x = pure x := by intro _; rfl) :
    DS X W (.Assign [.Name y py] (.ListComp elt [⟨tg, iter, ifs, 0⟩] scope pos) spos) (sOwn (xComp fs (own.map (·.2)) set t el) i) := by
  obtain ⟨ti, pi, qi⟩ := hi.ex
  exact ⟨⟨_, ps_setLc hc hN hy hyl hsw pi ok (fun s H C cl fp => (hg s H C cl fp).can) (fun s H C cl fp => (ht s H C cl fp).can) (fun s H C cl fp => (he s H C cl fp).can) hs, own_read (comp_read qi)⟩⟩
/-- .. the name is not to own it -/
theorem setf_read {i : Nat} {t : TE} (q1 : ReadF X W t fs) : ReadS X W (tAsg t (gName i)) (sAsg (bnd fs fun ds => ret (.list ds)) (sName i)) := by
  intro ph am σ H δ D ans δ' sr z k kx
  rcases bnd_some z with ⟨d, δ1, e1, e2⟩ | ⟨c, fs, e1, e2⟩
  · rcases bnd_some e1 with ⟨ds, δ2, e3, e4⟩ | ⟨c, fs, e3, e4⟩
    · cases e4
      refine q1 ph am σ H δ _ _ _ sr e3 (fun d ed am1 p vs H1 n0 n1 st1 s1 d1 hz => ?_) (fun c fs z => by cases z)
      cases ed
      split at e2
      · rename_i δ2 e5
        cases e2
        obtain ⟨c, e6, e7, rfl⟩ := sName_some e5
        have sm : Same H1 (upd H1 p (.lst vs)) := same_new n1
        exact k _ rfl _ _ _ ((st1.trans (Step.of sm)).trans step_drop) ((s1.same sm).put e6 e7 (new_lst (fun b h => s1.hidden h) n1 d1))
      · cases e2
    · cases e4
  · subst e2
    rcases bnd_some e1 with ⟨ds, δ2, e3, e4⟩ | ⟨c, fs, e3, e4⟩
    · cases e4
    · cases e4
      exact q1 ph am σ H δ _ _ _ sr e3 (fun d ed => by cases ed) (fun c' fs' z => by cases z; exact (kx _ _ rfl).at)
theorem ds_setLcF {i : Nat} {y : Str} {py spos : Pos} {elt tg iter : Expr} {ifs : List Expr} {scope : Scope} {own : List (Str × Nat)} {set : Tg} {t : M Bool} {el : M PyData} (hc : X.calm = true) (hN : X.N.Nodup) (hi : DI X W tg iter fs) (ok : BlkOk X.N X.env.scope scope own)
    (hg : ∀ (s : Shared) (H : Hp) (C : Addr) (cl : List (Str × Addr)) (fp : List Addr), DGc (Blk X scope s H C cl fp) tg (own.map (·.2)) set) (ht : ∀ (s : Shared) (H : Hp) (C : Addr) (cl : List (Str × Addr)) (fp : List Addr), DTs (Blk X scope s H C cl fp) E00 ifs t)
    (he : ∀ (s : Shared) (H : Hp) (C : Addr) (cl : List (Str × Addr)) (fp : List Addr), DE (Blk X scope s H C cl fp) E00 elt el)
    (hsw : swapsWith (.ListComp elt [⟨tg, iter, ifs, 0⟩] scope pos) (some (.Name y py)) spos.line X.env = pure true)
    (hy : X.N[i]? = some y := by rfl) (hyl : X.env.scope.names.lookup y = some .local := by rfl) (hs : ∀ x, foldedSetIterable iter X.env x = pure x := by intro _; rfl) :
    DS X W (.Assign [.Name y py] (.ListComp elt [⟨tg, iter, ifs, 0⟩] scope pos) spos) (sAsg (bnd (xComp fs (own.map (·.2)) set t el) fun ds => ret (.list ds)) (sName i)) := by
  obtain ⟨ti, pi, qi⟩ := hi.ex
  exact ⟨⟨_, ps_setLc hc hN hy hyl hsw pi ok (fun s H C cl fp => (hg s H C cl fp).can) (fun s H C cl fp => (ht s H C cl fp).can) (fun s H C cl fp => (he s H C cl fp).can) hs, setf_read (comp_read qi)⟩⟩
end PD
end

section
set_option Elab.async false
set_option linter.all false
set_option maxRecDepth 100000
set_option maxHeartbeats 1000000
namespace PD
open PySem PySem.Spec PyProof.Rows L2
variable {X : Cx} {W : WX} {pos : Pos} {e e1 e2 e3 : Expr} {es : List Expr} {f g h : M PyData} {fs : M (List PyData)} {fb gb : M Bool}
variable {K : PySem.W.Frag} {ph : Fx} {am am' am1 : Am} {H H' H1 : Hp} {σ σ' : L2.St} {δ δ' δ1 : Sg} {a p p1 p2 D : Addr} {v : V} {vs : List V} {d : PyData} {ds : List PyData} {i : Nat}

/-! ### what a def promises -/
def spD (K : PySem.W.Frag) (mg : Str → Option Value) (n : Nat) (G : Sg → Option (Ans PyData × Sg)) : Sp := fun vs H Q E => vs.length = n ∧ ∃ ph cells ans cells', SR K ph ph.ba (vs.map some) H cells ∧ G cells = some (ans, cells') ∧
  (∀ d, ans = .ok d → ∀ v H', Step ph.ba H ph.ba H' → SR K ph ph.ba (vs.map some) H' cells' → Dq K (hid ph ph.ba H') v d → Q v H') ∧ (∀ c fs, ans = .ex c fs → XPd K mg E ph ph.ba H c fs)
/-- .. handing back a new list -/
def spF (K : PySem.W.Frag) (mg : Str → Option Value) (n : Nat) (G : Sg → Option (Ans (List PyData) × Sg)) : Sp := fun vs H Q E => vs.length = n ∧ ∃ ph cells ans cells', SR K ph ph.ba (vs.map some) H cells ∧ G cells = some (ans, cells') ∧
  (∀ ds, ans = .ok ds → ∀ p us H', H p = none → H' p = none → Step ph.ba H ph.ba H' → SR K ph ph.ba (vs.map some) H' cells' → DqAll K (hid ph ph.ba H') us ds → us.length ≤ sizeLine → Q (.ref p) (upd H' p (.lst us))) ∧ (∀ c fs, ans = .ex c fs → XPd K mg E ph ph.ba H c fs)
/-- the cells of what was lent, as they are at the end -/
def keepD : Sg → Sg → Sg
  | [], _ => []
  | .ow _ _ :: cs, d :: ds => d :: keepD cs ds
  | c :: cs, _ :: ds => c :: keepD cs ds
  | c :: cs, [] => c :: keepD cs []
def keepO (cells δ : Sg) : Option Sg := if cells.length ≤ δ.length then some (keepD cells δ) else none
theorem keepO_some {cells δ out : Sg} (h : keepO cells δ = some out) : cells.length ≤ δ.length ∧ out = keepD cells δ := by
  unfold keepO at h
  split at h
  · cases h; exact ⟨by assumption, rfl⟩
  · cases h
def runD (m : Nat) (g : MS) (cells : Sg) : Option (Ans PyData × Sg) := match g (cells ++ List.replicate (m - cells.length) .un) with
  | some (.ok (.rt d), δ) => (keepO cells δ).map fun out => (.ok d, out)
  | some (.ok (.rf ds), δ) => (keepO cells δ).map fun out => (.ok (.list ds), out)
  | some (.ok .nx, δ) => (keepO cells δ).map fun out => (.ok .none, out)
  | some (.ex c fs, δ) => some (.ex c fs, δ)
  | _ => none
def runF (m : Nat) (g : MS) (cells : Sg) : Option (Ans (List PyData) × Sg) := match g (cells ++ List.replicate (m - cells.length) .un) with
  | some (.ok (.rf ds), δ) => (keepO cells δ).map fun out => (.ok ds, out)
  | some (.ok (.ro ds), δ) => (keepO cells δ).map fun out => (.ok ds, out)
  | some (.ex c fs, δ) => some (.ex c fs, δ)
  | _ => none
theorem keepO_map {α : Type} {cells δ : Sg} {f : Sg → α × Sg} {r : α × Sg} (h : (keepO cells δ).map f = some r) : cells.length ≤ δ.length ∧ r = f (keepD cells δ) := by
  cases e : keepO cells δ with
  | none => rw [e] at h; cases h
  | some o =>
    obtain ⟨h1, h2⟩ := keepO_some e
    rw [e] at h
    cases h
    exact ⟨h1, by rw [h2]⟩
theorem keepD_length : ∀ (cs ds : Sg), (keepD cs ds).length = cs.length
  | [], _ => rfl
  | .ow _ _ :: cs, d :: ds => by simp [keepD, keepD_length cs ds]
  | .ow _ _ :: cs, [] => by simp [keepD, keepD_length cs []]
  | .un :: cs, _ :: ds => by simp [keepD, keepD_length cs ds]
  | .un :: cs, [] => by simp [keepD, keepD_length cs []]
  | .fz _ :: cs, _ :: ds => by simp [keepD, keepD_length cs ds]
  | .fz _ :: cs, [] => by simp [keepD, keepD_length cs []]
  | .od _ :: cs, _ :: ds => by simp [keepD, keepD_length cs ds]
  | .od _ :: cs, [] => by simp [keepD, keepD_length cs []]
theorem keepD_get : ∀ {cs ds : Sg} {i : Nat} {c : Cell}, cs.length ≤ ds.length → (keepD cs ds)[i]? = some c → ∃ c0, cs[i]? = some c0 ∧ ((∃ b es, c0 = .ow b es) ∧ ds[i]? = some c ∨ (∀ b es, c0 ≠ .ow b es) ∧ c = c0)
  | [], _, i, c, _, h => by simp [keepD] at h
  | c0 :: cs, [], _, _, hl, _ => by simp at hl
  | .ow b es :: cs, d :: ds, 0, c, hl, h => by
    simp [keepD] at h
    subst h
    exact ⟨_, rfl, .inl ⟨⟨b, es, rfl⟩, rfl⟩⟩
  | .un :: cs, d :: ds, 0, c, hl, h => by
    simp [keepD] at h
    subst h
    exact ⟨_, rfl, .inr ⟨fun _ _ z => (by cases z), rfl⟩⟩
  | .fz x :: cs, d :: ds, 0, c, hl, h => by
    simp [keepD] at h
    subst h
    exact ⟨_, rfl, .inr ⟨fun _ _ z => (by cases z), rfl⟩⟩
  | .od x :: cs, d :: ds, 0, c, hl, h => by
    simp [keepD] at h
    subst h
    exact ⟨_, rfl, .inr ⟨fun _ _ z => (by cases z), rfl⟩⟩
  | .ow b es :: cs, d :: ds, i + 1, c, hl, h => by
    obtain ⟨c0, h1, h2⟩ := keepD_get (cs := cs) (ds := ds) (i := i) (c := c) (by simpa using hl) (by simpa [keepD] using h)
    exact ⟨c0, by simpa using h1, by simpa using h2⟩
  | .un :: cs, d :: ds, i + 1, c, hl, h => by
    obtain ⟨c0, h1, h2⟩ := keepD_get (cs := cs) (ds := ds) (i := i) (c := c) (by simpa using hl) (by simpa [keepD] using h)
    exact ⟨c0, by simpa using h1, by simpa using h2⟩
  | .fz x :: cs, d :: ds, i + 1, c, hl, h => by
    obtain ⟨c0, h1, h2⟩ := keepD_get (cs := cs) (ds := ds) (i := i) (c := c) (by simpa using hl) (by simpa [keepD] using h)
    exact ⟨c0, by simpa using h1, by simpa using h2⟩
  | .od x :: cs, d :: ds, i + 1, c, hl, h => by
    obtain ⟨c0, h1, h2⟩ := keepD_get (cs := cs) (ds := ds) (i := i) (c := c) (by simpa using hl) (by simpa [keepD] using h)
    exact ⟨c0, by simpa using h1, by simpa using h2⟩
theorem SR.ext (s : SR K ph am σ H δ) (m : Nat) : SR K ph am (σ ++ List.replicate m none) H (δ ++ List.replicate m .un) := by
  have lt : ∀ {i : Nat} {c : Cell}, (δ ++ List.replicate m .un)[i]? = some c → c ≠ .un → δ[i]? = some c ∧ i < δ.length := fun {i c} h hc => by
    by_cases hi : i < δ.length
    · rw [List.getElem?_append_left hi] at h
      exact ⟨h, hi⟩
    · rw [List.getElem?_append_right (by omega), List.getElem?_replicate] at h
      split at h
      · cases h; exact (hc rfl).elim
      · cases h
  have σl : ∀ {i : Nat}, i < δ.length → (σ ++ List.replicate m none)[i]? = σ[i]? := fun {i} hi => List.getElem?_append_left (by rw [s.len]; exact hi)
  refine ⟨by rw [List.length_append, List.length_append, List.length_replicate, List.length_replicate, s.len], fun i d q => ?_, fun i b ds q => ?_, fun i a q => ?_, s.inj, s.phs, s.bas, fun i o q => ?_⟩
  · obtain ⟨h1, h2⟩ := lt q (fun z => by cases z)
    rw [σl h2]
    exact s.fz i d h1
  · obtain ⟨h1, h2⟩ := lt q (fun z => by cases z)
    rw [σl h2]
    exact s.ow i b ds h1
  · obtain ⟨h1, c, h2, h3⟩ := s.amf i a q
    exact ⟨h1, c, by rw [List.getElem?_append_left (List.getElem?_eq_some_iff.mp h2).1]; exact h2, h3⟩
  · obtain ⟨h1, h2⟩ := lt q (fun z => by cases z)
    rw [σl h2]
    exact s.od i o h1
theorem hid_ba (s : ∀ (i : Nat) (a : Addr), ph.ba i = some a → am i = some a) : Same (hid ph am H) (hid ph ph.ba H) := fun b o h => by
  obtain ⟨h1, h2⟩ := hid_some.mp h
  exact hid_some.mpr ⟨fun z => h1 (z.elim .inl fun ⟨i, e⟩ => .inr ⟨i, s i b e⟩), h2⟩
theorem SR.leave {cells : Sg} {σ0 : L2.St} {H0 : Hp} (s0 : SR K ph ph.ba σ0 H0 cells) (st : Step ph.ba H0 am H) (s : SR K ph am σ H δ) (hl : cells.length ≤ δ.length) : Step ph.ba H0 ph.ba H ∧ SR K ph ph.ba σ0 H (keepD cells δ) := by
  have st' : Step ph.ba H0 ph.ba H := ⟨st.keep, fun i a q => .inl ⟨i, q⟩, st.there⟩
  refine ⟨st', by rw [keepD_length, s0.len], fun i d q => ?_, fun i b ds q => ?_, fun i a q => ?_, s0.inj, fun b hb => ?_, fun i a q => q, fun i o q => ?_⟩
  · obtain ⟨c0, h1, h2⟩ := keepD_get hl q
    rcases h2 with ⟨⟨b, es, e⟩, h3⟩ | ⟨h2, h3⟩
    · subst e
      obtain ⟨a, vs, o1, _⟩ := s0.ow i b es h1
      obtain ⟨_, c', h4, h5⟩ := s.amf i a (s.bas i a o1)
      rw [h3] at h4
      cases h4
      exact h5.elim
    · subst h3
      obtain ⟨v, g1, g2⟩ := s0.fz i d h1
      exact ⟨v, g1, dp_mono st'.hid g2⟩
  · obtain ⟨c0, h1, h2⟩ := keepD_get hl q
    rcases h2 with ⟨⟨b0, es, e⟩, h3⟩ | ⟨h2, h3⟩
    · subst e
      obtain ⟨a, vs, o1, o2, _, _⟩ := s0.ow i b0 es h1
      obtain ⟨a', vs', r1, r2, r3, r4, r5, r6⟩ := s.ow i b ds h3
      rw [s.bas i a o1] at r1
      cases r1
      exact ⟨a, vs', o1, o2, r3, dps_mono (hid_ba s.bas) r4, r5, r6⟩
    · exact (h2 b ds h3.symm).elim
  · obtain ⟨h1, c1, h2, hc1⟩ := s0.amf i a q
    obtain ⟨_, c2, h4, hc2⟩ := s.amf i a (s.bas i a q)
    have hi : i < (keepD cells δ).length := by
      rw [keepD_length]
      exact (List.getElem?_eq_some_iff.mp h2).1
    obtain ⟨c0, g1, g2⟩ := keepD_get hl (List.getElem?_eq_getElem hi)
    rw [h2] at g1
    cases g1
    rcases g2 with ⟨_, g3⟩ | ⟨g2, g3⟩
    · rw [h4] at g3
      exact ⟨h1, c2, by rw [List.getElem?_eq_getElem hi, ← g3], hc2⟩
    · exact ⟨h1, c1, by rw [List.getElem?_eq_getElem hi, g3], hc1⟩
  · exact s.phs b hb
  · obtain ⟨c0, h1, h2⟩ := keepD_get hl q
    rcases h2 with ⟨⟨b0, es, e⟩, h3⟩ | ⟨h2, h3⟩
    · subst e
      obtain ⟨a, vs, o1, o2, _, _⟩ := s0.ow i b0 es h1
      obtain ⟨a', u, r1, r2, r3, r4, r5⟩ := s.od i o h3
      rw [s.bas i a o1] at r1
      cases r1
      rw [o1] at r5
      cases r5
    · subst h3
      obtain ⟨a, u, o1, _, _, _, o5⟩ := s0.od i o h1
      rw [o1] at o5
      cases o5
section
variable {P : Program} {w : World} {mg : Str → Option Value} {base : Heap} {x qual : Str} {st : Stmt} {fa : Addr} {fd : FuncData} {N ps : List Str} {k : Nat} {gs : MS}
abbrev CxD (P : Program) (w : World) (K : PySem.W.Frag) (mg : Str → Option Value) (base : Heap) (N : List Str) (qual : Str) (st : Stmt) (fa : Addr) (cdv : Value) (A : Around) (outer : List PySem.Env) (s : Shared) (H : Hp) (E : XK) : Cx :=
  cxOf (L2.CX P w) P w K mg base N qual (defScope st) fa cdv A outer s H E
theorem keep_step {m : Nat} (hl : vs.length = m) (hN : m ≤ N.length) : L2.start N vs = vs.map some ++ List.replicate (N.length - m) none := by
  unfold L2.start
  rw [hl]
/-- a def, by its body -/
theorem fn_d (F : Fun K x qual st fa fd) (S : FnScope N ps (defScope st)) (hn : ps.length ≤ N.length)
    (body : ∀ (cdv : Value) (A : Around) (outer : List PySem.Env) (s : Shared) (H : Hp) (E : XK), Room k (A.deeper (envOfC qual (defScope st) s.heap.objs.size fa cdv)) → DSs (CxD P w K mg base N qual st fa cdv A outer s H E) (fun cls d _ H => E cls d H) (defBody st) gs) :
    FnOk P w K mg base (L2.CX P w) (k + 1) fa fd ps (spD K mg ps.length (runD N.length gs)) := by
  refine F.okX S (fun vs H Q E h => h.1) (fun cdv A outer s H vs Q E hr h => ?_)
  obtain ⟨hl, ph, cells, ans, cells', s0, q, k1, kx⟩ := h
  obtain ⟨t, pt, qt⟩ := (body cdv A outer s H E hr).ex
  refine ⟨t, pt, ?_⟩
  have hc : cells.length = ps.length := by
    have := s0.len
    rw [List.length_map, hl] at this
    exact this.symm
  have s1 : SR K ph ph.ba (L2.start N vs) H (cells ++ List.replicate (N.length - cells.length) .un) := by
    rw [keep_step hl hn, hc]
    exact s0.ext _
  unfold runD at q
  split at q
  · rename_i d δ e1
    obtain ⟨hle, q⟩ := keepO_map q
    cases q
    refine qt ph ph.ba _ H _ _ _ _ s1 e1 (fun fl z => ?_) (fun c fs z => by cases z)
    cases z
    intro am' σ' v H' st1 s2 dv
    obtain ⟨st2, s3⟩ := SR.leave s0 st1 s2 hle
    exact k1 _ rfl v H' st2 s3 (dp_mono (hid_ba s2.bas) dv)
  · rename_i ds δ e1
    obtain ⟨hle, q⟩ := keepO_map q
    cases q
    refine qt ph ph.ba _ H _ _ _ _ s1 e1 (fun fl z => ?_) (fun c fs z => by cases z)
    cases z
    intro am' σ' p us H' n0 n1 st1 s2 dv hz
    have sm : Same H' (upd H' p (.lst us)) := same_new n1
    obtain ⟨st2, s3⟩ := SR.leave s0 (st1.trans (Step.of sm)) (s2.same sm) hle
    exact k1 _ rfl _ _ st2 s3 (dp_mono (hid_ba s2.bas) (new_lst (fun b h => s2.hidden h) n1 dv))
  · rename_i δ e1
    obtain ⟨hle, q⟩ := keepO_map q
    cases q
    refine qt ph ph.ba _ H _ _ _ _ s1 e1 (fun fl z => ?_) (fun c fs z => by cases z)
    cases z
    intro am' σ' H' st1 s2
    obtain ⟨st2, s3⟩ := SR.leave s0 st1 s2 hle
    exact k1 _ rfl .non H' st2 s3 .non
  · rename_i c fs δ e1
    cases q
    exact qt ph ph.ba _ H _ _ _ _ s1 e1 (fun fl z => by cases z) (fun c fs z => by cases z; exact fun C dx am' σ' H' m st _ pl => kx _ _ rfl C dx am' H' m st pl)
  · cases q
theorem keepD_set {c : Cell} : ∀ {cs δ : Sg} {i : Nat}, (∀ b es, cs[i]? ≠ some (.ow b es)) → keepD cs (δ.set i c) = keepD cs δ
  | [], _, _, _ => rfl
  | _ :: _, [], _, _ => rfl
  | c0 :: cs, d :: ds, 0, h => by
    cases c0 with
    | ow b es => exact absurd rfl (h b es)
    | _ => rfl
  | c0 :: cs, d :: ds, i + 1, h => by
    have ih := keepD_set (cs := cs) (δ := ds) (i := i) (c := c) (fun b es z => h b es (by simpa using z))
    cases c0 <;> simp [keepD, ih]
def amNo (am : Am) (i : Nat) : Am := fun j => if j = i then none else am j
theorem SR.give (s : SR K ph am σ H δ) (hi : am i = some p) (hb : ph.ba i = none) : SR K ph (amNo am i) σ (del p H) (δ.set i .un) ∧ Same (hid ph am H) (hid ph (amNo am i) (del p H)) := by
  have hs : Same (hid ph am H) (hid ph (amNo am i) (del p H)) := fun b o h => by
    obtain ⟨h1, h2⟩ := hid_some.mp h
    have hne : b ≠ p := fun z => h1 (.inr ⟨i, by rw [z]; exact hi⟩)
    refine hid_some.mpr ⟨fun z => h1 ?_, by rw [del_ne hne]; exact h2⟩
    rcases z with z | ⟨j, z⟩
    · exact .inl z
    · unfold amNo at z
      split at z
      · cases z
      · exact .inr ⟨j, z⟩
  have hj : ∀ {j : Nat} {c : Cell}, (δ.set i .un)[j]? = some c → c ≠ .un → j ≠ i ∧ δ[j]? = some c := fun {j c} q hc => by
    rw [List.getElem?_set] at q
    split at q
    · split at q
      · cases q; exact (hc rfl).elim
      · cases q
    · rename_i hne
      exact ⟨fun z => hne z.symm, q⟩
  have hnp : ∀ {j : Nat} {a : Addr}, j ≠ i → am j = some a → a ≠ p := fun {j a} hne q z => hne (s.inj j i p (by rw [← z]; exact q) hi)
  refine ⟨⟨by rw [List.length_set]; exact s.len, fun j d q => ?_, fun j b ds q => ?_, fun j a q => ?_, fun j k a q1 q2 => ?_, fun b q => ?_, fun j a q => ?_, fun j o q => ?_⟩, hs⟩
  · obtain ⟨hne, q⟩ := hj q (fun z => by cases z)
    obtain ⟨v, e1, e2⟩ := s.fz j d q
    exact ⟨v, e1, dp_mono hs e2⟩
  · obtain ⟨hne, q⟩ := hj q (fun z => by cases z)
    obtain ⟨a, vs, e1, e2, e3, e4, e5⟩ := s.ow j b ds q
    exact ⟨a, vs, by unfold amNo; rw [if_neg hne]; exact e1, e2, by rw [del_ne (hnp hne e1)]; exact e3, dps_mono hs e4, e5⟩
  · unfold amNo at q
    split at q
    · cases q
    · rename_i hne
      obtain ⟨h1, c, h2, h3⟩ := s.amf j a q
      exact ⟨h1, c, by rw [List.getElem?_set_ne (fun z => hne z.symm)]; exact h2, h3⟩
  · unfold amNo at q1 q2
    split at q1
    · cases q1
    · split at q2
      · cases q2
      · exact s.inj j k a q1 q2
  · obtain ⟨o, e, m⟩ := s.phs b q
    have hne : b ≠ p := fun z => (s.amf i p hi).1 (by rw [← z]; exact q)
    exact ⟨o, by rw [del_ne hne]; exact e, m⟩
  · have hne : j ≠ i := fun z => by rw [z, hb] at q; cases q
    unfold amNo
    rw [if_neg hne]
    exact s.bas j a q
  · obtain ⟨hne, q⟩ := hj q (fun z => by cases z)
    obtain ⟨a, u, e1, e2, e3, e4, e5⟩ := s.od j o q
    exact ⟨a, u, by unfold amNo; rw [if_neg hne]; exact e1, e2, by rw [del_ne (hnp hne e1)]; exact e3, dor_mono hs e4, e5⟩
/-- a def that hands back a new list -/
theorem fn_f (F : Fun K x qual st fa fd) (S : FnScope N ps (defScope st)) (hn : ps.length ≤ N.length)
    (body : ∀ (cdv : Value) (A : Around) (outer : List PySem.Env) (s : Shared) (H : Hp) (E : XK), Room k (A.deeper (envOfC qual (defScope st) s.heap.objs.size fa cdv)) → DSs (CxD P w K mg base N qual st fa cdv A outer s H E) (fun cls d _ H => E cls d H) (defBody st) gs) :
    FnOk P w K mg base (L2.CX P w) (k + 1) fa fd ps (spF K mg ps.length (runF N.length gs)) := by
  refine F.okX S (fun vs H Q E h => h.1) (fun cdv A outer s H vs Q E hr h => ?_)
  obtain ⟨hl, ph, cells, ans, cells', s0, q, k1, kx⟩ := h
  obtain ⟨t, pt, qt⟩ := (body cdv A outer s H E hr).ex
  refine ⟨t, pt, ?_⟩
  have hc : cells.length = ps.length := by
    have := s0.len
    rw [List.length_map, hl] at this
    exact this.symm
  have s1 : SR K ph ph.ba (L2.start N vs) H (cells ++ List.replicate (N.length - cells.length) .un) := by
    rw [keep_step hl hn, hc]
    exact s0.ext _
  unfold runF at q
  split at q
  · rename_i ds δ e1
    obtain ⟨hle, q⟩ := keepO_map q
    cases q
    refine qt ph ph.ba _ H _ _ _ _ s1 e1 (fun fl z => ?_) (fun c fs z => by cases z)
    cases z
    intro am' σ' p us H' n0 n1 st1 s2 dv hz
    obtain ⟨st2, s3⟩ := SR.leave s0 st1 s2 hle
    exact k1 _ rfl p us H' n0 n1 st2 s3 (dps_mono (hid_ba s2.bas) dv) hz
  · rename_i ds δ e1
    obtain ⟨hle, q⟩ := keepO_map q
    cases q
    refine qt ph ph.ba _ H _ _ _ _ s1 e1 (fun fl z => ?_) (fun c fs z => by cases z)
    cases z
    intro am' σ' i p us H' st1 s2 ei ai hp dv hz
    obtain ⟨a0, vs0, o1, _, _, _, _, o6⟩ := s2.ow i false ds ei
    have hb := o6 rfl
    have n0 : H p = none := by
      rcases st1.new i p ai with ⟨j, q⟩ | q
      · have := s2.inj j i p (s2.bas j p q) ai
        rw [this, hb] at q
        cases q
      · exact q
    obtain ⟨s2', hsm⟩ := s2.give ai hb
    have st1' : Step ph.ba H (amNo am' i) (del p H') := ⟨fun b o e n => by
      have hne : b ≠ p := fun z => by rw [z, n0] at e; cases e
      rw [del_ne hne]
      exact st1.keep b o e n, fun j a q => by
      unfold amNo at q
      split at q
      · cases q
      · exact st1.new j a q, fun b o e => by
      have hne : b ≠ p := fun z => by rw [z, n0] at e; cases e
      rw [del_ne hne]
      exact st1.there b o e⟩
    have hnl : ∀ b es, cells[i]? ≠ some (.ow b es) := fun b es z => by
      obtain ⟨a, _, o1, _⟩ := s0.ow i b es z
      rw [hb] at o1
      cases o1
    obtain ⟨st2, s3⟩ := SR.leave s0 st1' s2' (by rw [List.length_set]; exact hle)
    rw [keepD_set hnl] at s3
    have := k1 _ rfl p us (del p H') n0 del_same st2 s3 (dps_mono (hid_ba s2'.bas) (dps_mono hsm dv)) hz
    rw [upd_del hp] at this
    exact this
  · rename_i c fs δ e1
    cases q
    exact qt ph ph.ba _ H _ _ _ _ s1 e1 (fun fl z => by cases z) (fun c fs z => by cases z; exact fun C dx am' σ' H' m st _ pl => kx _ _ rfl C dx am' H' m st pl)
  · cases q
end
/-! ### calls of defs -/
variable {k : Nat} {fa : Addr} {fd : FuncData} {ps : List Str} {x : Str} {pf : Pos} {n : Nat}
/-- the callee never touches what is hidden here -/
def Fx.under (ph : Fx) (am : Am) : Fx := ⟨Hid ph am, fun _ => none⟩
theorem hid_under : hid (ph.under am) (fun _ => none) H = hid ph am H := by
  funext b
  unfold hid
  have : Hid (ph.under am) (fun _ => none) b ↔ Hid ph am b := ⟨fun z => z.elim id fun ⟨_, e⟩ => (by cases e), fun z => .inl z⟩
  by_cases h : Hid ph am b
  · rw [if_pos h, if_pos (this.mpr h)]
  · rw [if_neg h, if_neg (fun z => h (this.mp z))]
theorem map_fz_get {j : Nat} {c : Cell} (h : (ds.map Cell.fz)[j]? = some c) : ∃ d, ds[j]? = some d ∧ c = .fz d := by
  rw [List.getElem?_map] at h
  cases e : ds[j]? with
  | none => rw [e] at h; cases h
  | some d => rw [e] at h; cases h; exact ⟨d, rfl, rfl⟩
theorem SR.under (s : SR K ph am σ H δ) (dv : DqAll K (hid ph am H) vs ds) : SR K (ph.under am) (ph.under am).ba (vs.map some) H (ds.map .fz) := by
  refine ⟨by rw [List.length_map, List.length_map, dv.length], fun j d q => ?_, fun j b es q => ?_, fun j a q => (by cases q), fun j k a q => (by cases q), fun b hb => s.hiddenM hb, fun j a q => (by cases q), fun j o q => ?_⟩
  · obtain ⟨d', h1, h2⟩ := map_fz_get q
    cases h2
    obtain ⟨v, g1, g2⟩ := dv.get h1
    exact ⟨v, by rw [List.getElem?_map, g1]; rfl, by rw [show (ph.under am).ba = fun _ => none from rfl, hid_under]; exact g2⟩
  · obtain ⟨d', h1, h2⟩ := map_fz_get q
    cases h2
  · obtain ⟨d', h1, h2⟩ := map_fz_get q
    cases h2
theorem XP.of_under {c : Str} {fs : List (Str × PyData)} (s : SR X.K ph am σ H δ') (k : XP X W ph am σ H δ' c fs) : XPd X.K X.mg (WE W σ) (ph.under am) (ph.under am).ba H c fs := by
  intro C dx am' H' e st q
  have sm : Same H H' := fun b o h => st.keep b o h fun i z => by cases z
  refine k C dx am H' e (Step.of sm) (s.same sm) ?_
  rcases q with q | ⟨a, vs, e1, e0, e2, e3, e4⟩
  · exact .inl q
  · refine .inr ⟨a, vs, e1, e0, e2, e3, dps_mono (fun b o h => ?_) e4⟩
    obtain ⟨h1, h2⟩ := hid_some.mp h
    exact hid_some.mpr ⟨fun z => h1 (.inl z), h2⟩
def xDef (G : Sg → Option (Ans PyData × Sg)) (fs : M (List PyData)) : M PyData := bnd fs fun ds => fun δ => match G (ds.map .fz) with
  | some (.ok d, _) => some (.ok d, δ)
  | some (.ex c es, _) => some (.ex c es, δ)
  | none => none
theorem def_read {t : TA} {G : Sg → Option (Ans PyData × Sg)} (q : ReadA X W t fs) (hn : ∀ ds δ δ', fs δ = some (.ok ds, δ') → ds.length = n) : ReadE X W (tCallS (spD X.K X.mg n G) (WE W) t) (xDef G fs) := by
  intro ph am σ H δ Q ans δ' s z k kx
  rcases bnd_some z with ⟨ds, δ1, e1, e2⟩ | ⟨c, fs, e1, e2⟩
  · refine q ph am σ H δ _ _ _ s e1 (fun d' ed am1 vs H1 st1 s1 dv => ?_) (fun c fs z => by cases z)
    cases ed
    refine ⟨by rw [dv.length]; exact hn ds δ δ1 e1, ph.under am1, ds.map .fz, ?_⟩
    have s2 := s1.under dv
    split at e2
    · rename_i d cells e3
      cases e2
      refine ⟨_, _, s2, e3, fun d ed v H' st' _ dv' => ?_, fun c fs z => by cases z⟩
      cases ed
      have sm : Same H1 H' := fun b o h => st'.keep b o h fun i z => by cases z
      rw [show (ph.under am1).ba = fun _ => none from rfl, hid_under] at dv'
      exact k _ rfl am1 v H' (st1.trans (Step.of sm)) (s1.same sm) dv'
    · rename_i c es cells e3
      cases e2
      refine ⟨_, _, s2, e3, fun d ed => (by cases ed), fun c fs z => ?_⟩
      cases z
      exact XP.of_under s1 ((kx _ _ rfl).step st1)
    · cases e2
  · subst e2
    exact q ph am σ H δ _ _ _ s e1 (fun d ed => by cases ed) (fun c' fs' z => by cases z; exact kx _ _ rfl)
theorem da_len : True := trivial
theorem de_call {G : Sg → Option (Ans PyData × Sg)} (F : FnOk X.prog X.w X.K X.mg X.base (L2.CX X.prog X.w) k fa fd ps (spD X.K X.mg n G)) (hr : Room k X.A) (hm : X.mg x = some (.ref fa)) (hk : PySem.W.keepIn X.K (.ref fa) = true) (hb : Binds X.K fd ps []) (hx : ∀ σ, PassesAt (L2.CX X.prog X.w) X σ (WE W σ))
    (ha : DA X W (e :: es) fs) (hn : ∀ ds δ δ', fs δ = some (.ok ds, δ') → ds.length = n) (hg : Gl X x := by rfl) (hdb : (x == ("__debug__" : Str)) = false := by decide) (he : starEach (e :: es) X.env = (false, eval e X.env) :: starEach es X.env := by rfl) (hpl : (backTo pos (starEach es X.env)).any (·.1) = false := by rfl) :
    DE X W (.Call (.Name x pf) (e :: es) [] pos) (xDef G fs) := by
  obtain ⟨t, p, q⟩ := ha.ex
  exact ⟨⟨_, pe_callS F hr hg hm hk hb hx p hdb he hpl, def_read q hn⟩⟩
/-- the first argument a list of one's own, lent -/
def xDefO (G : Sg → Option (Ans PyData × Sg)) (i : Nat) (fs : M (List PyData)) : M PyData := fun δ => match δ[i]? with
  | some (.ow _ _) => (bnd fs fun ds => fun δ1 => match δ1[i]? with
    | some (.ow b os) => match G (.ow true os :: ds.map .fz) with
      | some (.ok d, .ow _ os' :: _) => some (.ok d, δ1.set i (.ow b os'))
      | _ => none
    | _ => none) δ
  | _ => none
def Fx.lend (ph : Fx) (am : Am) (i : Nat) (a : Addr) : Fx := ⟨fun b => Hid ph am b ∧ b ≠ a, fun j => if j = 0 then some a else none⟩
theorem lend_ba {i j : Nat} {b : Addr} : (ph.lend am i a).ba j = some b ↔ j = 0 ∧ b = a := by
  unfold Fx.lend
  by_cases h : j = 0
  · simp [h]; exact eq_comm
  · simp [h]
theorem hid_lend {i : Nat} (h : am i = some a) : hid (ph.lend am i a) (ph.lend am i a).ba H = hid ph am H := by
  funext b
  unfold hid
  have : Hid (ph.lend am i a) (ph.lend am i a).ba b ↔ Hid ph am b := by
    constructor
    · rintro (⟨q, _⟩ | ⟨j, q⟩)
      · exact q
      · obtain ⟨_, rfl⟩ := lend_ba.mp q
        exact .inr ⟨i, h⟩
    · intro q
      by_cases hb : b = a
      · exact .inr ⟨0, lend_ba.mpr ⟨rfl, hb⟩⟩
      · exact .inl ⟨q, hb⟩
  by_cases h : Hid ph am b
  · rw [if_pos h, if_pos (this.mpr h)]
  · rw [if_neg h, if_neg (fun z => h (this.mp z))]
theorem SR.lend (s : SR K ph am σ H δ) {i : Nat} {b : Bool} {os : List PyData} {ov : List V} (h1 : am i = some a) (h2 : H a = some (.lst ov)) (h3 : DqAll K (hid ph am H) ov os) (h4 : ov.length ≤ sizeLine) (dv : DqAll K (hid ph am H) vs ds) :
    SR K (ph.lend am i a) (ph.lend am i a).ba ((.ref a :: vs).map some) H (.ow true os :: ds.map .fz) := by
  refine ⟨by simp [dv.length], fun j d q => ?_, fun j b es q => ?_, fun j c q => ?_, fun j l c q1 q2 => ?_, fun c hc => s.hiddenM hc.1, fun j c q => q, fun j o q => ?_⟩
  · cases j with
    | zero => simp at q
    | succ j =>
      obtain ⟨d', g1, g2⟩ := map_fz_get (j := j) (c := Cell.fz d) q
      cases g2
      obtain ⟨v, g3, g4⟩ := dv.get g1
      exact ⟨v, by simp [g3], by rw [hid_lend h1]; exact g4⟩
  · cases j with
    | zero =>
      simp at q
      obtain ⟨rfl, rfl⟩ := q
      exact ⟨a, ov, lend_ba.mpr ⟨rfl, rfl⟩, rfl, h2, by rw [hid_lend h1]; exact h3, h4, fun z => by cases z⟩
    | succ j =>
      obtain ⟨d', g1, g2⟩ := map_fz_get (j := j) (c := Cell.ow b es) q
      cases g2
  · obtain ⟨rfl, rfl⟩ := lend_ba.mp q
    exact ⟨fun z => z.2 rfl, .ow true os, rfl, trivial⟩
  · rw [(lend_ba.mp q1).1, (lend_ba.mp q2).1]
  · cases j with
    | zero => simp at q
    | succ j =>
      obtain ⟨d', g1, g2⟩ := map_fz_get (j := j) (c := Cell.od o) q
      cases g2
theorem defO_read {i : Nat} {t : TA} {G : Sg → Option (Ans PyData × Sg)} (q : ReadA X W t fs) (hn : ∀ ds δ δ', fs δ = some (.ok ds, δ') → ds.length + 1 = n) : ReadE X W (tCallS (spD X.K X.mg n G) (WE W) (tCons (tVar i) t)) (xDefO G i fs) := by
  intro ph am σ H δ Q ans δ' s z k kx
  unfold xDefO at z
  split at z
  · rename_i b0 ds0 e3
    obtain ⟨a0, vs0, o1, o2, o3, o4, _, _⟩ := s.ow i b0 ds0 e3
    refine ⟨.ref a0, o2, ?_⟩
    rcases bnd_some z with ⟨ds, δ1, e4, e5⟩ | ⟨c, fs, e4, e5⟩
    · refine q ph am σ H δ _ _ _ s e4 (fun d' ed am1 vs H1 st1 s1 dv => ?_) (fun c fs z => by cases z)
      cases ed
      split at e5
      · rename_i b os e6
        obtain ⟨a1, ov, r1, r2, r3, r4, r5, r6⟩ := s1.ow i b os e6
        rw [o2] at r2
        cases r2
        split at e5
        · rename_i d b' os' rest e7
          cases e5
          refine ⟨by simp [dv.length, hn ds δ δ1 e4], ph.lend am1 i a0, _, _, _, s1.lend (b := b) r1 r3 r4 r5 dv, e7, fun d ed v H' st' s' dv' => ?_, fun c fs z => by cases z⟩
          cases ed
          have st2 : Step am1 H1 am1 H' := ⟨fun b o h m => st'.keep b o h fun j z => by
            obtain ⟨_, rfl⟩ := lend_ba.mp z
            exact m i r1, fun j b h => .inl ⟨j, h⟩, st'.there⟩
          rw [hid_lend r1] at dv'
          obtain ⟨a2, ov2, t1, t2, t3, t4, t5, _⟩ := s'.ow 0 b' os' rfl
          obtain ⟨_, rfl⟩ := lend_ba.mp t1
          rw [hid_lend r1] at t4
          have hi : i < δ1.length := (List.getElem?_eq_some_iff.mp e6).1
          refine k _ rfl am1 v H' (st1.trans st2) ⟨by rw [List.length_set, s1.len], fun j d q => ?_, fun j bb es q => ?_, fun j c q => ?_, s1.inj, fun c hc => ?_, s1.bas, fun j o q => ?_⟩ dv'
          · have hj : j ≠ i := fun z => by
              subst z
              rw [List.getElem?_set_self hi] at q
              cases q
            rw [List.getElem?_set_ne (Ne.symm hj)] at q
            obtain ⟨v, g1, g2⟩ := s1.fz j d q
            exact ⟨v, g1, dp_mono st2.hid g2⟩
          · by_cases hj : j = i
            · subst hj
              rw [List.getElem?_set_self hi] at q
              cases q
              exact ⟨a2, ov2, r1, o2, t3, t4, t5, r6⟩
            · rw [List.getElem?_set_ne (Ne.symm hj)] at q
              obtain ⟨a3, vs3, g1, g2, g3, g4, g5⟩ := s1.ow j bb es q
              refine ⟨a3, vs3, g1, g2, st'.keep _ _ g3 fun l z => ?_, dps_mono st2.hid g4, g5⟩
              obtain ⟨_, rfl⟩ := lend_ba.mp z
              exact hj (s1.inj j i _ g1 r1)
          · obtain ⟨g1, c2, g2, g3⟩ := s1.amf j c q
            by_cases hj : j = i
            · exact ⟨g1, .ow b os', by rw [hj]; exact List.getElem?_set_self hi, trivial⟩
            · exact ⟨g1, c2, by rw [List.getElem?_set_ne (Ne.symm hj)]; exact g2, g3⟩
          · obtain ⟨o, h, m⟩ := s1.phs c hc
            refine ⟨o, st'.keep c o h fun l z => ?_, m⟩
            obtain ⟨_, rfl⟩ := lend_ba.mp z
            exact (s1.amf i _ r1).1 hc
          · by_cases hj : j = i
            · subst hj
              rw [List.getElem?_set_self hi] at q
              cases q
            · rw [List.getElem?_set_ne (Ne.symm hj)] at q
              obtain ⟨a3, u3, g1, g2, g3, g4, g5⟩ := s1.od j o q
              refine ⟨a3, u3, g1, g2, st'.keep _ _ g3 fun l z => ?_, dor_mono st2.hid g4, g5⟩
              obtain ⟨_, rfl⟩ := lend_ba.mp z
              exact hj (s1.inj j i _ g1 r1)
        · cases e5
      · cases e5
    · subst e5
      exact q ph am σ H δ _ _ _ s e4 (fun d ed => by cases ed) (fun c' fs' z => by cases z; exact kx _ _ rfl)
  · cases z
theorem de_callO {i : Nat} {y : Str} {pn : Pos} {G : Sg → Option (Ans PyData × Sg)} (F : FnOk X.prog X.w X.K X.mg X.base (L2.CX X.prog X.w) k fa fd ps (spD X.K X.mg n G)) (hr : Room k X.A) (hm : X.mg x = some (.ref fa)) (hk : PySem.W.keepIn X.K (.ref fa) = true) (hb : Binds X.K fd ps []) (hx : ∀ σ, PassesAt (L2.CX X.prog X.w) X σ (WE W σ))
    (ha : DA X W es fs) (hn : ∀ ds δ δ', fs δ = some (.ok ds, δ') → ds.length + 1 = n) (hN : X.N[i]? = some y := by rfl) (hv : Vis X.env.scope y := by first | exact Or.inl rfl | exact Or.inr (Or.inl rfl) | exact Or.inr (Or.inr rfl)) (hd : (y == ("__debug__" : Str)) = false := by decide) (hcd : (y == ("__classdict__" : Str)) = false := by decide)
    (hg : Gl X x := by rfl) (hdb : (x == ("__debug__" : Str)) = false := by decide) (he : starEach (.Name y pn :: es) X.env = (false, eval (.Name y pn) X.env) :: starEach es X.env := by rfl) (hpl : (backTo pos (starEach es X.env)).any (·.1) = false := by rfl) :
    DE X W (.Call (.Name x pf) (.Name y pn :: es) [] pos) (xDefO G i fs) := by
  obtain ⟨t, p, q⟩ := ha.ex
  exact ⟨⟨_, pe_callS F hr hg hm hk hb hx (pa_cons (pe_var hN hv hd hcd) p he) hdb he hpl, defO_read q hn⟩⟩

/-- the one argument a new list, lent -/
def xDefT (G : Sg → Option (Ans PyData × Sg)) (fs : M (List PyData)) : M PyData := bnd fs fun ds => fun δ => match G [.ow true ds] with
  | some (.ok d, _) => some (.ok d, δ)
  | _ => none
def Fx.temp (ph : Fx) (am : Am) (a : Addr) : Fx := ⟨Hid ph am, fun j => if j = 0 then some a else none⟩
theorem temp_ba {j : Nat} {b : Addr} : (ph.temp am a).ba j = some b ↔ j = 0 ∧ b = a := by
  unfold Fx.temp
  by_cases h : j = 0
  · simp [h]; exact eq_comm
  · simp [h]
theorem hid_temp : Same (hid (ph.temp am a) (ph.temp am a).ba H) (hid ph am H) := fun b o h => by
  obtain ⟨h1, h2⟩ := hid_some.mp h
  exact hid_some.mpr ⟨fun z => h1 (.inl z), h2⟩
theorem defT_read {t : TE} {G : Sg → Option (Ans PyData × Sg)} (q : ReadF X W t fs) : ReadE X W (tCallS (spD X.K X.mg 1 G) (WE W) (tCons t tNil)) (xDefT G fs) := by
  intro ph am σ H δ Q ans δ' s z k kx
  rcases bnd_some z with ⟨ds, δ1, e1, e2⟩ | ⟨c, fs, e1, e2⟩
  · refine q ph am σ H δ _ _ _ s e1 (fun d' ed am1 p vs H1 n0 n1 st1 s1 dv hz => ?_) (fun c fs z => by cases z)
    cases ed
    split at e2
    · rename_i d cells e3
      cases e2
      have sm : Same H1 (upd H1 p (.lst vs)) := same_new n1
      have hh : Same (hid ph am1 H1) (hid (ph.temp am1 p) (ph.temp am1 p).ba (upd H1 p (.lst vs))) := fun b o h => by
        obtain ⟨h1, h2⟩ := hid_some.mp h
        refine hid_some.mpr ⟨fun z => ?_, sm b o h2⟩
        rcases z with z | ⟨j, z⟩
        · exact h1 z
        · obtain ⟨_, rfl⟩ := temp_ba.mp z
          rw [n1] at h2
          cases h2
      have s2 : SR X.K (ph.temp am1 p) (ph.temp am1 p).ba ([V.ref p].map some) (upd H1 p (.lst vs)) [.ow true ds] := by
        refine ⟨rfl, fun j d q => ?_, fun j b es q => ?_, fun j c q => ?_, fun j l c q1 q2 => ?_, fun c hc => ?_, fun j c q => q, fun j o q => ?_⟩
        · cases j with
          | zero => simp at q
          | succ j => simp at q
        · cases j with
          | zero =>
            simp at q
            obtain ⟨rfl, rfl⟩ := q
            exact ⟨p, vs, temp_ba.mpr ⟨rfl, rfl⟩, rfl, upd_same, dps_mono hh dv, hz, fun z => by cases z⟩
          | succ j => simp at q
        · obtain ⟨rfl, rfl⟩ := temp_ba.mp q
          exact ⟨fun z => s1.new n1 z, .ow true ds, rfl, trivial⟩
        · rw [(temp_ba.mp q1).1, (temp_ba.mp q2).1]
        · obtain ⟨o, h, m⟩ := s1.hiddenM hc
          exact ⟨o, sm c o h, m⟩
        · cases j with
          | zero => simp at q
          | succ j => simp at q
      refine ⟨rfl, ph.temp am1 p, _, _, _, s2, e3, fun d ed v H' st' _ dv' => ?_, fun c fs z => by cases z⟩
      cases ed
      have sm2 : Same H1 H' := fun b o h => st'.keep b o (sm b o h) fun j z => by
        obtain ⟨_, rfl⟩ := temp_ba.mp z
        rw [n1] at h
        cases h
      exact k _ rfl am1 v H' (st1.trans (Step.of sm2)) (s1.same sm2) (dp_mono hid_temp dv')
    · cases e2
  · subst e2
    exact q ph am σ H δ _ _ _ s e1 (fun d ed => by cases ed) (fun c' fs' z => by cases z; exact kx _ _ rfl)
theorem de_callT {G : Sg → Option (Ans PyData × Sg)} (F : FnOk X.prog X.w X.K X.mg X.base (L2.CX X.prog X.w) k fa fd ps (spD X.K X.mg 1 G)) (hr : Room k X.A) (hm : X.mg x = some (.ref fa)) (hk : PySem.W.keepIn X.K (.ref fa) = true) (hb : Binds X.K fd ps []) (hx : ∀ σ, PassesAt (L2.CX X.prog X.w) X σ (WE W σ))
    (ha : DF X W e fs) (hg : Gl X x := by rfl) (hdb : (x == ("__debug__" : Str)) = false := by decide) (he : starEach [e] X.env = (false, eval e X.env) :: starEach [] X.env := by rfl) (hpl : (backTo pos (starEach [] X.env)).any (·.1) = false := by rfl) :
    DE X W (.Call (.Name x pf) [e] [] pos) (xDefT G fs) := by
  obtain ⟨t, p, q⟩ := ha.ex
  exact ⟨⟨_, pe_callS F hr hg hm hk hb hx (pa_cons p pa_nil he) hdb he hpl, defT_read q⟩⟩
/-- a def that hands back a new list -/
def xDefF (G : Sg → Option (Ans (List PyData) × Sg)) (fs : M (List PyData)) : M (List PyData) := bnd fs fun ds => fun δ => match G (ds.map .fz) with
  | some (.ok d, _) => some (.ok d, δ)
  | some (.ex c es, _) => some (.ex c es, δ)
  | none => none
theorem defF_read {t : TA} {G : Sg → Option (Ans (List PyData) × Sg)} (q : ReadA X W t fs) (hn : ∀ ds δ δ', fs δ = some (.ok ds, δ') → ds.length = n) : ReadF X W (tCallS (spF X.K X.mg n G) (WE W) t) (xDefF G fs) := by
  intro ph am σ H δ Q ans δ' s z k kx
  rcases bnd_some z with ⟨ds, δ1, e1, e2⟩ | ⟨c, fs, e1, e2⟩
  · refine q ph am σ H δ _ _ _ s e1 (fun d' ed am1 vs H1 st1 s1 dv => ?_) (fun c fs z => by cases z)
    cases ed
    refine ⟨by rw [dv.length]; exact hn ds δ δ1 e1, ph.under am1, ds.map .fz, ?_⟩
    have s2 := s1.under dv
    split at e2
    · rename_i d cells e3
      cases e2
      refine ⟨_, _, s2, e3, fun d ed p us H' n0 n1 st' _ dv' hz => ?_, fun c fs z => by cases z⟩
      cases ed
      have sm : Same H1 H' := fun b o h => st'.keep b o h fun i z => by cases z
      rw [show (ph.under am1).ba = fun _ => none from rfl, hid_under] at dv'
      exact k _ rfl am1 p us H' (st1.none n0) n1 (st1.trans (Step.of sm)) (s1.same sm) dv' hz
    · rename_i c es cells e3
      cases e2
      refine ⟨_, _, s2, e3, fun d ed => (by cases ed), fun c fs z => ?_⟩
      cases z
      exact XP.of_under s1 ((kx _ _ rfl).step st1)
    · cases e2
  · subst e2
    exact q ph am σ H δ _ _ _ s e1 (fun d ed => by cases ed) (fun c' fs' z => by cases z; exact kx _ _ rfl)
theorem df_call {G : Sg → Option (Ans (List PyData) × Sg)} (F : FnOk X.prog X.w X.K X.mg X.base (L2.CX X.prog X.w) k fa fd ps (spF X.K X.mg n G)) (hr : Room k X.A) (hm : X.mg x = some (.ref fa)) (hk : PySem.W.keepIn X.K (.ref fa) = true) (hb : Binds X.K fd ps []) (hx : ∀ σ, PassesAt (L2.CX X.prog X.w) X σ (WE W σ))
    (ha : DA X W (e :: es) fs) (hn : ∀ ds δ δ', fs δ = some (.ok ds, δ') → ds.length = n) (hg : Gl X x := by rfl) (hdb : (x == ("__debug__" : Str)) = false := by decide) (he : starEach (e :: es) X.env = (false, eval e X.env) :: starEach es X.env := by rfl) (hpl : (backTo pos (starEach es X.env)).any (·.1) = false := by rfl) :
    DF X W (.Call (.Name x pf) (e :: es) [] pos) (xDefF G fs) := by
  obtain ⟨t, p, q⟩ := ha.ex
  exact ⟨⟨_, pe_callS F hr hg hm hk hb hx p hdb he hpl, defF_read q hn⟩⟩
/-! how many arguments -/
theorem alen0 : ∀ (ds : List PyData) (δ δ' : Sg), (ret [] : M (List PyData)) δ = some (.ok ds, δ') → ds.length = 0 := fun ds δ δ' h => by cases h; rfl
theorem alenS {n : Nat} (h : ∀ ds δ δ', fs δ = some (.ok ds, δ') → ds.length = n) : ∀ (ds : List PyData) (δ δ' : Sg), (bnd f fun d => bnd fs fun ds => ret (d :: ds)) δ = some (.ok ds, δ') → ds.length = n + 1 := fun ds δ δ' z => by
  rcases bnd_some z with ⟨d, δ1, e1, e2⟩ | ⟨c, fs, e1, e2⟩
  · rcases bnd_some e2 with ⟨d, δ2, e3, e4⟩ | ⟨c, fs, e3, e4⟩
    · cases e4
      rw [List.length_cons, h _ _ _ e3]
    · cases e4
  · cases e2
theorem alenO {n : Nat} (h : ∀ ds δ δ', fs δ = some (.ok ds, δ') → ds.length = n) : ∀ (ds : List PyData) (δ δ' : Sg), fs δ = some (.ok ds, δ') → ds.length + 1 = n + 1 := fun ds δ δ' z => by rw [h ds δ δ' z]
end PD
end

section
set_option Elab.async false
set_option linter.all false
set_option maxRecDepth 100000
set_option maxHeartbeats 1000000
namespace PD
open PySem PySem.Spec PyProof.Rows L2
variable {X : Cx} {W : WX} {pos : Pos} {e e1 e2 e3 : Expr} {es : List Expr} {f g h : M PyData} {fs : M (List PyData)} {fb gb : M Bool}
variable {K : PySem.W.Frag} {ph : Fx} {am am' am1 : Am} {H H' H1 : Hp} {σ σ' : L2.St} {δ δ' δ1 : Sg} {a p p1 p2 D : Addr} {v : V} {vs : List V} {d : PyData} {ds : List PyData} {i : Nat}

/-! displays times an int; x or y of new lists; parts of a list -/
def xRepF (fs : M (List PyData)) (g : M PyData) : M (List PyData) := bnd fs fun ds => bnd g fun b => lif (match b with
  | .int k => if -(2 ^ 63) ≤ k ∧ k < 2 ^ 63 ∧ ds.length * k.toNat ≤ sizeLine then some (List.replicate k.toNat ds).flatten else none
  | _ => none)
theorem df_rep (ha : DF X W e1 fs) (hb : DE X W e2 g) : DF X W (.BinOp e1 .Mult e2 pos) (xRepF fs g) := by
  obtain ⟨ta, pa, qa⟩ := ha.ex
  obtain ⟨tb, pb, qb⟩ := hb.ex
  refine ⟨⟨_, pe_op op_rep pa pb, fun ph am σ H δ Q ans δ' s q k kx => ?_⟩⟩
  rcases bnd_some q with ⟨a, δ1, e1, q1⟩ | ⟨c, fs, e1, q1⟩
  · refine qa ph am σ H δ _ _ _ s e1 (fun d ed am1 p vs H1 n0 n1 st1 s1 d1 hz => ?_) (fun c fs z => by cases z)
    cases ed
    have sm : Same H1 (upd H1 p (.lst vs)) := same_new n1
    have s2 := s1.same sm
    have stA : Step am H am1 (upd H1 p (.lst vs)) := st1.trans (Step.of sm)
    rcases bnd_some q1 with ⟨b, δ2, e2, q2⟩ | ⟨c, fs, e2, q2⟩
    · refine qb ph am1 σ _ δ1 _ _ _ s2 e2 (fun d ed am2 y H2 st2 s3 d2 => ?_) (fun c fs z => by cases z)
      cases ed
      obtain ⟨z, e3, rfl, rfl⟩ := lif_some q2
      cases d2 with
      | int n =>
        obtain ⟨⟨h1, h2, h3⟩, rfl⟩ := if_some e3
        have hp : H2 p = some (.lst vs) := st2.keep p _ upd_same fun i z => s1.new n1 (.inr ⟨i, z⟩)
        refine ⟨p, n, vs, rfl, rfl, hp, h1, h2, Nat.le_trans (Nat.le_of_eq (by rw [d1.length])) h3, fun p2 np => ?_⟩
        have d3 : DqAll X.K (hid ph am2 H2) vs a := dps_mono st2.hid (dps_mono (hid_same sm) d1)
        have hL : (List.replicate n.toNat vs).flatten.length = a.length * n.toNat := by
          rw [PyProof.Rows.lm_len_rep_flat, d1.length]
          exact Nat.mul_comm _ _
        exact k _ rfl am2 p2 _ H2 ((stA.trans st2).none np) np (stA.trans st2) s3 (d3.flat _) (Nat.le_trans (Nat.le_of_eq hL) h3)
      | _ => cases e3
    · subst q2
      exact qb ph am1 σ _ δ1 _ _ _ s2 e2 (fun d ed => by cases ed) (fun c' fs' z => by cases z; exact (kx _ _ rfl).step stA)
  · subst q1
    exact qa ph am σ H δ _ _ _ s e1 (fun d ed => by cases ed) (fun c' fs' z => by cases z; exact kx _ _ rfl)
end PD
end

section
set_option Elab.async false
set_option linter.all false
set_option maxRecDepth 100000
set_option maxHeartbeats 1000000
namespace PD
open PySem PySem.Spec PyProof.Rows L2
variable {X : Cx} {W : WX} {pos : Pos} {e e1 e2 e3 : Expr} {es : List Expr} {f g h : M PyData} {fs : M (List PyData)} {fb gb : M Bool}
variable {K : PySem.W.Frag} {ph : Fx} {am am' am1 : Am} {H H' H1 : Hp} {σ σ' : L2.St} {δ δ' δ1 : Sg} {a p p1 p2 D : Addr} {v : V} {vs : List V} {d : PyData} {ds : List PyData} {i : Nat}

def xOrF (fs gs : M (List PyData)) : M (List PyData) := bnd fs fun ds => if ds.isEmpty = true then gs else ret ds
theorem df_one {op} {fs : M (List PyData)} (ha : DF X W e fs) : DF X W (.BoolOp op [e] pos) fs := by
  obtain ⟨ta, pa, qa⟩ := ha.ex
  exact ⟨⟨_, pe_one pa, qa⟩⟩
theorem df_or {gs : M (List PyData)} (ha : DF X W e1 fs) (hb : DF X W (.BoolOp .Or (e2 :: es) pos) gs) : DF X W (.BoolOp .Or (e1 :: e2 :: es) pos) (xOrF fs gs) := by
  obtain ⟨ta, pa, qa⟩ := ha.ex
  obtain ⟨tb, pb, qb⟩ := hb.ex
  refine ⟨⟨_, pe_orT pa pb, fun ph am σ H δ Q ans δ' s q k kx => ?_⟩⟩
  rcases bnd_some q with ⟨a, δ1, e1, q1⟩ | ⟨c, fs, e1, q1⟩
  · refine qa ph am σ H δ _ _ _ s e1 (fun d ed am1 p vs H1 n0 n1 st1 s1 d1 hz => ?_) (fun c fs z => by cases z)
    cases ed
    have sm : Same H1 (upd H1 p (.lst vs)) := same_new n1
    have hev : vs.isEmpty = a.isEmpty := by cases d1 <;> rfl
    refine ⟨!vs.isEmpty, .inl ⟨vs, .inl (.inl upd_same), rfl⟩, ?_⟩
    rw [hev]
    cases ha : a.isEmpty with
    | true =>
      rw [ha, if_pos rfl] at q1
      exact iteF (qb ph am1 σ _ δ1 _ _ _ (s1.same sm) q1 (fun ds ed am2 p2 vs2 H2 m0 m1 st2 s2 d2 hz2 => k ds ed am2 p2 vs2 H2 ((st1.trans (Step.of sm)).none m0) m1 ((st1.trans (Step.of sm)).trans st2) s2 d2 hz2) fun c fs z => (kx c fs z).step (st1.trans (Step.of sm)))
    | false =>
      rw [ha, if_neg Bool.false_ne_true] at q1
      cases q1
      exact iteT (k _ rfl am1 p vs H1 n0 n1 st1 s1 d1 hz)
  · subst q1
    exact qa ph am σ H δ _ _ _ s e1 (fun d ed => by cases ed) (fun c' fs' z => by cases z; exact kx _ _ rfl)
end PD
end

section
set_option Elab.async false
set_option linter.all false
set_option maxRecDepth 100000
set_option maxHeartbeats 1000000
namespace PD
open PySem PySem.Spec PyProof.Rows L2
variable {X : Cx} {W : WX} {pos : Pos} {e e1 e2 e3 : Expr} {es : List Expr} {f g h : M PyData} {fs : M (List PyData)} {fb gb : M Bool}
variable {K : PySem.W.Frag} {ph : Fx} {am am' am1 : Am} {H H' H1 : Hp} {σ σ' : L2.St} {δ δ' δ1 : Sg} {a p p1 p2 D : Addr} {v : V} {vs : List V} {d : PyData} {ds : List PyData} {i : Nat}
variable {k : Nat} {fa : Addr} {fd : FuncData} {ps : List Str} {x : Str} {pf : Pos} {n : Nat}
/-! ### raise X() -/
theorem pmk_own0 {C : Addr} {bmB : List Value} {B newId initId : String} {x : Str} {p : Pos} (F : ExcBaseFacts B newId initId bmB) (q : PySem.W.excIn X.K C bmB newId = true) (gC : X.mg x = some (.ref C))
    (kC : PySem.W.keepIn X.K (.ref C) = true) (r : Raises X (.ref C)) (hg : Gl X x) (hdb : (x == ("__debug__" : Str)) = false := by decide) : PMk X (.Call (.Name x p) [] [] pos) (fun _ H Q => Q (.ref C) none H) := by
  intro pins s σ H Q I h
  refine wpAny_Call_Name_kw (ld_glob I hg gC ?_ hdb)
  refine PySem.W.callWith_K0 (first := []) I.kIn kC ?_
  show wpAny _ _ (call (.ref C) []) _ _ _
  obtain ⟨bm, N, nm, qn, bs, hdct, sn, sub, ab, col, dd, k0, k1, k2, k3, k5, mN, hC, hN, hni, T⟩ := exc_obj I.kIn q
  refine wpAny_call_exc_subT F T hC hN hni (fun h' e hm => ?_) (Nat.zero_le _)
  exact mk_of I hm r h (I.hok.gone hm.new)
/-- facts of an own exception class without an __init__ -/
structure ExcT (K : PySem.W.Frag) (mg : Str → Option Value) (x : Str) (C : Addr) (B newId initId : String) (bmB : List Value) : Prop where
  F : ExcBaseFacts B newId initId bmB
  q : PySem.W.excIn K C bmB newId = true
  g : mg x = some (.ref C)
  k : PySem.W.keepIn K (.ref C) = true
  b : PySem.W.subIn K (.ref C) (.type "BaseException") = some true
  t : PySem.W.typeIn K (.ref C) = some (.type "type")
def sRaise (c : Str) : MS := fun δ => some (.ex c [], δ)
theorem ds_raise0 {C : Addr} {bmB : List Value} {B newId initId : String} {x : Str} {p : Pos} {rp : Pos} (T : ExcT X.K X.mg x C B newId initId bmB) (hc : X.calm = true) (tk : Takes X W) (hg : Gl X x := by rfl) (hdb : (x == ("__debug__" : Str)) = false := by decide) :
    DS X W (.Raise (some (.Call (.Name x p) [] [] pos)) none rp) (sRaise x) :=
  ⟨⟨_, ps_raise hc tk (pmk_own0 T.F T.q T.g T.k (raises_own T.b T.t) hg hdb), fun ph am σ H δ D ans δ' s q _ kx => by
    cases q
    exact kx _ _ rfl C none am σ H T.g Step.refl s (.inl ⟨rfl, rfl⟩)⟩⟩
/-! ### keywords alone -/
structure DK (X : Cx) (W : WX) (kws : List Keyword) (f : M (List PyData)) : Prop where
  ex : ∃ t, PK X kws t ∧ ReadA X W t f
theorem dk_nil : DK X W [] (ret []) := ⟨⟨tNil, pk_nil, fun ph am σ H δ Q ans δ' s q k _ => by cases q; exact k _ rfl am [] H Step.refl s .nil⟩⟩
theorem dk_cons {kws : List Keyword} {nm : Option Str} {kpos : Pos} (h : DE X W e f) (t : DK X W kws fs) : DK X W (⟨nm, e, kpos⟩ :: kws) (bnd f fun d => bnd fs fun ds => ret (d :: ds)) := by
  obtain ⟨ta, pa, qa⟩ := h.ex
  obtain ⟨tb, pb, qb⟩ := t.ex
  refine ⟨⟨_, pk_cons pa pb, fun ph am σ H δ Q ans δ' s q k kx => ?_⟩⟩
  rcases bnd_some q with ⟨a, δ1, e1, q1⟩ | ⟨c, fs, e1, q1⟩
  · refine qa ph am σ H δ _ _ _ s e1 (fun d ed am1 x H1 st1 s1 d1 => ?_) (fun c fs z => by cases z)
    cases ed
    rcases bnd_some q1 with ⟨b, δ2, e2, q2⟩ | ⟨c, fs, e2, q2⟩
    · cases q2
      refine qb ph am1 σ H1 δ1 _ _ _ s1 e2 (fun d ed am2 y H2 st2 s2 d2 => ?_) (fun c fs z => by cases z)
      cases ed
      exact k _ rfl am2 _ H2 (st1.trans st2) s2 (.cons (dp_mono st2.hid d1) d2)
    · subst q2
      exact qb ph am1 σ H1 δ1 _ _ _ s1 e2 (fun d ed => by cases ed) (fun c' fs' z => by cases z; exact (kx _ _ rfl).step st1)
  · subst q1
    exact qa ph am σ H δ _ _ _ s e1 (fun d ed => by cases ed) (fun c' fs' z => by cases z; exact kx _ _ rfl)
def pick {α : Type} (perm : List Nat) (xs : List α) : List α := if xs.length = perm.length then perm.filterMap (xs[·]?) else []
theorem vals_fm {zs : List V} {ws : List Value} (r : Vals zs ws) : ∀ perm : List Nat, Vals (perm.filterMap (zs[·]?)) (perm.filterMap (ws[·]?))
  | [] => .nil
  | j :: t => by
    cases e : zs[j]? with
    | none =>
      have e' := r.none_of e
      rw [List.filterMap_cons, List.filterMap_cons, e, e']
      exact vals_fm r t
    | some x =>
      obtain ⟨u, e', r'⟩ := r.get e
      rw [List.filterMap_cons, List.filterMap_cons, e, e']
      exact .cons r' (vals_fm r t)
theorem dqs_fm {zs : List V} {ds : List PyData} (r : DqAll K H zs ds) : ∀ perm : List Nat, DqAll K H (perm.filterMap (zs[·]?)) (perm.filterMap (ds[·]?))
  | [] => .nil
  | j :: t => by
    cases e : ds[j]? with
    | none =>
      have e' : zs[j]? = none := List.getElem?_eq_none (by rw [r.length]; exact List.getElem?_eq_none_iff.mp e)
      rw [List.filterMap_cons, List.filterMap_cons, e, e']
      exact dqs_fm r t
    | some x =>
      obtain ⟨u, e', r'⟩ := r.get e
      rw [List.filterMap_cons, List.filterMap_cons, e, e']
      exact .cons r' (dqs_fm r t)
theorem vals_pick {perm : List Nat} {zs : List V} {ws : List Value} (r : Vals zs ws) : Vals (pick perm zs) (pick perm ws) := by
  unfold pick
  rw [r.length]
  split
  · exact vals_fm r perm
  · exact .nil
theorem dqs_pick {perm : List Nat} {zs : List V} {ds : List PyData} (r : DqAll K H zs ds) : DqAll K H (pick perm zs) (pick perm ds) := by
  unfold pick
  rw [r.length]
  split
  · exact dqs_fm r perm
  · exact .nil
theorem pe_callK0 {CX : CXT} {sp : Sp} {E : L2.St → XK} {p : Pos} {kws : List Keyword} {tk : TA} {ks : List Str} {perm : List Nat} (F : FnOk X.prog X.w X.K X.mg X.base CX k fa fd ps sp) (hr : Room k X.A) (hg : Gl X x) (hm : X.mg x = some (.ref fa)) (hk : PySem.W.keepIn X.K (.ref fa) = true)
    (hb : ∀ ws : List Value, ws.length = perm.length → bindArgs fd ⟨[], ks.zip ws⟩ = pure (ps.zip (pick perm ws))) (hx : ∀ σ, PassesAt CX X σ (E σ))
    (hkw : PK X kws tk) (hall : (backToKw pos (keywordEach kws X.env)).all (·.1.isSome) = true := by rfl) (hks : (backToKw pos (keywordEach kws X.env)).filterMap (·.1) = ks := by rfl)
    (hdb : (x == ("__debug__" : Str)) = false := by decide) (hpl : ((backTo pos (starEach [] X.env)).any (·.1) || (backToKw pos (keywordEach kws X.env)).any (·.1.isNone)) = false := by rfl) :
    PE X (.Call (.Name x p) [] kws pos) (fun σ H Q => tk σ H fun zs H2 => zs.length = perm.length ∧ sp (pick perm zs) H2 Q (E σ)) := by
  refine ⟨fun pins s σ H Q I h => ?_⟩
  refine wpAny_Call_Name_kw (ld_glob I hg hm ?_ hdb)
  refine PySem.W.callWith_KW0 (first := []) (h₀ := X.base) I.ok.mod.kin hk hall ?_ hpl
  refine thn (hkw.run pos pins s σ H _ I h) fun ws s2 ⟨zs, H2, I2, rz, hz, q2⟩ => ⟨I2.kIn, ?_⟩
  rw [hks]
  show wpAny _ _ (call (.ref fa) [] (ks.zip ws)) _ _ _
  have r2 : Vals (pick perm zs) (pick perm ws) := vals_pick rz
  refine wpAny_call (codeAny_mono (F.run X.A X.stack s2 H2 ⟨[], ks.zip ws⟩ (pick perm ws) (pick perm zs) Q (E σ) hr I2.env0 (.of_eq (hb ws (by rw [← rz.length]; exact hz))) r2 q2) fun r s' hq => ?_)
  cases r with
  | error e => exact hx σ pins H2 s2 e s' I2 hq
  | ok fl =>
    cases fl with
    | ret u => exact I2.after hq
    | next => exact False.elim hq
    | brk => exact False.elim hq
    | cont => exact False.elim hq
def xDefK (G : Sg → Option (Ans PyData × Sg)) (perm : List Nat) (fs : M (List PyData)) : M PyData := bnd fs fun ds => if ds.length = perm.length then xDef G (ret (pick perm ds)) else lif none
theorem de_callK0 {kws : List Keyword} {ks : List Str} {perm : List Nat} {G : Sg → Option (Ans PyData × Sg)} (F : FnOk X.prog X.w X.K X.mg X.base (L2.CX X.prog X.w) k fa fd ps (spD X.K X.mg n G)) (hr : Room k X.A) (hm : X.mg x = some (.ref fa)) (hk : PySem.W.keepIn X.K (.ref fa) = true)
    (hb : ∀ ws : List Value, ws.length = perm.length → bindArgs fd ⟨[], ks.zip ws⟩ = pure (ps.zip (pick perm ws))) (hx : ∀ σ, PassesAt (L2.CX X.prog X.w) X σ (WE W σ)) (hkw : DK X W kws fs) (hn : ∀ ds : List PyData, ds.length = perm.length → (pick perm ds).length = n)
    (hg : Gl X x := by rfl) (hall : (backToKw pos (keywordEach kws X.env)).all (·.1.isSome) = true := by rfl) (hks : (backToKw pos (keywordEach kws X.env)).filterMap (·.1) = ks := by rfl)
    (hdb : (x == ("__debug__" : Str)) = false := by decide) (hpl : ((backTo pos (starEach [] X.env)).any (·.1) || (backToKw pos (keywordEach kws X.env)).any (·.1.isNone)) = false := by rfl) : DE X W (.Call (.Name x pf) [] kws pos) (xDefK G perm fs) := by
  obtain ⟨t, p, q⟩ := hkw.ex
  refine ⟨⟨_, pe_callK0 F hr hg hm hk hb hx p hall hks hdb hpl, fun ph am σ H δ Q ans δ' s z k kx => ?_⟩⟩
  rcases bnd_some z with ⟨ds, δ1, e1, e2⟩ | ⟨c, fs, e1, e2⟩
  · refine q ph am σ H δ _ _ _ s e1 (fun d' ed am1 vs H1 st1 s1 dv => ?_) (fun c fs z => by cases z)
    cases ed
    split at e2
    · rename_i hl
      refine ⟨by rw [dv.length]; exact hl, ?_⟩
      have s2 := s1.under (dqs_pick (perm := perm) dv)
      rcases bnd_some e2 with ⟨ds2, δ2, e3, e4⟩ | ⟨c, fs, e3, e4⟩
      · cases e3
        refine ⟨by rw [(dqs_pick (perm := perm) dv).length]; exact hn ds hl, ph.under am1, (pick perm ds).map .fz, ?_⟩
        split at e4
        · rename_i d cells e5
          cases e4
          refine ⟨_, _, s2, e5, fun d ed v H' st' _ dv' => ?_, fun c fs z => by cases z⟩
          cases ed
          have sm : Same H1 H' := fun b o h => st'.keep b o h fun i z => by cases z
          rw [show (ph.under am1).ba = fun _ => none from rfl, hid_under] at dv'
          exact k _ rfl am1 v H' (st1.trans (Step.of sm)) (s1.same sm) dv'
        · rename_i c es cells e5
          cases e4
          refine ⟨_, _, s2, e5, fun d ed => (by cases ed), fun c fs z => ?_⟩
          cases z
          exact XP.of_under s1 ((kx _ _ rfl).step st1)
        · cases e4
      · cases e3
    · exact (lif_none e2).elim
  · subst e2
    exact q ph am σ H δ _ _ _ s e1 (fun d ed => by cases ed) (fun c' fs' z => by cases z; exact kx _ _ rfl)
/-! ### slices of a list or tuple, the parts ints -/
def cutD (xs : List PyData) (lo hi : Option Int) : List PyData := (xs.drop (HT.sIx xs.length 0 lo)).take (HT.sIx xs.length xs.length hi - HT.sIx xs.length 0 lo)
theorem dqs_cut {lo hi : Option Int} (h : DqAll K H vs ds) : DqAll K H (cutV vs lo hi) (cutD ds lo hi) := by
  unfold cutV cutD
  rw [h.length]
  exact (h.drop _).take _
structure DO (X : Cx) (W : WX) (e : Option Expr) (f : M (Option Int)) : Prop where
  ex : ∃ t, PO X e t ∧ ∀ (ph : Fx) (am : Am) (σ : L2.St) (H : Hp) (δ : Sg) (Q : Option Int → Hp → Prop) (ans : Ans (Option Int)) (δ' : Sg), SR X.K ph am σ H δ → f δ = some (ans, δ') →
    (∀ b, ans = .ok b → ∀ am' H', Step am H am' H' → SR X.K ph am' σ H' δ' → Q b H') → (∀ c fs, ans = .ex c fs → XP X W ph am σ H δ' c fs) → t σ H Q
theorem do_none : DO X W none (ret none) := ⟨⟨tNoPart, po_none, fun ph am σ H δ Q ans δ' s q k _ => by cases q; exact k _ rfl am H Step.refl s⟩⟩
def xPart (f : M PyData) : M (Option Int) := bnd f fun d => lif (match d with
  | .int i => some (some i)
  | _ => none)
theorem do_some (h : DE X W e f) : DO X W (some e) (xPart f) := by
  obtain ⟨ta, pa, qa⟩ := h.ex
  refine ⟨⟨_, po_some pa, fun ph am σ H δ Q ans δ' s q k kx => ?_⟩⟩
  rcases bnd_some q with ⟨a, δ1, e1, q1⟩ | ⟨c, fs, e1, q1⟩
  · refine qa ph am σ H δ _ _ _ s e1 (fun d ed am1 x H1 st1 s1 d1 => ?_) (fun c fs z => by cases z)
    cases ed
    obtain ⟨z, e3, rfl, rfl⟩ := lif_some q1
    cases d1 with
    | int i => cases e3; exact ⟨i, rfl, k _ rfl am1 H1 st1 s1⟩
    | _ => cases e3
  · subst q1
    exact qa ph am σ H δ _ _ _ s e1 (fun d ed => by cases ed) (fun c' fs' z => by cases z; exact kx _ _ rfl)
def xSlL (f : M PyData) (lo hi : M (Option Int)) : M (List PyData) := bnd f fun d => bnd lo fun l => bnd hi fun u => lif (match d with
  | .list xs => if xs.length ≤ sizeLine then some (cutD xs l u) else none
  | _ => none)
theorem df_slice {lo hi : Option Expr} {fl fh : M (Option Int)} {p2 : Pos} (he : DE X W e f) (hl : DO X W lo fl) (hh : DO X W hi fh) : DF X W (.Subscript e (.Slice lo hi none p2) pos) (xSlL f fl fh) := by
  obtain ⟨te, pe, qe⟩ := he.ex
  obtain ⟨tl, pl, ql⟩ := hl.ex
  obtain ⟨th, pp, qh⟩ := hh.ex
  refine ⟨⟨_, pe_slice sl_list pe pl pp, fun ph am σ H δ Q ans δ' s q k kx => ?_⟩⟩
  rcases bnd_some q with ⟨a, δ1, e1, q1⟩ | ⟨c, fs, e1, q1⟩
  · refine qe ph am σ H δ _ _ _ s e1 (fun d ed am1 x H1 st1 s1 d1 => ?_) (fun c fs z => by cases z)
    cases ed
    rcases bnd_some q1 with ⟨l, δ2, e2, q2⟩ | ⟨c, fs, e2, q2⟩
    · refine ql ph am1 σ H1 δ1 _ _ _ s1 e2 (fun d ed am2 H2 st2 s2 => ?_) (fun c fs z => by cases z)
      cases ed
      rcases bnd_some q2 with ⟨u, δ3, e3, q3⟩ | ⟨c, fs, e3, q3⟩
      · refine qh ph am2 σ H2 δ2 _ _ _ s2 e3 (fun d ed am3 H3 st3 s3 => ?_) (fun c fs z => by cases z)
        cases ed
        obtain ⟨z, e4, rfl, rfl⟩ := lif_some q3
        have d3 := dp_mono st3.hid (dp_mono st2.hid d1)
        cases d3 with
        | lst h1 a1 =>
          obtain ⟨hz0, rfl⟩ := if_some e4
          refine ⟨_, _, rfl, rd_hid h1, fun p np => ?_⟩
          have hz := Nat.le_trans (cutV_length _ l u) (Nat.le_trans (Nat.le_of_eq a1.length) hz0)
          exact k _ rfl am3 p _ H3 (((st1.trans st2).trans st3).none np) np ((st1.trans st2).trans st3) s3 (dqs_cut a1) hz
        | _ => cases e4
      · subst q3
        exact qh ph am2 σ H2 δ2 _ _ _ s2 e3 (fun d ed => by cases ed) (fun c' fs' z => by cases z; exact (kx _ _ rfl).step (st1.trans st2))
    · subst q2
      exact ql ph am1 σ H1 δ1 _ _ _ s1 e2 (fun d ed => by cases ed) (fun c' fs' z => by cases z; exact (kx _ _ rfl).step st1)
  · subst q1
    exact qe ph am σ H δ _ _ _ s e1 (fun d ed => by cases ed) (fun c' fs' z => by cases z; exact kx _ _ rfl)
end PD
end

section
set_option Elab.async false
set_option linter.all false
set_option maxRecDepth 100000
set_option maxHeartbeats 1000000
namespace PD
open PySem PySem.Spec PyProof.Rows L2
variable {X : Cx} {W : WX} {pos : Pos} {e e1 e2 e3 : Expr} {es : List Expr} {f g h : M PyData} {fs : M (List PyData)} {fb gb : M Bool}
variable {K : PySem.W.Frag} {ph : Fx} {am am' am1 : Am} {H H' H1 : Hp} {σ σ' : L2.St} {δ δ' δ1 : Sg} {a b p p1 p2 D : Addr} {v : V} {vs : List V} {d : PyData} {ds : List PyData} {i j : Nat}
variable {k : Nat} {fa : Addr} {fd : FuncData} {ps : List Str} {x : Str} {pf : Pos} {n : Nat}
/-! ### two lists of one's own lent -/
def Fx.lend2 (ph : Fx) (am : Am) (a b : Addr) : Fx := ⟨fun c => Hid ph am c ∧ c ≠ a ∧ c ≠ b, fun l => match l with
  | 0 => some a
  | 1 => some b
  | _ => none⟩
theorem lend2_ba {l : Nat} {c : Addr} : (ph.lend2 am a b).ba l = some c ↔ (l = 0 ∧ c = a) ∨ (l = 1 ∧ c = b) := by
  unfold Fx.lend2
  match l with
  | 0 => simp; exact eq_comm
  | 1 => simp; exact eq_comm
  | l + 2 => simp
theorem hid_lend2 (h1 : am i = some a) (h2 : am j = some b) : hid (ph.lend2 am a b) (ph.lend2 am a b).ba H = hid ph am H := by
  funext c
  unfold hid
  have : Hid (ph.lend2 am a b) (ph.lend2 am a b).ba c ↔ Hid ph am c := by
    constructor
    · rintro (⟨q, _⟩ | ⟨l, q⟩)
      · exact q
      · rcases lend2_ba.mp q with ⟨_, rfl⟩ | ⟨_, rfl⟩
        · exact .inr ⟨i, h1⟩
        · exact .inr ⟨j, h2⟩
    · intro q
      by_cases ha : c = a
      · exact .inr ⟨0, lend2_ba.mpr (.inl ⟨rfl, ha⟩)⟩
      · by_cases hb : c = b
        · exact .inr ⟨1, lend2_ba.mpr (.inr ⟨rfl, hb⟩)⟩
        · exact .inl ⟨q, ha, hb⟩
  by_cases h : Hid ph am c
  · rw [if_pos h, if_pos (this.mpr h)]
  · rw [if_neg h, if_neg (fun z => h (this.mp z))]
theorem SR.lend2 (s : SR K ph am σ H δ) {os us : List PyData} {ov uv : List V} (hij : a ≠ b) (h1 : am i = some a) (g1 : am j = some b) (h2 : H a = some (.lst ov)) (g2 : H b = some (.lst uv)) (h3 : DqAll K (hid ph am H) ov os) (g3 : DqAll K (hid ph am H) uv us) (h4 : ov.length ≤ sizeLine) (g4 : uv.length ≤ sizeLine) :
    SR K (ph.lend2 am a b) (ph.lend2 am a b).ba ([V.ref a, V.ref b].map some) H [.ow true os, .ow true us] := by
  refine ⟨rfl, fun l d q => ?_, fun l bb es q => ?_, fun l c q => ?_, fun l m c q1 q2 => ?_, fun c hc => s.hiddenM hc.1, fun l c q => q, fun l o q => ?_⟩
  · match l, q with
    | 0, q => simp at q
    | 1, q => simp at q
    | l + 2, q => simp at q
  · match l, q with
    | 0, q =>
      simp at q
      obtain ⟨rfl, rfl⟩ := q
      exact ⟨a, ov, lend2_ba.mpr (.inl ⟨rfl, rfl⟩), rfl, h2, by rw [hid_lend2 h1 g1]; exact h3, h4, fun z => by cases z⟩
    | 1, q =>
      simp at q
      obtain ⟨rfl, rfl⟩ := q
      exact ⟨b, uv, lend2_ba.mpr (.inr ⟨rfl, rfl⟩), rfl, g2, by rw [hid_lend2 h1 g1]; exact g3, g4, fun z => by cases z⟩
    | l + 2, q => simp at q
  · rcases lend2_ba.mp q with ⟨rfl, rfl⟩ | ⟨rfl, rfl⟩
    · exact ⟨fun z => z.2.1 rfl, .ow true os, rfl, trivial⟩
    · exact ⟨fun z => z.2.2 rfl, .ow true us, rfl, trivial⟩
  · rcases lend2_ba.mp q1 with ⟨rfl, rfl⟩ | ⟨rfl, rfl⟩ <;> rcases lend2_ba.mp q2 with ⟨rfl, e⟩ | ⟨rfl, e⟩
    · rfl
    · exact (hij e).elim
    · exact (hij e.symm).elim
    · rfl
  · match l, q with
    | 0, q => simp at q
    | 1, q => simp at q
    | l + 2, q => simp at q
def xDef2 (G : Sg → Option (Ans PyData × Sg)) (i j : Nat) : M PyData := fun δ => match δ[i]?, δ[j]? with
  | some (.ow b os), some (.ow c us) => if i ≠ j then match G [.ow true os, .ow true us] with
      | some (.ok d, [.ow _ os', .ow _ us']) => some (.ok d, (δ.set i (.ow b os')).set j (.ow c us'))
      | _ => none
    else none
  | _, _ => none
theorem def2_read {G : Sg → Option (Ans PyData × Sg)} : ReadE X W (tCallS (spD X.K X.mg 2 G) (WE W) (tCons (tVar i) (tCons (tVar j) tNil))) (xDef2 G i j) := by
  intro ph am σ H δ Q ans δ' s z k kx
  unfold xDef2 at z
  split at z
  · rename_i b0 os c0 us e1 e2
    split at z
    · rename_i hij
      obtain ⟨a, ov, o1, o2, o3, o4, o5, o6⟩ := s.ow i b0 os e1
      obtain ⟨b, uv, r1, r2, r3, r4, r5, r6⟩ := s.ow j c0 us e2
      have hab : a ≠ b := fun q => hij (s.inj i j a o1 (by rw [q]; exact r1))
      refine ⟨.ref a, o2, .ref b, r2, ?_⟩
      split at z
      · rename_i d b1 os' c1 us' e3
        cases z
        refine ⟨rfl, ph.lend2 am a b, _, _, _, s.lend2 hab o1 r1 o3 r3 o4 r4 o5 r5, e3, fun d ed v H' st' s' dv' => ?_, fun c fs z => by cases z⟩
        cases ed
        have st2 : Step am H am H' := ⟨fun c o h m => st'.keep c o h fun l z => by
          rcases lend2_ba.mp z with ⟨_, rfl⟩ | ⟨_, rfl⟩
          · exact m i o1
          · exact m j r1, fun l c h => .inl ⟨l, h⟩, st'.there⟩
        rw [hid_lend2 o1 r1] at dv'
        obtain ⟨a2, ov2, t1, t2, t3, t4, t5, _⟩ := s'.ow 0 b1 os' rfl
        obtain ⟨b2, uv2, y1, y2, y3, y4, y5, _⟩ := s'.ow 1 c1 us' rfl
        rcases lend2_ba.mp t1 with ⟨_, rfl⟩ | ⟨q, _⟩
        · rcases lend2_ba.mp y1 with ⟨q, _⟩ | ⟨_, rfl⟩
          · cases q
          · rw [hid_lend2 o1 r1] at t4 y4
            have hi : i < δ.length := (List.getElem?_eq_some_iff.mp e1).1
            have hj : j < δ.length := (List.getElem?_eq_some_iff.mp e2).1
            have gi : ((δ.set i (.ow b0 os')).set j (.ow c0 us'))[i]? = some (.ow b0 os') := by
              rw [List.getElem?_set_ne (Ne.symm hij), List.getElem?_set_self hi]
            have gj : ((δ.set i (.ow b0 os')).set j (.ow c0 us'))[j]? = some (.ow c0 us') := by
              rw [List.getElem?_set_self (by rw [List.length_set]; exact hj)]
            have go : ∀ {l : Nat}, l ≠ i → l ≠ j → ((δ.set i (.ow b0 os')).set j (.ow c0 us'))[l]? = δ[l]? := fun {l} h1 h2 => by
              rw [List.getElem?_set_ne (Ne.symm h2), List.getElem?_set_ne (Ne.symm h1)]
            refine k _ rfl am v H' st2 ⟨by rw [List.length_set, List.length_set, s.len], fun l d q => ?_, fun l bb es q => ?_, fun l c q => ?_, s.inj, fun c hc => ?_, s.bas, fun l o q => ?_⟩ dv'
            · by_cases h1 : l = i
              · rw [h1, gi] at q; cases q
              · by_cases h2 : l = j
                · rw [h2, gj] at q; cases q
                · rw [go h1 h2] at q
                  obtain ⟨v, g1, g2⟩ := s.fz l d q
                  exact ⟨v, g1, dp_mono st2.hid g2⟩
            · by_cases h1 : l = i
              · rw [h1, gi] at q
                cases q
                rw [h1]
                exact ⟨a2, ov2, o1, o2, t3, t4, t5, o6⟩
              · by_cases h2 : l = j
                · rw [h2, gj] at q
                  cases q
                  rw [h2]
                  exact ⟨b2, uv2, r1, r2, y3, y4, y5, r6⟩
                · rw [go h1 h2] at q
                  obtain ⟨a3, vs3, g1, g2, g3, g4, g5⟩ := s.ow l bb es q
                  refine ⟨a3, vs3, g1, g2, st'.keep _ _ g3 fun m z => ?_, dps_mono st2.hid g4, g5⟩
                  rcases lend2_ba.mp z with ⟨_, rfl⟩ | ⟨_, rfl⟩
                  · exact h1 (s.inj l i _ g1 o1)
                  · exact h2 (s.inj l j _ g1 r1)
            · obtain ⟨g1, cc, g2, g3⟩ := s.amf l c q
              by_cases h1 : l = i
              · exact ⟨g1, .ow b0 os', by rw [h1]; exact gi, trivial⟩
              · by_cases h2 : l = j
                · exact ⟨g1, .ow c0 us', by rw [h2]; exact gj, trivial⟩
                · exact ⟨g1, cc, by rw [go h1 h2]; exact g2, g3⟩
            · obtain ⟨o, h, m⟩ := s.phs c hc
              refine ⟨o, st'.keep c o h fun l z => ?_, m⟩
              rcases lend2_ba.mp z with ⟨_, rfl⟩ | ⟨_, rfl⟩
              · exact (s.amf i _ o1).1 hc
              · exact (s.amf j _ r1).1 hc
            · by_cases h1 : l = i
              · rw [h1, gi] at q; cases q
              · by_cases h2 : l = j
                · rw [h2, gj] at q; cases q
                · rw [go h1 h2] at q
                  obtain ⟨a3, u3, g1, g2, g3, g4, g5⟩ := s.od l o q
                  refine ⟨a3, u3, g1, g2, st'.keep _ _ g3 fun m z => ?_, dor_mono st2.hid g4, g5⟩
                  rcases lend2_ba.mp z with ⟨_, rfl⟩ | ⟨_, rfl⟩
                  · exact h1 (s.inj l i _ g1 o1)
                  · exact h2 (s.inj l j _ g1 r1)
        · cases q
      · cases z
    · cases z
  · cases z
theorem de_call2 {y z : Str} {pn pz : Pos} {G : Sg → Option (Ans PyData × Sg)} (F : FnOk X.prog X.w X.K X.mg X.base (L2.CX X.prog X.w) k fa fd ps (spD X.K X.mg 2 G)) (hr : Room k X.A) (hm : X.mg x = some (.ref fa)) (hk : PySem.W.keepIn X.K (.ref fa) = true) (hb : Binds X.K fd ps []) (hx : ∀ σ, PassesAt (L2.CX X.prog X.w) X σ (WE W σ))
    (hN : X.N[i]? = some y := by rfl) (hv : Vis X.env.scope y := by first | exact Or.inl rfl | exact Or.inr (Or.inl rfl) | exact Or.inr (Or.inr rfl)) (hd : (y == ("__debug__" : Str)) = false := by decide) (hcd : (y == ("__classdict__" : Str)) = false := by decide)
    (hN2 : X.N[j]? = some z := by rfl) (hv2 : Vis X.env.scope z := by first | exact Or.inl rfl | exact Or.inr (Or.inl rfl) | exact Or.inr (Or.inr rfl)) (hd2 : (z == ("__debug__" : Str)) = false := by decide) (hcd2 : (z == ("__classdict__" : Str)) = false := by decide)
    (hg : Gl X x := by rfl) (hdb : (x == ("__debug__" : Str)) = false := by decide) (he2 : starEach [.Name z pz] X.env = (false, eval (.Name z pz) X.env) :: starEach [] X.env := by rfl) (he : starEach [.Name y pn, .Name z pz] X.env = (false, eval (.Name y pn) X.env) :: starEach [.Name z pz] X.env := by rfl) (hpl : (backTo pos (starEach [.Name z pz] X.env)).any (·.1) = false := by rfl) :
    DE X W (.Call (.Name x pf) [.Name y pn, .Name z pz] [] pos) (xDef2 G i j) :=
  ⟨⟨_, pe_callS F hr hg hm hk hb hx (pa_cons (pe_var hN hv hd hcd) (pa_cons (pe_var hN2 hv2 hd2 hcd2) pa_nil he2) he) hdb he hpl, def2_read⟩⟩
/-! ### a, b = e1, e2; a, b, c = e1, e2, e3 -/
def sPar2 (fs : M (List PyData)) (i j : Nat) : MS := bnd fs fun ds => fun δ => match ds with
  | [x, y] => match sName i x δ with
    | some δ1 => match sName j y δ1 with
      | some δ2 => some (.ok .nx, δ2)
      | none => none
    | none => none
  | _ => none
def sPar3 (fs : M (List PyData)) (i j l : Nat) : MS := bnd fs fun ds => fun δ => match ds with
  | [x, y, z] => match sName i x δ with
    | some δ1 => match sName j y δ1 with
      | some δ2 => match sName l z δ2 with
        | some δ3 => some (.ok .nx, δ3)
        | none => none
      | none => none
    | none => none
  | _ => none
theorem ds_par2 {x y : Str} {px py pt : Pos} {kt k2 pt2} (hc : X.calm = true) (hN : X.N.Nodup) (ha : DA X W [e1, e2] fs) (hi : X.N[i]? = some x := by rfl) (hj : X.N[j]? = some y := by rfl) (hij : i ≠ j := by decide)
    (hx : X.env.scope.names.lookup x = some .local := by rfl) (hy : X.env.scope.names.lookup y = some .local := by rfl)
    (hw : swappedStores [.Tuple [.Name x px, .Name y py] kt pt] (.Tuple [e1, e2] k2 pt2) X.env = pure (some [x, y]) := by rfl)
    (hs : swapsWithSole [.Tuple [.Name x px, .Name y py] kt pt] (.Tuple [e1, e2] k2 pt2) pos.line X.env = pure false := by rfl) : DS X W (.Assign [.Tuple [.Name x px, .Name y py] kt pt] (.Tuple [e1, e2] k2 pt2) pos) (sPar2 fs i j) := by
  obtain ⟨t, p, q⟩ := ha.ex
  refine ⟨⟨_, ps_par hc hN hi hj hij hx hy p hw hs, fun ph am σ H δ D ans δ' s z k kx => ?_⟩⟩
  rcases bnd_some z with ⟨ds, δ1, e1, e2⟩ | ⟨c, fs, e1, e2⟩
  · refine q ph am σ H δ _ _ _ s e1 (fun d' ed am1 vs H1 st1 s1 dv => ?_) (fun c fs z => by cases z)
    cases ed
    cases dv with
    | nil => cases e2
    | cons d1 t1 =>
      cases t1 with
      | nil => cases e2
      | cons d2 t2 =>
        cases t2 with
        | cons _ _ => cases e2
        | nil =>
          simp only at e2
          split at e2
          · rename_i δ2 n1
            split at e2
            · rename_i δ3 n2
              cases e2
              obtain ⟨c1, f1, f2, rfl⟩ := sName_some n1
              obtain ⟨c2, f3, f4, rfl⟩ := sName_some n2
              refine ⟨_, _, rfl, k _ rfl _ _ H1 ((st1.trans step_drop).trans step_drop) ((s1.put f1 f2 d1).put f3 f4 (dp_mono (Step.hid step_drop) d2))⟩
            · cases e2
          · cases e2
  · subst e2
    exact q ph am σ H δ _ _ _ s e1 (fun d ed => by cases ed) (fun c' fs' z => by cases z; exact (kx _ _ rfl).at)
theorem ds_par3 {l : Nat} {x y z : Str} {px py pz pt : Pos} {kt k2 pt2} (hc : X.calm = true) (hN : X.N.Nodup) (ha : DA X W [e1, e2, e3] fs) (hi : X.N[i]? = some x := by rfl) (hj : X.N[j]? = some y := by rfl) (hl : X.N[l]? = some z := by rfl) (hij : i ≠ j := by decide) (hil : i ≠ l := by decide) (hjl : j ≠ l := by decide)
    (hx : X.env.scope.names.lookup x = some .local := by rfl) (hy : X.env.scope.names.lookup y = some .local := by rfl) (hz : X.env.scope.names.lookup z = some .local := by rfl)
    (hw : swappedStores [.Tuple [.Name x px, .Name y py, .Name z pz] kt pt] (.Tuple [e1, e2, e3] k2 pt2) X.env = pure (some [x, y, z]) := by rfl)
    (hs : swapsWithSole [.Tuple [.Name x px, .Name y py, .Name z pz] kt pt] (.Tuple [e1, e2, e3] k2 pt2) pos.line X.env = pure false := by rfl) : DS X W (.Assign [.Tuple [.Name x px, .Name y py, .Name z pz] kt pt] (.Tuple [e1, e2, e3] k2 pt2) pos) (sPar3 fs i j l) := by
  obtain ⟨t, p, q⟩ := ha.ex
  refine ⟨⟨_, ps_par3 hc hN hi hj hl hij hil hjl hx hy hz p hw hs, fun ph am σ H δ D ans δ' s z k kx => ?_⟩⟩
  rcases bnd_some z with ⟨ds, δ1, e1, e2⟩ | ⟨c, fs, e1, e2⟩
  · refine q ph am σ H δ _ _ _ s e1 (fun d' ed am1 vs H1 st1 s1 dv => ?_) (fun c fs z => by cases z)
    cases ed
    cases dv with
    | nil => cases e2
    | cons d1 t1 =>
      cases t1 with
      | nil => cases e2
      | cons d2 t2 =>
        cases t2 with
        | nil => cases e2
        | cons d3 t3 =>
          cases t3 with
          | cons _ _ => cases e2
          | nil =>
            simp only at e2
            split at e2
            · rename_i δ2 n1
              split at e2
              · rename_i δ3 n2
                split at e2
                · rename_i δ4 n3
                  cases e2
                  obtain ⟨c1, f1, f2, rfl⟩ := sName_some n1
                  obtain ⟨c2, f3, f4, rfl⟩ := sName_some n2
                  obtain ⟨c3, f5, f6, rfl⟩ := sName_some n3
                  refine ⟨_, _, _, rfl, k _ rfl _ _ H1 (((st1.trans step_drop).trans step_drop).trans step_drop) (((s1.put f1 f2 d1).put f3 f4 (dp_mono (Step.hid step_drop) d2)).put f5 f6 (dp_mono (Step.hid step_drop) (dp_mono (Step.hid step_drop) d3)))⟩
                · cases e2
              · cases e2
            · cases e2
  · subst e2
    exact q ph am σ H δ _ _ _ s e1 (fun d ed => by cases ed) (fun c' fs' z => by cases z; exact (kx _ _ rfl).at)
/-! ### what a body may rely on -/
theorem hu64 {A : Around} {k : Nat} (hr : Room k A) : A.units + 64 < cLine := hr.units
theorem pass_cx {P : Program} {w : World} {mg : Str → Option Value} {base : Heap} {N : List Str} {qual : Str} {st : Stmt} {cdv : Value} {A : Around} {outer : List PySem.Env} {s : Shared} {E : XK} :
    ∀ σ, PassesAt (L2.CX P w) (CxD P w K mg base N qual st fa cdv A outer s H E) σ (WE (fun cls d _ H => E cls d H) σ) := fun σ => passAt (takes_of rfl rfl rfl rfl) σ
theorem pass0 : ∀ σ, PassesAt (L2.CX X.prog X.w) X σ (WE E00 σ) := fun σ => passAt takes0 σ
theorem own_cx {P : Program} {w : World} {mg : Str → Option Value} {base : Heap} {N : List Str} {qual : Str} {st : Stmt} {cdv : Value} {A : Around} {outer : List PySem.Env} {s : Shared} {E : XK} :
    PassesOwn (model P w) (CxD P w K mg base N qual st fa cdv A outer s H E).A (CxD P w K mg base N qual st fa cdv A outer s H E).env (CxD P w K mg base N qual st fa cdv A outer s H E).xe := passes_of rfl
theorem fn_none {P : Program} {w : World} {mg : Str → Option Value} {base : Heap} : FnOk P w K mg base (L2.CX P w) 0 fa fd ps (spD K mg ps.length fun _ => none) :=
  ⟨fun vs H Q E h => h.1, fun A outer s H args us vs Q E _ _ _ _ h => by
    obtain ⟨_, _, _, _, _, _, q, _⟩ := h
    cases q⟩
end PD
end

section
set_option Elab.async false
set_option linter.all false
set_option maxRecDepth 100000
set_option maxHeartbeats 1000000
namespace PD
open PySem PySem.Spec PyProof.Rows L2
variable {X : Cx} {W : WX} {pos : Pos} {e e1 e2 e3 : Expr} {es : List Expr} {f g h : M PyData} {fs : M (List PyData)} {fb gb : M Bool}
variable {K : PySem.W.Frag} {ph : Fx} {am am' am1 : Am} {H H' H1 : Hp} {σ σ' : L2.St} {δ δ' δ1 : Sg} {a b p p1 p2 D : Addr} {v : V} {vs : List V} {d : PyData} {ds : List PyData} {i j : Nat}
variable {pf : Pos}
theorem bt_int : bootBuiltins "int" = some (.type "int") := by decide +kernel
theorem bt_bool : bootBuiltins "bool" = some (.type "bool") := by decide +kernel
theorem bt_str : bootBuiltins "str" = some (.type "str") := by decide +kernel
theorem bt_list : bootBuiltins "list" = some (.type "list") := by decide +kernel
theorem bt_tuple : bootBuiltins "tuple" = some (.type "tuple") := by decide +kernel
theorem bb_abs : bootBuiltins "abs" = some (.builtin "abs") := by decide +kernel
theorem bb_all : bootBuiltins "all" = some (.builtin "all") := by decide +kernel
theorem bb_any : bootBuiltins "any" = some (.builtin "any") := by decide +kernel
theorem bb_sum : bootBuiltins "sum" = some (.builtin "sum") := by decide +kernel
section
variable (hd : DA X W [e] fs)
include hd
theorem de_len (hm : X.mg "len" = none) (hg : Gl X "len" := by rfl) (he : starEach [e] X.env = (false, eval e X.env) :: starEach [] X.env := by rfl) (hpl : (backTo pos (starEach [] X.env)).any (·.1) = false := by rfl) : DE X W (.Call (.Name "len" pf) [e] [] pos) (xCall lenD fs) :=
  de_callB calld_len call_len_seq hm PySem.boot_len hd hg (by decide) (by decide) he hpl
theorem de_intc (hm : X.mg "int" = none) (hg : Gl X "int" := by rfl) (he : starEach [e] X.env = (false, eval e X.env) :: starEach [] X.env := by rfl) (hpl : (backTo pos (starEach [] X.env)).any (·.1) = false := by rfl) : DE X W (.Call (.Name "int" pf) [e] [] pos) (xCall intD fs) :=
  de_callTy calld_int call_int1 hm bt_int hd hg (by decide) (by decide) he hpl
theorem de_abs (hm : X.mg "abs" = none) (hg : Gl X "abs" := by rfl) (he : starEach [e] X.env = (false, eval e X.env) :: starEach [] X.env := by rfl) (hpl : (backTo pos (starEach [] X.env)).any (·.1) = false := by rfl) : DE X W (.Call (.Name "abs" pf) [e] [] pos) (xCall absD fs) :=
  de_callB calld_abs call_abs hm bb_abs hd hg (by decide) (by decide) he hpl
theorem de_all (hm : X.mg "all" = none) (hc : X.calm = true := by rfl) (hg : Gl X "all" := by rfl) (he : starEach [e] X.env = (false, eval e X.env) :: starEach [] X.env := by rfl) (hpl : (backTo pos (starEach [] X.env)).any (·.1) = false := by rfl) : DE X W (.Call (.Name "all" pf) [e] [] pos) (xCall allD fs) :=
  de_callB calld_all (cr_all hc) hm bb_all hd hg (by decide) (by decide) he hpl
theorem de_any (hm : X.mg "any" = none) (hc : X.calm = true := by rfl) (hg : Gl X "any" := by rfl) (he : starEach [e] X.env = (false, eval e X.env) :: starEach [] X.env := by rfl) (hpl : (backTo pos (starEach [] X.env)).any (·.1) = false := by rfl) : DE X W (.Call (.Name "any" pf) [e] [] pos) (xCall anyD fs) :=
  de_callB calld_any (cr_any hc) hm bb_any hd hg (by decide) (by decide) he hpl
theorem de_sum (hm : X.mg "sum" = none) (hc : X.calm = true := by rfl) (hg : Gl X "sum" := by rfl) (he : starEach [e] X.env = (false, eval e X.env) :: starEach [] X.env := by rfl) (hpl : (backTo pos (starEach [] X.env)).any (·.1) = false := by rfl) : DE X W (.Call (.Name "sum" pf) [e] [] pos) (xCall sumD fs) :=
  de_callB calld_sum (cr_sum hc) hm bb_sum hd hg (by decide) (by decide) he hpl
theorem de_tuplec (hm : X.mg "tuple" = none) (hg : Gl X "tuple" := by rfl) (he : starEach [e] X.env = (false, eval e X.env) :: starEach [] X.env := by rfl) (hpl : (backTo pos (starEach [] X.env)).any (·.1) = false := by rfl) : DE X W (.Call (.Name "tuple" pf) [e] [] pos) (xCall tupleD fs) :=
  de_callTy calld_tuple call_tuple_of hm bt_tuple hd hg (by decide) (by decide) he hpl
theorem df_list (hm : X.mg "list" = none) (hg : Gl X "list" := by rfl) (he : starEach [e] X.env = (false, eval e X.env) :: starEach [] X.env := by rfl) (hpl : (backTo pos (starEach [] X.env)).any (·.1) = false := by rfl) : DF X W (.Call (.Name "list" pf) [e] [] pos) (xCallF listD fs) :=
  df_callTy callf_list call_list_of hm bt_list hd hg (by decide) (by decide) he hpl
end
/-! a slice of a list or a tuple -/
def sliceD (d : PyData) (l u : Option Int) : Option PyData := match d with
  | .list xs => some (.list (cutD xs l u))
  | .tuple xs => some (.tuple (cutD xs l u))
  | _ => none
def xSl (f : M PyData) (lo hi : M (Option Int)) : M PyData := bnd f fun d => bnd lo fun l => bnd hi fun u => lif (sliceD d l u)
theorem cut_whole {xs : List PyData} {l u : Option Int} (h : HT.sIx xs.length 0 l = 0 ∧ HT.sIx xs.length xs.length u = xs.length) : cutD xs l u = xs := by
  unfold cutD
  rw [h.1, h.2]
  simp
theorem de_slice {lo hi : Option Expr} {fl fh : M (Option Int)} {p2 : Pos} (he : DE X W e f) (hl : DO X W lo fl) (hh : DO X W hi fh) : DE X W (.Subscript e (.Slice lo hi none p2) pos) (xSl f fl fh) := by
  obtain ⟨te, pe, qe⟩ := he.ex
  obtain ⟨tl, pl, ql⟩ := hl.ex
  obtain ⟨th, pp, qh⟩ := hh.ex
  refine ⟨⟨_, pe_slice (SlR.or sl_list sl_tupA) pe pl pp, fun ph am σ H δ Q ans δ' s q k kx => ?_⟩⟩
  rcases bnd_some q with ⟨a, δ1, e1, q1⟩ | ⟨c, fs, e1, q1⟩
  · refine qe ph am σ H δ _ _ _ s e1 (fun d ed am1 x H1 st1 s1 d1 => ?_) (fun c fs z => by cases z)
    cases ed
    rcases bnd_some q1 with ⟨l, δ2, e2, q2⟩ | ⟨c, fs, e2, q2⟩
    · refine ql ph am1 σ H1 δ1 _ _ _ s1 e2 (fun d ed am2 H2 st2 s2 => ?_) (fun c fs z => by cases z)
      cases ed
      rcases bnd_some q2 with ⟨u, δ3, e3, q3⟩ | ⟨c, fs, e3, q3⟩
      · refine qh ph am2 σ H2 δ2 _ _ _ s2 e3 (fun d ed am3 H3 st3 s3 => ?_) (fun c fs z => by cases z)
        cases ed
        obtain ⟨z, e4, rfl, rfl⟩ := lif_some q3
        have d3 := dp_mono st3.hid (dp_mono st2.hid d1)
        have stA := (st1.trans st2).trans st3
        cases d3 with
        | lst h1 a1 =>
          cases e4
          exact .inl ⟨_, _, rfl, rd_hid h1, fun p np => k _ rfl am3 _ _ (stA.trans (Step.of (same_new np))) (s3.same (same_new np)) (new_lst (fun b h => s3.hidden h) np (dqs_cut a1))⟩
        | tup h1 a1 =>
          cases e4
          refine .inr ⟨_, _, rfl, seqT_hid h1, fun hw => ?_, fun _ p np => k _ rfl am3 _ _ (stA.trans (Step.of (same_new np))) (s3.same (same_new np)) (new_tup (fun b h => s3.hidden h) np (dqs_cut a1))⟩
          rw [a1.length] at hw
          rw [cut_whole hw] at k
          exact k _ rfl am3 _ H3 stA s3 (.tup h1 a1)
        | _ => cases e4
      · subst q3
        exact qh ph am2 σ H2 δ2 _ _ _ s2 e3 (fun d ed => by cases ed) (fun c' fs' z => by cases z; exact (kx _ _ rfl).step (st1.trans st2))
    · subst q2
      exact ql ph am1 σ H1 δ1 _ _ _ s1 e2 (fun d ed => by cases ed) (fun c' fs' z => by cases z; exact (kx _ _ rfl).step st1)
  · subst q1
    exact qe ph am σ H δ _ _ _ s e1 (fun d ed => by cases ed) (fun c' fs' z => by cases z; exact kx _ _ rfl)
end PD
namespace PD
open PySem PySem.Spec PyProof.Rows L2
variable {X : Cx} {W : WX} {pos : Pos} {k : Nat} {fa : Addr} {fd : FuncData} {ps : List Str} {x : Str} {pf : Pos}
theorem ra_nil : ReadA X W tNil (ret []) := fun ph am σ H δ Q ans δ' s q k _ => by cases q; exact k _ rfl am [] H Step.refl s .nil
theorem pe_callS0 {CX : CXT} {sp : Sp} {E : L2.St → XK} (F : FnOk X.prog X.w X.K X.mg X.base CX k fa fd ps sp) (hr : Room k X.A) (hg : Gl X x) (hm : X.mg x = some (.ref fa)) (hk : PySem.W.keepIn X.K (.ref fa) = true) (hb : Binds X.K fd ps []) (hx : ∀ σ, PassesAt CX X σ (E σ)) (hdb : (x == ("__debug__" : Str)) = false := by decide) :
    PE X (.Call (.Name x pf) [] [] pos) (tCallS sp E tNil) := by
  refine ⟨fun pins s σ H Q I h => ?_⟩
  refine wpAny_Call_Name_kw (ld_glob I hg hm ?_ hdb)
  exact PySem.W.callWith_K0 I.kIn hk (run_fnS (us := []) F hr hb (hx σ) I .nil h)
theorem de_call0 {G : Sg → Option (Ans PyData × Sg)} (F : FnOk X.prog X.w X.K X.mg X.base (L2.CX X.prog X.w) k fa fd ps (spD X.K X.mg 0 G)) (hr : Room k X.A) (hm : X.mg x = some (.ref fa)) (hk : PySem.W.keepIn X.K (.ref fa) = true) (hb : Binds X.K fd ps []) (hx : ∀ σ, PassesAt (L2.CX X.prog X.w) X σ (WE W σ))
    (hg : Gl X x := by rfl) (hdb : (x == ("__debug__" : Str)) = false := by decide) : DE X W (.Call (.Name x pf) [] [] pos) (xDef G (ret [])) :=
  ⟨⟨_, pe_callS0 F hr hg hm hk hb hx hdb, def_read ra_nil alen0⟩⟩
end PD
namespace PD
open PySem PySem.Spec PyProof.Rows L2
variable {X : Cx} {W : WX} {e : Expr} {st : Stmt} {sts : List Stmt}
theorem de_never : DE X W e (fun _ => none) := ⟨⟨fun _ _ _ => False, ⟨fun _ _ _ _ _ _ h => h.elim⟩, fun ph am σ H δ Q ans δ' s q _ _ => by cases q⟩⟩
theorem ds_never : DS X W st (fun _ => none) := ⟨⟨tNever, ps_never, fun ph am σ H δ D ans δ' s q _ _ => by cases q⟩⟩
theorem dss_never : DSs X W sts (fun _ => none) := ⟨⟨tNever, pss_never, fun ph am σ H δ D ans δ' s q _ _ => by cases q⟩⟩
end PD
end

section
set_option Elab.async false
set_option linter.all false
set_option maxRecDepth 100000
set_option maxHeartbeats 1000000
namespace PD
open PySem PySem.Spec PyProof.Rows L2
variable {X : Cx} {W : WX} {pos : Pos} {e e1 : Expr} {es : List Expr}
variable {K : PySem.W.Frag} {ph : Fx} {am am' : Am} {H H' : Hp} {σ σ' : L2.St} {δ δ' : Sg} {a p : Addr} {v : V} {vs : List V} {d : PyData} {ds : List PyData} {i j : Nat}
/-- a free slot is emptied -/
theorem SR.unset (s : SR K ph am σ H δ) {c : Cell} (e : δ[i]? = some c) (hc : c.free = true) : SR K ph (amDrop am i) (σ.set i none) H (δ.set i .un) := by
  have st : Step am H (amDrop am i) H := step_drop
  have hi : i < δ.length := (List.getElem?_eq_some_iff.mp e).1
  refine ⟨by rw [List.length_set, List.length_set, s.len], fun j d' q => ?_, fun j b' ds' q => ?_, fun j a' q => ?_, fun j k a' q1 q2 => ?_, s.phs, fun j a' q => ?_, fun j o q => ?_⟩
  · by_cases hj : j = i
    · subst hj
      rw [List.getElem?_set_self hi] at q
      cases q
    · rw [List.getElem?_set_ne (Ne.symm hj)] at q
      obtain ⟨v', h1, h2⟩ := s.fz j d' q
      exact ⟨v', by rw [List.getElem?_set_ne (Ne.symm hj)]; exact h1, dp_mono st.hid h2⟩
  · by_cases hj : j = i
    · subst hj
      rw [List.getElem?_set_self hi] at q
      cases q
    · rw [List.getElem?_set_ne (Ne.symm hj)] at q
      obtain ⟨a2, vs2, h1, h2, h3, h4, h5, h6⟩ := s.ow j b' ds' q
      exact ⟨a2, vs2, amDrop_some.mpr ⟨hj, h1⟩, by rw [List.getElem?_set_ne (Ne.symm hj)]; exact h2, h3, dps_mono st.hid h4, h5, h6⟩
  · obtain ⟨n, q⟩ := amDrop_some.mp q
    obtain ⟨h1, c', h2, h3⟩ := s.amf j a' q
    exact ⟨h1, c', by rw [List.getElem?_set_ne (Ne.symm n)]; exact h2, h3⟩
  · exact s.inj j k a' (amDrop_some.mp q1).2 (amDrop_some.mp q2).2
  · refine amDrop_some.mpr ⟨fun z => ?_, s.bas j a' q⟩
    subst z
    rw [s.nba e hc] at q
    cases q
  · by_cases hj : j = i
    · subst hj
      rw [List.getElem?_set_self hi] at q
      cases q
    · rw [List.getElem?_set_ne (Ne.symm hj)] at q
      obtain ⟨a2, u, h1, h2, h3, h4, h5⟩ := s.od j o q
      exact ⟨a2, u, amDrop_some.mpr ⟨hj, h1⟩, by rw [List.getElem?_set_ne (Ne.symm hj)]; exact h2, h3, dor_mono st.hid h4, h5⟩
/-- what an exception holds -/
def PL (K : PySem.W.Frag) (ph : Fx) (am : Am) (H : Hp) (dx : Option Addr) (fs : List (Str × PyData)) : Prop :=
  (fs = [] ∧ dx = none) ∨ ∃ a vs, dx = some a ∧ fs ≠ [] ∧ H a = some (.xd vs) ∧ vs.map (·.1) = fs.map (·.1) ∧ DqAll K (hid ph am H) (vs.map (·.2)) (fs.map (·.2))
/-- what a suite puts together: constants, what the exception in slot i is and holds -/
structure DXs (X : Cx) (i : Nat) (c : Str) (es : List Expr) (g : List (Str × PyData) → Option (List PyData)) : Prop where
  ex : ∀ (a : Addr) (oe : Obj) (C : Addr) (dx : Option Addr) (pn : List (Addr × Obj)), Zc (.ref C) dx oe → (∃ vs, oe.data = .fields vs) → X.mg c = some (.ref C) →
    ∃ t, PA (X.suite a ((a, oe) :: pn)) es t ∧ ∀ (ph : Fx) (am : Am) (σ : L2.St) (H : Hp) (Q : List V → Hp → Prop) (fs : List (Str × PyData)) (ds : List PyData), σ[i]? = some (some (.ref a)) → PL X.K ph am H dx fs → g fs = some ds →
      (∀ vs, DqAll X.K (hid ph am H) vs ds → Q vs H) → t σ H Q
variable {c : Str} {gi : List (Str × PyData) → Option (List PyData)}
def gCon (d : PyData) (g : List (Str × PyData) → Option (List PyData)) : List (Str × PyData) → Option (List PyData) := fun fs => (g fs).map (d :: ·)
def gIs (b : Bool) (g : List (Str × PyData) → Option (List PyData)) : List (Str × PyData) → Option (List PyData) := fun fs => match fs with
  | [] => (g fs).map (.bool b :: ·)
  | _ => none
theorem dx_nil : DXs X i c [] (fun _ => some []) := ⟨fun a oe C dx pn hz hf hm => ⟨tNil, pa_nil, fun ph am σ H Q fs ds hs hp hg k => by cases hg; exact k [] .nil⟩⟩
theorem dx_con {v : V} (hc : ∀ X' : Cx, PE X' e (tC v)) (hv : ∀ H, Dq X.K H v d) (h : DXs X i c es gi) (hs : starEach (e :: es) X.env = (false, eval e X.env) :: starEach es X.env := by rfl) : DXs X i c (e :: es) (gCon d gi) :=
  ⟨fun a oe C dx pn hz hf hm => by
    obtain ⟨t, p, q⟩ := h.ex a oe C dx pn hz hf hm
    refine ⟨_, pa_cons (hc _) p hs, fun ph am σ H Q fs ds hσ hp hg k => ?_⟩
    unfold gCon at hg
    cases e2 : gi fs with
    | none => rw [e2] at hg; cases hg
    | some ds2 =>
      rw [e2] at hg
      cases hg
      exact q ph am σ H _ fs ds2 hσ hp e2 fun vs dv => k (v :: vs) (.cons (hv _) dv)⟩
theorem dx_str {x : Str} {k} (h : DXs X i c es gi) (hs : starEach (.Constant (.str x) k pos :: es) X.env = (false, eval (.Constant (.str x) k pos) X.env) :: starEach es X.env := by rfl) : DXs X i c (.Constant (.str x) k pos :: es) (gCon (.str x) gi) :=
  dx_con (v := .str x) (fun _ => pe_str) (fun _ => .str x) h hs

variable {pf pn pT : Pos}
/-- isinstance(n, T), n the exception -/
theorem dx_isi {n T : Str} {b : Bool} (Tn : String) (hC : ∀ C, X.mg c = some (.ref C) → ExcC X.K C ∧ PySem.W.kitOne X.K (.ref C) (.type Tn) = some b) (hm : X.mg "isinstance" = none) (hmT : X.mg T = none) (hv : bootBuiltins T = some (.type Tn)) (h : DXs X i c es gi)
    (hN : X.N[i]? = some n := by rfl) (hvi : Vis X.env.scope n := by first | exact Or.inl rfl | exact Or.inr (Or.inl rfl) | exact Or.inr (Or.inr rfl)) (hdn : (n == ("__debug__" : Str)) = false := by decide) (hcd : (n == ("__classdict__" : Str)) = false := by decide)
    (hg : Gl X "isinstance" := by rfl) (hgT : Gl X T := by rfl) (hn : T ≠ "__name__" := by decide) (hd : (T == ("__debug__" : Str)) = false := by decide)
    (hs1 : starEach [.Name T pT] X.env = (false, eval (.Name T pT) X.env) :: starEach [] X.env := by rfl)
    (hs : starEach [.Name n pn, .Name T pT] X.env = (false, eval (.Name n pn) X.env) :: starEach [.Name T pT] X.env := by rfl) (hpl : (backTo pos (starEach [.Name T pT] X.env)).any (·.1) = false := by rfl)
    (hs0 : starEach (.Call (.Name "isinstance" pf) [.Name n pn, .Name T pT] [] pos :: es) X.env = (false, eval (.Call (.Name "isinstance" pf) [.Name n pn, .Name T pT] [] pos) X.env) :: starEach es X.env := by rfl) :
    DXs X i c (.Call (.Name "isinstance" pf) [.Name n pn, .Name T pT] [] pos :: es) (gIs b gi) :=
  ⟨fun a oe C dx q hz hf hm' => by
    obtain ⟨t, p, r⟩ := h.ex a oe C dx q hz hf hm'
    obtain ⟨hc, hk⟩ := hC C hm'
    cases dx with
    | some dd => 
      exact ⟨fun _ _ _ => False, ⟨fun _ _ _ _ _ _ _ (h : False) => h.elim⟩, fun ph am σ H Q fs ds hσ hp hg k => by
        unfold gIs at hg
        split at hg
        · rcases hp with ⟨_, z⟩ | ⟨a', vs, z, e0, _⟩
          · cases z
          · exact (e0 rfl).elim
        · cases hg⟩
    | none =>
      refine ⟨_, pa_cons (pe_callB (X := X.suite a ((a, oe) :: q)) (call_isE hc hz hf) hg hm boot_isinstance (pa_cons (pe_var hN hvi hdn hcd) (pa_cons (pe_bltn (v := .ty Tn) hgT hmT hv rfl hn hd) pa_nil hs1) hs) (by decide) (by decide) hs hpl) p hs0, fun ph am σ H Q fs ds hσ hp hg k => ?_⟩
      unfold gIs at hg
      split at hg
      · cases e2 : gi [] with
        | none => rw [e2] at hg; cases hg
        | some ds2 =>
          rw [e2] at hg
          cases hg
          exact ⟨_, hσ, .ty Tn, .type Tn, b, rfl, fun u hu => hu, hk, r ph am σ H _ [] ds2 hσ hp e2 fun vs dv => k (.bl b :: vs) (.cons (.bl b) dv)⟩
      · cases hg⟩
/-! ### try: .. except x as n: y = [..] -/
def tsOf (X : Cx) (W : WX) (g : MS) : TS := fun D σ H => ∃ ph am δ ans δ', SR X.K ph am σ H δ ∧ g δ = some (ans, δ') ∧ (∀ fl, ans = .ok fl → EndOk X.K ph am H δ' D fl) ∧ (∀ c fs, ans = .ex c fs → XPS X W ph am H δ' c fs)
theorem DSs.can {sts : List Stmt} {g : MS} (h : DSs X W sts g) : PSs X sts (tsOf X W g) := by
  obtain ⟨t, p, q⟩ := h.ex
  exact ⟨fun pins s σ H D I ⟨ph, am, δ, ans, δ', s1, e, k, kx⟩ => p.run pins s σ H D I (q ph am σ H δ D ans δ' s1 e k kx)⟩
def sTryX (c : Str) (i j : Nat) (gi : List (Str × PyData) → Option (List PyData)) (g : MS) : MS := fun δ => match g δ with
  | some (.ok fl, δ1) => some (.ok fl, δ1)
  | some (.ex c' fs, δ1) => if c' = c then (match gi fs, δ1[i]?, δ1[j]? with
    | some ds, some ci, some cj => if (ci.free && cj.free && (i != j) && decide (ds.length ≤ 1000)) = true then some (.ok .nx, (δ1.set j (.fz (.list ds))).set i .un) else none
    | _, _, _ => none) else none
  | none => none
def tCat (X : Cx) (i j : Nat) (c : Str) (gi : List (Str × PyData) → Option (List PyData)) : Addr → Value → Option Addr → TS := fun a cls dx D σ H => ∃ C ph am fs ds, cls = .ref C ∧ X.mg c = some (.ref C) ∧ σ[i]? = some (some (.ref a)) ∧ PL X.K ph am H dx fs ∧ gi fs = some ds ∧
  (∀ vs, DqAll X.K (hid ph am H) vs ds → vs.length ≤ sizeLine ∧ ∀ p, H p = none → D.nx (σ.set j (some (.ref p))) (upd H p (.lst vs)))
theorem ds_try_set {n x y : Str} {C : Addr} {py spos np pos' : Pos} {body : List Stmt} {g : MS} (hs : X.stack = X.env :: X.outer) (hfr : X.env.frame = some X.env.locals) (hN : X.N.Nodup) (tk : Takes X W) (hx : Names X x (.ref C)) (hxm : X.mg x = some (.ref C)) (hself : PySem.W.exmOne X.K (.ref C) (.ref C) = some true)
    (hb : ∀ (W' : WX) (pn : List (Addr × Obj)) (xe : Value → Shared → Prop), Takes (X.tr pn xe) W' → DSs (X.tr pn xe) W' body g) (hd : DXs X i x es gi)
    (hi : X.N[i]? = some n := by rfl) (hln : X.env.kindOf n = some .local := by rfl) (hj : X.N[j]? = some y := by rfl) (hy : Loc X.env.scope y := by first | exact Or.inl rfl | exact Or.inr rfl) (hsw : swapsWith (.List es pos) (some (.Name y py)) spos.line X.env = pure false := by rfl)
    (hf : X.fn y = true ∨ X.env.scope.names.lookup y = some .local := by first | exact .inl rfl | exact .inr rfl) :
    DS X W (.Try body [.ExceptHandler (some (.Name x np)) (some n) [.Assign [.Name y py] (.List es pos) spos] pos'] [] [] pf) (sTryX x i j gi g) := by
  refine ⟨⟨_, ps_try_as (tb := fun W' => tsOf X W' g) (ts := tCat X i j x gi) (Wout := fun _ _ _ _ => False) hs hfr hN hi hln hx takes0 (fun W' pn xe tk' _ => (hb W' pn xe tk').can) (fun a oe cls dx pn hz hv => ?_), fun ph am σ H δ D ans δ' s q k kx => ?_⟩⟩
  · refine ⟨fun pins s σ H D I h => ?_⟩
    obtain ⟨C', ph, am, fs, ds, rfl, hm, hσ, hp, hg, k⟩ := h
    obtain ⟨t, pt, qt⟩ := hd.ex a oe C' dx pn hz hv hm
    refine (pss_one (ps_set (X := X.suite a ((a, oe) :: pn)) hN hj hy (pe_lst pt) hsw hf)).run pins s σ H D I ?_
    exact qt ph am σ H _ fs ds hσ hp hg fun vs dv => k vs dv
  · unfold sTryX at q
    split at q
    · rename_i fl δ1 e1
      cases q
      exact ⟨ph, am, δ, _, _, s, e1, fun fl' z => by cases z; exact k _ rfl, fun c fs z => by cases z⟩
    · rename_i c' fs δ1 e1
      split at q
      · rename_i hc
        subst hc
        split at q
        · rename_i ds ci cj g1 g2 g3
          split at q
          · rename_i hc
            simp only [Bool.and_eq_true, bne_iff_ne, decide_eq_true_eq] at hc
            obtain ⟨⟨⟨f1, f2⟩, nij⟩, hl⟩ := hc
            cases q
            refine ⟨ph, am, δ, _, _, s, e1, fun fl' z => (by cases z), fun c fs z => ?_⟩
            cases z
            intro C' dx am' σ' H' hm st s' pl
            have hi' : i < σ'.length := by rw [s'.len]; exact (List.getElem?_eq_some_iff.mp g2).1
            rw [hxm] at hm
            cases hm
            refine ⟨true, hself, fun _ a na => ?_, fun z => by cases z⟩
            refine ⟨C, ph, am', _, ds, rfl, hxm, List.getElem?_set_self hi', pl, g1, fun vs dv => ?_⟩
            have hz : vs.length ≤ sizeLine := by rw [dv.length, sizeLine_eq]; omega
            refine ⟨hz, fun p np => ?_⟩
            have s2 := (s'.same (same_new (o := .lst vs) np))
            have s3 := s2.put g3 f2 (new_lst (fun b h => s'.hidden h) np dv)
            have g2' : (δ1.set j (.fz (.list ds)))[i]? = some ci := by rw [List.getElem?_set_ne (Ne.symm nij)]; exact g2
            have s4 := s3.unset g2' f1
            have e : ((σ'.set i (some (.ref a))).set j (some (.ref p))).set i none = (σ'.set j (some (.ref p))).set i none := by
              rw [List.set_comm _ _ (Ne.symm nij), List.set_set]
              exact List.set_comm _ _ nij
            show D.nx (((σ'.set i (some (.ref a))).set j (some (.ref p))).set i none) _
            rw [e]
            exact k _ rfl _ _ _ ((st.trans (Step.of (same_new np))).trans (step_drop.trans step_drop)) s4
          · cases q
        · cases q
      · cases q
    · cases q
end PD
end

section
set_option Elab.async false
set_option linter.all false
set_option maxRecDepth 100000
set_option maxHeartbeats 1000000
namespace PD
open PySem PySem.Spec PyProof.Rows L2
variable {X : Cx} {W : WX} {pos : Pos} {e e1 e2 e3 : Expr} {es : List Expr} {f g h : M PyData} {fs : M (List PyData)} {fb gb : M Bool}
variable {K : PySem.W.Frag} {ph : Fx} {am am' am1 : Am} {H H' H1 : Hp} {σ σ' : L2.St} {δ δ' δ1 : Sg} {a p p1 p2 : Addr} {v : V} {vs : List V} {d : PyData} {ds : List PyData} {i : Nat}
/-! ### targets that store into a list that a name owns -/
def ReadGM (X : Cx) (t : TG) (s : Tg) : Prop := ∀ (ph : Fx) (am : Am) (σ : L2.St) (H : Hp) (δ δ' : Sg) (v : V) (d : PyData) (Q : L2.St → Hp → Prop), SR X.K ph am σ H δ → Dq X.K (hid ph am H) v d → s d δ = some δ' →
  (∀ am' σ' H', Step am H am' H' → SR X.K ph am' σ' H' δ' → Q σ' H') → t v σ H Q
structure DGM (X : Cx) (tg : Expr) (s : Tg) : Prop where
  ex : ∃ t, PG X tg t ∧ ReadGM X t s
structure DGsM (X : Cx) (ts : List Expr) (s : Tgs) : Prop where
  ex : ∃ t, PGs X ts t ∧ ∀ (ph : Fx) (am : Am) (σ : L2.St) (H : Hp) (δ δ' : Sg) (vs : List V) (ds : List PyData) (Q : L2.St → Hp → Prop), SR X.K ph am σ H δ → DqAll X.K (hid ph am H) vs ds → s ds δ = some δ' →
    (∀ am' σ' H', Step am H am' H' → SR X.K ph am' σ' H' δ' → Q σ' H') → t vs σ H Q
def sSubT (i : Nat) (g : M PyData) : Tg := fun d δ => match δ[i]? with
  | some (.ow _ _) => match g δ with
    | some (.ok (.int n), δ2) => match δ2[i]? with
      | some (.ow b ds) => match ixN ds.length n with
        | some j => some (δ2.set i (.ow b (ds.set j d)))
        | none => none
      | _ => none
    | _ => none
  | _ => none
theorem dgm_sub {i : Nat} {x : Str} {pn ps' : Pos} (hk : DE X W e2 g) (hN : X.N[i]? = some x := by rfl) (hv : Vis X.env.scope x := by first | exact Or.inl rfl | exact Or.inr (Or.inl rfl) | exact Or.inr (Or.inr rfl)) (hd : (x == ("__debug__" : Str)) = false := by decide) (hcd : (x == ("__classdict__" : Str)) = false := by decide)
    (ha : ∀ v, assign (.Subscript (.Name x pn) e2 ps') X.env v = (do
      let ov ← holding [v] (eval (.Name x pn) X.env)
      let iv ← holding [v, ov] (eval e2 X.env)
      standAt ps'
      holding [v, ov, iv] (setItem ov iv v)
      release [v, ov, iv] []) := by intro _; rfl) : DGM X (.Subscript (.Name x pn) e2 ps') (sSubT i g) := by
  obtain ⟨t2, p2, q2⟩ := hk.ex
  refine ⟨⟨_, pg_sub (pe_var hN hv hd hcd) p2 set_list ha, fun ph am σ H δ δ' v d Q s dv z k => ?_⟩⟩
  unfold sSubT at z
  split at z
  · rename_i b0 ds0 e3
    obtain ⟨a0, vs0, o1, o2, o3, o4, _, _⟩ := s.ow i b0 ds0 e3
    refine ⟨.ref a0, o2, ?_⟩
    split at z
    · rename_i n δ2 e4
      refine q2 ph am σ H δ _ _ _ s e4 (fun d' ed am2 w H2 st2 s2 d2 => ?_) (fun c fs z => by cases z)
      cases ed
      split at z
      · rename_i b ds e6
        cases d2 with
        | int n =>
          obtain ⟨a1, vs1, r1, r2, r3, r4, r5, r6⟩ := s2.ow i b ds e6
          rw [o2] at r2
          cases r2
          split at z
          · rename_i j e7
            cases z
            refine ⟨a0, vs1, _, j, rfl, rfl, r3, by rw [r4.length]; exact e7, ?_⟩
            exact k am2 σ _ (st2.trans (step_mut r1 r3)) (s2.mut e6 r1 (r4.set (dp_mono st2.hid dv) j) (by rw [List.length_set]; exact r5))
          · cases z
      · cases z
    · cases z
  · cases z
theorem dgsm_nil : DGsM X [] sNil := ⟨⟨gNil, pgs_nil, fun ph am σ H δ δ' vs ds Q s dv q k => by
  cases dv with
  | nil => cases q; exact ⟨rfl, k am σ H Step.refl s⟩
  | cons _ _ => cases q⟩⟩
theorem dgsm_cons {tg : Expr} {ts : List Expr} {s : Tg} {r : Tgs} (h : DGM X tg s) (t : DGsM X ts r) (hs : (assignEach (tg :: ts) X.env).map (·.2) = assign tg X.env :: (assignEach ts X.env).map (·.2) := by rfl) : DGsM X (tg :: ts) (sCons s r) := by
  obtain ⟨t1, p1, q1⟩ := h.ex
  obtain ⟨t2, p2, q2⟩ := t.ex
  refine ⟨⟨_, pgs_cons p1 p2 hs, fun ph am σ H δ δ' vs ds Q s dv q k => ?_⟩⟩
  cases dv with
  | nil => cases q
  | cons dv dt =>
    rename_i v vs d ds
    unfold sCons at q
    simp only at q
    split at q
    · rename_i δ1 e1
      refine ⟨v, vs, rfl, q1 ph am σ H δ δ1 v d _ s dv e1 fun am1 σ1 H1 st1 s1 => ?_⟩
      exact q2 ph am1 σ1 H1 δ1 δ' vs ds Q s1 (dps_mono st1.hid dt) q fun am2 σ2 H2 st2 s2 => k am2 σ2 H2 (st1.trans st2) s2
    · cases q
theorem dgm_tup {ts : List Expr} {k n : Nat} {r : Tgs} (hc : X.calm = true) (t : DGsM X ts r) (hn : (assignEach ts X.env).length = n := by rfl) (hst : (assignEach ts X.env).findIdx? (·.1) = none := by rfl) : DGM X (.Tuple ts k pos) (sTup n r) := by
  obtain ⟨t2, p2, q2⟩ := t.ex
  refine ⟨⟨_, pg_tup hc p2 hn hst, fun ph am σ H δ δ' v d Q s dv q k => ?_⟩⟩
  cases dv with
  | tup h1 a1 =>
    unfold sTup at q
    simp only at q
    split at q
    · rename_i hl
      exact ⟨_, _, rfl, seqT_hid h1, by rw [a1.length]; exact hl, q2 ph am σ H δ δ' _ _ Q s a1 q k⟩
    · cases q
  | _ => cases q
theorem asgm_read {t : TE} {u : TG} {s : Tg} (q1 : ReadE X W t f) (q2 : ReadGM X u s) : ReadS X W (tAsg t u) (sAsg f s) := by
  intro ph am σ H δ D ans δ' sr z k kx
  rcases bnd_some z with ⟨d, δ1, e1, e2⟩ | ⟨c, fs, e1, e2⟩
  · refine q1 ph am σ H δ _ _ _ sr e1 (fun d ed am1 v H1 st1 s1 d1 => ?_) (fun c fs z => by cases z)
    cases ed
    split at e2
    · rename_i δ2 e3
      cases e2
      exact q2 ph am1 σ H1 δ1 _ v d _ s1 d1 e3 fun am2 σ2 H2 st2 s2 => k _ rfl am2 σ2 H2 (st1.trans st2) s2
    · cases e2
  · subst e2
    exact q1 ph am σ H δ _ _ _ sr e1 (fun d ed => by cases ed) (fun c' fs' z => by cases z; exact (kx _ _ rfl).at)
theorem ds_asgm {tg : Expr} {s : Tg} (he : DE X W e f) (hg : DGM X tg s) (hs : swapsWithSole [tg] e pos.line X.env = pure false := by rfl) (hw : swappedStores [tg] e X.env = pure none := by rfl)
    (h1 : (assignEach [tg] X.env).map (·.2) = [assign tg X.env] := by rfl) : DS X W (.Assign [tg] e pos) (sAsg f s) := by
  obtain ⟨t, p, q⟩ := he.ex
  obtain ⟨u, pu, qu⟩ := hg.ex
  exact ⟨⟨_, ps_asg p pu hs hw h1, asgm_read q qu⟩⟩
/-! ### any over numbers and truth values -/
def simpleD : PyData → Bool
  | .int _ => true
  | .bool _ => true
  | _ => false
def any2D : List PyData → Option PyData
  | [.list xs] => if xs.all simpleD = true then some (.bool (xs.any PyData.truthy)) else none
  | [.tuple xs] => if xs.all simpleD = true then some (.bool (xs.any PyData.truthy)) else none
  | _ => none
theorem simple_plain : ∀ {xs : List PyData}, xs.all simpleD = true → PyData.plainAll xs = true
  | [], _ => rfl
  | x :: xs, h => by
    rw [List.all_cons, Bool.and_eq_true] at h
    rw [PyData.plainAll, simple_plain h.2, Bool.and_true]
    cases x <;> first | rfl | (exact absurd h.1 Bool.false_ne_true)
theorem simple_fits {xs : List PyData} (h : xs.all simpleD = true) : ∀ x ∈ xs, x.fits63 := fun x hx => by
  have := List.all_eq_true.mp h x hx
  cases x <;> first | trivial | (exact absurd this Bool.false_ne_true)
def rAny2 (K : PySem.W.Frag) : List V → Hp → VK → Prop := fun vs H Q => ∃ v ds, vs = [v] ∧ (Dp K H v (.list ds) ∨ Dp K H v (.tuple ds)) ∧ ds.all simpleD = true ∧ Q (.bl (ds.any PyData.truthy)) H
theorem cr_any2 (hc : X.calm = true) : CallR X (.builtin "any") (rAny2 X.K) := by
  intro pins s σ H vs us Q I r h
  obtain ⟨v, ds, rfl, hd, hs, q⟩ := h
  obtain ⟨u, rfl, ru⟩ := r.one
  rcases hd with hd | hd
  · obtain ⟨as, rd⟩ := Dp.reads I _ _ _ hd ru
    cases rd with
    | list h1 h2 h3 h4 =>
      refine W.any_list_data (I.ok.hd hc) ⟨_, h1, h2, _, h3⟩ h4 (simple_plain hs) (simple_fits hs) fun h' tk hk => ?_
      exact ⟨.bl _, H, I.kept fun b o eo => hk b o eo, rfl, q⟩
  · obtain ⟨as, rd⟩ := Dp.reads I _ _ _ hd ru
    cases rd with
    | tuple h1 h2 h3 h4 =>
      refine W.any_tuple_data (I.ok.hd hc) ⟨_, h1, h2, _, h3⟩ h4 (simple_plain hs) (simple_fits hs) fun h' tk hk => ?_
      exact ⟨.bl _, H, I.kept fun b o eo => hk b o eo, rfl, q⟩
theorem calld_any2 : CallD X (rAny2 X.K) any2D := by
  intro ph am H xs ds c Q hh hd e k
  cases hd with
  | nil => cases e
  | cons d1 t1 =>
    cases t1 with
    | cons _ _ => cases d1 <;> cases e
    | nil =>
      rename_i v d
      have d2 : Dq X.K H v d := dp_mono hid_sub d1
      cases d with
      | list xs =>
        obtain ⟨hs, rfl⟩ := if_some e
        exact ⟨v, xs, rfl, .inl d2.dp, hs, k _ _ (fun _ _ h => h) (.bl _)⟩
      | tuple xs =>
        obtain ⟨hs, rfl⟩ := if_some e
        exact ⟨v, xs, rfl, .inr d2.dp, hs, k _ _ (fun _ _ h => h) (.bl _)⟩
      | _ => cases e
/-! ### max of two numbers -/
def max2D : List PyData → Option PyData
  | [.int i, .int j] => some (.int (if j > i then j else i))
  | _ => none
theorem calld_max2 : CallD X (fun xs H Q => ∃ i j, xs = [.int i, .int j] ∧ Q (.int (if j > i then j else i)) H) max2D := by
  intro ph am H xs ds c Q hh hd e k
  cases hd with
  | nil => cases e
  | cons d1 t1 =>
    cases t1 with
    | nil => cases d1 <;> cases e
    | cons d2 t2 =>
      cases t2 with
      | cons _ _ => cases d1 <;> cases d2 <;> cases e
      | nil =>
        cases d1 <;> cases d2 <;> first | (cases e; done) | skip
        cases e
        exact ⟨_, _, rfl, k _ _ (fun _ _ h => h) (.int _)⟩
def min2D : List PyData → Option PyData
  | [.int i, .int j] => some (.int (if j < i then j else i))
  | _ => none
theorem calld_min2 : CallD X (fun xs H Q => ∃ i j, xs = [.int i, .int j] ∧ Q (.int (if j < i then j else i)) H) min2D := by
  intro ph am H xs ds c Q hh hd e k
  cases hd with
  | nil => cases e
  | cons d1 t1 =>
    cases t1 with
    | nil => cases d1 <;> cases e
    | cons d2 t2 =>
      cases t2 with
      | cons _ _ => cases d1 <;> cases d2 <;> cases e
      | nil =>
        cases d1 <;> cases d2 <;> first | (cases e; done) | skip
        cases e
        exact ⟨_, _, rfl, k _ _ (fun _ _ h => h) (.int _)⟩
section
variable (hd : DA X W [e] fs)
include hd
theorem de_any2 {pf : Pos} (hm : X.mg "any" = none) (hc : X.calm = true := by rfl) (hg : Gl X "any" := by rfl) (he : starEach [e] X.env = (false, eval e X.env) :: starEach [] X.env := by rfl) (hpl : (backTo pos (starEach [] X.env)).any (·.1) = false := by rfl) : DE X W (.Call (.Name "any" pf) [e] [] pos) (xCall any2D fs) :=
  de_callB calld_any2 (cr_any2 hc) hm bb_any hd hg (by decide) (by decide) he hpl
end
theorem bb_max : bootBuiltins "max" = some (.builtin "max") := by rfl
theorem de_max2 {pf : Pos} (hd : DA X W [e1, e2] fs) (hm : X.mg "max" = none) (hc : X.calm = true := by rfl) (hg : Gl X "max" := by rfl) (he : starEach [e1, e2] X.env = (false, eval e1 X.env) :: starEach [e2] X.env := by rfl) (hpl : (backTo pos (starEach [e2] X.env)).any (·.1) = false := by rfl) : DE X W (.Call (.Name "max" pf) [e1, e2] [] pos) (xCall max2D fs) :=
  de_callB calld_max2 (call_max2 hc) hm bb_max hd hg (by decide) (by decide) he hpl
theorem bb_min : bootBuiltins "min" = some (.builtin "min") := by rfl
theorem de_min2 {pf : Pos} (hd : DA X W [e1, e2] fs) (hm : X.mg "min" = none) (hc : X.calm = true := by rfl) (hg : Gl X "min" := by rfl) (he : starEach [e1, e2] X.env = (false, eval e1 X.env) :: starEach [e2] X.env := by rfl) (hpl : (backTo pos (starEach [e2] X.env)).any (·.1) = false := by rfl) : DE X W (.Call (.Name "min" pf) [e1, e2] [] pos) (xCall min2D fs) :=
  de_callB calld_min2 (call_min2 hc) hm bb_min hd hg (by decide) (by decide) he hpl
end PD
end

section
set_option Elab.async false
set_option linter.all false
set_option maxRecDepth 100000
set_option maxHeartbeats 1000000
namespace PD
open PySem PySem.Spec PyProof.Rows L2
variable {X : Cx} {W : WX} {pos : Pos} {e e1 e2 e3 : Expr} {es : List Expr} {f g h : M PyData} {fs : M (List PyData)} {fb gb : M Bool}
variable {K : PySem.W.Frag} {ph : Fx} {am am' am1 : Am} {H H' H1 : Hp} {σ σ' : L2.St} {δ δ' δ1 : Sg} {a p p1 p2 : Addr} {v : V} {vs : List V} {d : PyData} {ds : List PyData} {i : Nat}
/-! ### x, y = a new list that x is to own, e -/
def sPar2O (fs : M (List PyData)) (g : M PyData) (i j : Nat) : MS := bnd fs fun ds => fun δ => match g δ with
  | some (.ok d, δ1) => match δ1[i]? with
    | some c => if c.free = true then (match sName j d (δ1.set i (.ow false ds)) with
      | some δ2 => some (.ok .nx, δ2)
      | none => none) else none
    | none => none
  | _ => none
theorem ds_par2O {x y : Str} {px py pt : Pos} {kt k2 pt2} (hc : X.calm = true) (hN : X.N.Nodup) (he1 : DF X W e1 fs) (he2 : DE X W e2 g) (hi : X.N[i]? = some x := by rfl) {j : Nat} (hj : X.N[j]? = some y := by rfl) (hij : i ≠ j := by decide)
    (hx : X.env.scope.names.lookup x = some .local := by rfl) (hy : X.env.scope.names.lookup y = some .local := by rfl)
    (hw : swappedStores [.Tuple [.Name x px, .Name y py] kt pt] (.Tuple [e1, e2] k2 pt2) X.env = pure (some [x, y]) := by rfl)
    (hs : swapsWithSole [.Tuple [.Name x px, .Name y py] kt pt] (.Tuple [e1, e2] k2 pt2) pos.line X.env = pure false := by rfl)
    (hs1 : starEach [e1, e2] X.env = (false, eval e1 X.env) :: starEach [e2] X.env := by rfl) (hs2 : starEach [e2] X.env = (false, eval e2 X.env) :: starEach [] X.env := by rfl) : DS X W (.Assign [.Tuple [.Name x px, .Name y py] kt pt] (.Tuple [e1, e2] k2 pt2) pos) (sPar2O fs g i j) := by
  obtain ⟨t1, p1, q1⟩ := he1.ex
  obtain ⟨t2, p2, q2⟩ := he2.ex
  refine ⟨⟨_, ps_par hc hN hi hj hij hx hy (pa_cons p1 (pa_cons p2 pa_nil hs2) hs1) hw hs, fun ph am σ H δ D ans δ' s z k kx => ?_⟩⟩
  rcases bnd_some z with ⟨ds, δ1, e1, e2⟩ | ⟨c, fs, e1, e2⟩
  · refine q1 ph am σ H δ _ _ _ s e1 (fun d' ed am1 p vs H1 n0 n1 st1 s1 dv hz => ?_) (fun c fs z => by cases z)
    cases ed
    have np : ∀ l, am1 l ≠ some p := fun l h => by
      obtain ⟨o, z⟩ := s1.hidden (.inr ⟨l, h⟩)
      rw [n1] at z; cases z
    have nph : ¬ ph.ph p := fun h => s1.new n1 (.inl h)
    have s1' : SR X.K (ph.also p) am1 σ (upd H1 p (.lst vs)) δ1 := SR.also (by rw [del_new n1]; exact s1) upd_same
    split at e2
    · rename_i d δ2 e3
      refine q2 (ph.also p) am1 σ _ δ1 _ _ _ s1' e3 (fun d' ed am2 w H2 st2 s2 d2 => ?_) (fun c fs z => by cases z)
      cases ed
      have hp2 : H2 p = some (.lst vs) := st2.keep p _ upd_same np
      have np2 : ∀ l, am2 l ≠ some p := fun l h => (s2.amf l p h).1 (.inr rfl)
      have s3 : SR X.K ph am2 σ (del p H2) δ2 := s2.unalso nph
      rw [hid_also] at d2
      have st3 : Step am1 H1 am2 (del p H2) := by
        have := st2.del np2
        rw [del_new n1] at this
        exact this
      have dv2 : DqAll X.K (hid ph am2 (del p H2)) vs ds := dps_mono st3.hid dv
      split at e2
      · rename_i c e5
        split at e2
        · rename_i h1
          split at e2
          · rename_i δ3 n3
            cases e2
            obtain ⟨c1, f1, f2, rfl⟩ := sName_some n3
            have s4 := s3.putOwn (p := p) e5 h1 del_same dv2 hz
            have st4 : Step am2 (del p H2) (amPut am2 i p) (upd (del p H2) p (.lst vs)) := step_put del_same
            have d4 := dp_mono st4.hid d2
            rw [upd_del hp2] at s4 st4 d4
            have s5 := s4.put f1 f2 d4
            exact ⟨_, _, rfl, k _ rfl _ _ H2 (((st1.trans st3).trans st4).trans step_drop) s5⟩
          · cases e2
        · cases e2
      · cases e2
    · cases e2
  · subst e2
    exact q1 ph am σ H δ _ _ _ s e1 (fun d ed => by cases ed) (fun c' fs' z => by cases z; exact (kx _ _ rfl).at)
/-! ### xs.pop(k), xs owned -/
def xPopO (i : Nat) (g : M PyData) : M PyData := fun δ => match δ[i]? with
  | some (.ow _ _) => (bnd g fun k => fun δ1 => match δ1[i]?, k with
    | some (.ow b ds), .int n => if 0 ≤ n ∧ n < ds.length ∧ n < 2 ^ 63 then (match ds[n.toNat]? with
      | some d => some (.ok d, δ1.set i (.ow b (ds.eraseIdx n.toNat)))
      | none => none) else none
    | _, _ => none) δ
  | _ => none
theorem DqAll.erase : ∀ {vs : List V} {ds : List PyData}, DqAll K H vs ds → ∀ n : Nat, DqAll K H (vs.eraseIdx n) (ds.eraseIdx n)
  | _, _, .nil, _ => by simp; exact .nil
  | _, _, .cons h t, 0 => by simpa using t
  | _, _, .cons h t, n + 1 => by simpa using .cons h (DqAll.erase t n)
theorem hid_mut {o : HO} (h1 : am i = some a) : hid ph am (upd H a o) = hid ph am H := hid_own h1
theorem de_popO {i : Nat} {x : Str} {pn apos cpos : Pos} (he : DE X W e g) (hN : X.N[i]? = some x := by rfl) (hv : Vis X.env.scope x := by first | exact Or.inl rfl | exact Or.inr (Or.inl rfl) | exact Or.inr (Or.inr rfl)) (hd : (x == ("__debug__" : Str)) = false := by decide) (hcd : (x == ("__classdict__" : Str)) = false := by decide)
    (hs0 : starEach [e] X.env = (false, eval e X.env) :: starEach [] X.env := by rfl)
    (hbase : attributeBase (.Name x pn) "pop" X.env (eval (.Name x pn) X.env) = eval (.Name x pn) X.env := by rfl)
    (hfew : ((backTo cpos (starEach [e] X.env)).all (fun x => !x.1) && (backToKw cpos (keywordEach [] X.env)).all (fun x => x.1.isSome)
      && decide (([e] : List Expr).length + ([] : List Keyword).length + (if ([] : List Keyword).isEmpty then 0 else 1) < 30)) = true := by rfl)
    (hline : (apos.endLine == cpos.line) = true := by rfl) (hplain : (backTo cpos (starEach [] X.env)).any (·.1) = false := by rfl) : DE X W (.Call (.Attribute (.Name x pn) "pop" apos) [e] [] cpos) (xPopO i g) := by
  obtain ⟨t, p, q⟩ := he.ex
  refine ⟨⟨_, pe_bm PySem.F.plainAttrs_list PySem.F.slot_list_pop PySem.F.type_list_pop mt_popAt (pe_var hN hv hd hcd) (pa_cons p pa_nil hs0) hbase hfew hline hs0 hplain, fun ph am σ H δ Q ans δ' sr z k kx => ?_⟩⟩
  unfold xPopO at z
  split at z
  · rename_i b0 ds0 e3
    obtain ⟨a0, vs0, o1, o2, o3, o4, _, _⟩ := sr.ow i b0 ds0 e3
    refine ⟨.ref a0, o2, .inl ⟨rfl, _, .inl (.inl o3)⟩, ?_⟩
    rcases bnd_some z with ⟨d, δ2, e4, e5⟩ | ⟨c, fs, e4, e5⟩
    · refine q ph am σ H δ _ _ _ sr e4 (fun d ed am2 w H2 st2 s2 d2 => ?_) (fun c fs z => by cases z)
      cases ed
      split at e5
      · rename_i b ds n e6
        obtain ⟨a1, vs1, r1, r2, r3, r4, r5, r6⟩ := s2.ow i b ds e6
        rw [o2] at r2
        cases r2
        cases d2
        split at e5
        · rename_i hn
          split at e5
          · rename_i dd e7
            cases e5
            obtain ⟨y, g1, g2⟩ := DqAll.get r4 e7
            refine ⟨a0, vs1, n, n.toNat, y, rfl, rfl, r3, by omega, hn.2.2, ?_, g1, ?_⟩
            · unfold seqIndex?
              have := r4.length
              have h0 := hn.1
              have h1 := hn.2.1
              simp only [show ¬ n < 0 by omega, if_false]
              rw [if_pos (by simp only [Bool.and_eq_true, decide_eq_true_eq]; omega)]
            · exact k _ rfl am2 y _ (st2.trans (step_mut r1 r3)) (s2.mut e6 r1 (DqAll.erase r4 _) (by have := List.length_eraseIdx_le vs1 n.toNat; omega)) (by rw [hid_mut r1]; exact g2)
          · cases e5
        · cases e5
      · cases e5
    · subst e5
      exact q ph am σ H δ _ _ _ sr e4 (fun d ed => by cases ed) (fun c' fs' z => by cases z; exact kx _ _ rfl)
  · cases z
/-! ### xs.insert(k, e), xs owned -/
def sInsO (i : Nat) (fs : M (List PyData)) : MS := fun δ => match δ[i]? with
  | some (.ow _ _) => (bnd fs fun es => fun δ1 => match δ1[i]?, es with
    | some (.ow b ds), [.int n, d] => if ds.length < sizeLine ∧ 0 ≤ n ∧ n < 2 ^ 63 then some (.ok .nx, δ1.set i (.ow b (ds.take n.toNat ++ [d] ++ ds.drop n.toNat))) else none
    | _, _ => none) δ
  | _ => none
theorem ds_insO {i : Nat} {x : Str} {pn apos cpos : Pos} (he : DA X W [e1, e2] fs) (hN : X.N[i]? = some x := by rfl) (hv : Vis X.env.scope x := by first | exact Or.inl rfl | exact Or.inr (Or.inl rfl) | exact Or.inr (Or.inr rfl)) (hd : (x == ("__debug__" : Str)) = false := by decide) (hcd : (x == ("__classdict__" : Str)) = false := by decide)
    (hs0 : starEach [e1, e2] X.env = (false, eval e1 X.env) :: starEach [e2] X.env := by rfl)
    (hbase : attributeBase (.Name x pn) "insert" X.env (eval (.Name x pn) X.env) = eval (.Name x pn) X.env := by rfl)
    (hfew : ((backTo cpos (starEach [e1, e2] X.env)).all (fun x => !x.1) && (backToKw cpos (keywordEach [] X.env)).all (fun x => x.1.isSome)
      && decide (([e1, e2] : List Expr).length + ([] : List Keyword).length + (if ([] : List Keyword).isEmpty then 0 else 1) < 30)) = true := by rfl)
    (hline : (apos.endLine == cpos.line) = true := by rfl) (hplain : (backTo cpos (starEach [e2] X.env)).any (·.1) = false := by rfl)
    (hs : swapsWith (.Call (.Attribute (.Name x pn) "insert" apos) [e1, e2] [] cpos) none pos.line X.env = pure false := by rfl) : DS X W (.Expr (.Call (.Attribute (.Name x pn) "insert" apos) [e1, e2] [] cpos) pos) (sInsO i fs) := by
  obtain ⟨t, p, q⟩ := he.ex
  refine ⟨⟨_, ps_expr (pe_bm PySem.F.plainAttrs_list PySem.F.slot_list_insert PySem.F.type_list_insert mt_insert (pe_var hN hv hd hcd) p hbase hfew hline hs0 hplain) hs, fun ph am σ H δ D ans δ' sr z k kx => ?_⟩⟩
  unfold sInsO at z
  split at z
  · rename_i b0 ds0 e3
    obtain ⟨a0, vs0, o1, o2, o3, o4, _, _⟩ := sr.ow i b0 ds0 e3
    refine ⟨.ref a0, o2, .inl ⟨rfl, _, .inl (.inl o3)⟩, ?_⟩
    rcases bnd_some z with ⟨es, δ2, e4, e5⟩ | ⟨c, fs, e4, e5⟩
    · refine q ph am σ H δ _ _ _ sr e4 (fun d' ed am2 ws H2 st2 s2 d2 => ?_) (fun c fs z => by cases z)
      cases ed
      split at e5
      · rename_i b ds n d e6
        obtain ⟨a1, vs1, r1, r2, r3, r4, r5, r6⟩ := s2.ow i b ds e6
        rw [o2] at r2
        cases r2
        obtain ⟨hz, e8⟩ := if_some e5
        cases e8
        cases d2 with
        | cons x1 x2 =>
          cases x2 with
          | cons y1 y2 =>
            cases y2
            cases x1
            have hl := r4.length
            refine ⟨a0, vs1, n, _, rfl, rfl, r3, by omega, hz.2.1, hz.2.2, ?_⟩
            exact k _ rfl am2 σ _ (st2.trans (step_mut r1 r3)) (s2.mut e6 r1 (((r4.take n.toNat).append (.cons y1 .nil)).append (r4.drop n.toNat)) (by simp only [List.length_append, List.length_take, List.length_drop, List.length_singleton]; omega))
      · cases e5
    · subst e5
      exact q ph am σ H δ _ _ _ sr e4 (fun d ed => by cases ed) (fun c' fs' z => by cases z; exact (kx _ _ rfl).at)
  · cases z
/-! ### xs[::-1], xs owned: a new list -/
def xRevO (i : Nat) : M (List PyData) := fun δ => match δ[i]? with
  | some (.ow _ ds) => some (.ok ds.reverse, δ)
  | _ => none
theorem df_revO {i : Nat} {x : Str} {pn : Pos} {k1 : Nat} {p1 p2 p3 : Pos} (hN : X.N[i]? = some x := by rfl) (hv : Vis X.env.scope x := by first | exact Or.inl rfl | exact Or.inr (Or.inl rfl) | exact Or.inr (Or.inr rfl)) (hd : (x == ("__debug__" : Str)) = false := by decide) (hcd : (x == ("__classdict__" : Str)) = false := by decide) :
    DF X W (.Subscript (.Name x pn) (.Slice none none (some (.UnaryOp .USub (.Constant (.int 1) k1 p1) p2)) p3) pos) (xRevO i) := by
  refine ⟨⟨_, pe_revL (pe_var hN hv hd hcd), fun ph am σ H δ Q ans δ' sr z k kx => ?_⟩⟩
  unfold xRevO at z
  split at z
  · rename_i b0 ds0 e3
    cases z
    obtain ⟨a0, vs0, o1, o2, o3, o4, o5, _⟩ := sr.ow i b0 ds0 e3
    refine ⟨.ref a0, o2, a0, vs0, rfl, .inl (.inl o3), fun p np => ?_⟩
    exact k _ rfl am p _ H np np Step.refl sr o4.rev (by rw [List.length_reverse]; exact o5)
  · cases z
end PD
end

section
set_option Elab.async false
set_option linter.all false
set_option maxRecDepth 100000
set_option maxHeartbeats 1000000
namespace PD
open PySem PySem.Spec PyProof.Rows L2
variable {X : Cx} {W : WX} {pos : Pos} {e e1 e2 e3 : Expr} {es : List Expr} {f g h : M PyData} {fs : M (List PyData)} {fb gb : M Bool}
variable {K : PySem.W.Frag} {ph : Fx} {am am' am1 : Am} {H H' H1 : Hp} {σ σ' : L2.St} {δ δ' δ1 : Sg} {a p p1 p2 : Addr} {v : V} {vs : List V} {d : PyData} {ds : List PyData} {i : Nat}
theorem step_new {am : Am} {H : Hp} {u : HO} (n : H p = none) : Step am H am (upd H p u) := Step.of (same_new n)
/-- .. where a tuple is made of them first -/
theorem ds_tup2O {x y : Str} {px py pt : Pos} {kt k2 pt2} (hc : X.calm = true) (hN : X.N.Nodup) (he1 : DF X W e1 fs) (he2 : DE X W e2 g) (hi : X.N[i]? = some x := by rfl) {j : Nat} (hj : X.N[j]? = some y := by rfl)
    (hx : Loc X.env.scope x := by first | exact Or.inl rfl | exact Or.inr rfl) (hy : Loc X.env.scope y := by first | exact Or.inl rfl | exact Or.inr rfl)
    (hfx : X.fn x = true ∨ X.env.scope.names.lookup x = some .local := by first | exact .inl rfl | exact .inr rfl) (hfy : X.fn y = true ∨ X.env.scope.names.lookup y = some .local := by first | exact .inl rfl | exact .inr rfl)
    (hs : swapsWithSole [.Tuple [.Name x px, .Name y py] kt pt] (.Tuple [e1, e2] k2 pt2) pos.line X.env = pure false := by rfl)
    (hw : swappedStores [.Tuple [.Name x px, .Name y py] kt pt] (.Tuple [e1, e2] k2 pt2) X.env = pure none := by rfl)
    (h1 : (assignEach [.Tuple [.Name x px, .Name y py] kt pt] X.env).map (·.2) = [assign (.Tuple [.Name x px, .Name y py] kt pt) X.env] := by rfl)
    (g1 : (assignEach [.Name x px, .Name y py] X.env).map (·.2) = assign (.Name x px) X.env :: (assignEach [.Name y py] X.env).map (·.2) := by rfl) (g2 : (assignEach [.Name y py] X.env).map (·.2) = assign (.Name y py) X.env :: (assignEach [] X.env).map (·.2) := by rfl)
    (hn : (assignEach [.Name x px, .Name y py] X.env).length = 2 := by rfl) (hst : (assignEach [.Name x px, .Name y py] X.env).findIdx? (·.1) = none := by rfl)
    (hs1 : starEach [e1, e2] X.env = (false, eval e1 X.env) :: starEach [e2] X.env := by rfl) (hs2 : starEach [e2] X.env = (false, eval e2 X.env) :: starEach [] X.env := by rfl) : DS X W (.Assign [.Tuple [.Name x px, .Name y py] kt pt] (.Tuple [e1, e2] k2 pt2) pos) (sPar2O fs g i j) := by
  obtain ⟨t1, p1, q1⟩ := he1.ex
  obtain ⟨t2, p2, q2⟩ := he2.ex
  refine ⟨⟨_, ps_asg (pe_tup (pa_cons p1 (pa_cons p2 pa_nil hs2) hs1)) (pg_tup hc (pgs_cons (pg_name hN hi hx hfx) (pgs_cons (pg_name hN hj hy hfy) pgs_nil g2) g1) hn hst) hs hw h1, fun ph am σ H δ D ans δ' s z k kx => ?_⟩⟩
  rcases bnd_some z with ⟨ds, δ1, e1, e2⟩ | ⟨c, fs, e1, e2⟩
  · refine q1 ph am σ H δ _ _ _ s e1 (fun d' ed am1 p vs H1 n0 n1 st1 s1 dv hz => ?_) (fun c fs z => by cases z)
    cases ed
    have np : ∀ l, am1 l ≠ some p := fun l h => by
      obtain ⟨o, z⟩ := s1.hidden (.inr ⟨l, h⟩)
      rw [n1] at z; cases z
    have nph : ¬ ph.ph p := fun h => s1.new n1 (.inl h)
    have s1' : SR X.K (ph.also p) am1 σ (upd H1 p (.lst vs)) δ1 := SR.also (by rw [del_new n1]; exact s1) upd_same
    split at e2
    · rename_i d δ2 e3
      refine q2 (ph.also p) am1 σ _ δ1 _ _ _ s1' e3 (fun d' ed am2 w H2 st2 s2 d2 => ?_) (fun c fs z => by cases z)
      cases ed
      refine ⟨by simp only [List.length_cons, List.length_nil]; rw [sizeLine_eq]; omega, fun q nq => ?_⟩
      have s2' := s2.same (same_new (o := HO.tup [.ref p, w]) nq)
      have st2' := st2.trans (step_new (am := am2) (u := HO.tup [.ref p, w]) nq)
      have d2' := dp_mono (hid_same (ph := ph.also p) (am := am2) (same_new (o := HO.tup [.ref p, w]) nq)) d2
      generalize eH3 : upd H2 q (HO.tup [.ref p, w]) = H3 at s2' st2' d2'
      have hp2 : H3 p = some (.lst vs) := st2'.keep p _ upd_same np
      have np2 : ∀ l, am2 l ≠ some p := fun l h => (s2'.amf l p h).1 (.inr rfl)
      have s3 : SR X.K ph am2 σ (del p H3) δ2 := s2'.unalso nph
      rw [hid_also] at d2'
      have st3 : Step am1 H1 am2 (del p H3) := by
        have := st2'.del np2
        rw [del_new n1] at this
        exact this
      have dv2 : DqAll X.K (hid ph am2 (del p H3)) vs ds := dps_mono st3.hid dv
      split at e2
      · rename_i c e5
        split at e2
        · rename_i h1
          split at e2
          · rename_i δ3 n3
            cases e2
            obtain ⟨c1, f1, f2, rfl⟩ := sName_some n3
            have s4 := s3.putOwn (p := p) e5 h1 del_same dv2 hz
            have st4 : Step am2 (del p H3) (amPut am2 i p) (upd (del p H3) p (.lst vs)) := step_put del_same
            have d4 := dp_mono st4.hid d2'
            rw [upd_del hp2] at s4 st4 d4
            have s5 := s4.put f1 f2 d4
            refine ⟨q, _, rfl, .inl (.inl (by rw [← eH3]; exact upd_same)), rfl, _, _, rfl, _, _, rfl, rfl, ?_⟩
            exact k _ rfl _ _ H3 (((st1.trans st3).trans st4).trans step_drop) s5
          · cases e2
        · cases e2
      · cases e2
    · cases e2
  · subst e2
    exact q1 ph am σ H δ _ _ _ s e1 (fun d ed => by cases ed) (fun c' fs' z => by cases z; exact (kx _ _ rfl).at)
end PD
end

section
set_option Elab.async false
set_option linter.all false
set_option maxRecDepth 100000
set_option maxHeartbeats 1000000
namespace PD
open PySem PySem.Spec PyProof.Rows L2
variable {X : Cx} {W : WX} {pos : Pos} {e e1 e2 e3 : Expr} {es : List Expr} {f g h : M PyData} {fs : M (List PyData)} {fb gb : M Bool}
variable {K : PySem.W.Frag} {ph : Fx} {am am' am1 : Am} {H H' H1 : Hp} {σ σ' : L2.St} {δ δ' δ1 : Sg} {a p p1 p2 : Addr} {v : V} {vs : List V} {d : PyData} {ds : List PyData} {i : Nat}

/-! ### x in xs, xs a list -/
def inD (a b : PyData) : Option PyData := match b with
  | .list ds => if SeqAt.shaped a = true ∧ SeqAt.shaped (.list ds) = true then some (.bool (ds.any fun z => PyData.eqv z a)) else none
  | _ => none
def ninD (a b : PyData) : Option PyData := match b with
  | .list ds => if SeqAt.shaped a = true ∧ SeqAt.shaped (.list ds) = true then some (.bool (!ds.any fun z => PyData.eqv z a)) else none
  | _ => none
theorem opd_in : OpD X (rInD X.K) inD := by
  intro ph am H x y d e c Q hn dx dy q k
  unfold inD at q
  split at q
  · obtain ⟨⟨h1, h2⟩, rfl⟩ := if_some q
    exact ⟨d, _, (dp_mono hid_sub dx).dp, (dp_mono hid_sub dy).dp, h1, h2, k _ H (Same.refl H) (.bl _)⟩
  · cases q
theorem opd_nin : OpD X (rNotInD X.K) ninD := by
  intro ph am H x y d e c Q hn dx dy q k
  unfold ninD at q
  split at q
  · obtain ⟨⟨h1, h2⟩, rfl⟩ := if_some q
    exact ⟨d, _, (dp_mono hid_sub dx).dp, (dp_mono hid_sub dy).dp, h1, h2, k _ H (Same.refl H) (.bl _)⟩
  · cases q
theorem dt_in (hu : X.A.units + 65 < cLine) (ha : DE X W e1 f) (hb : DE X W e2 g) (hm : behindInMarks .In e2 = false := by rfl) : DT X W (.Compare e1 [.In] [e2] pos) (xBool (xBin inD f g)) := dt_cmp opd_in (op_inD hu) hm ha hb
theorem dt_notin (hu : X.A.units + 65 < cLine) (ha : DE X W e1 f) (hb : DE X W e2 g) (hm : behindInMarks .NotIn e2 = false := by rfl) : DT X W (.Compare e1 [.NotIn] [e2] pos) (xBool (xBin ninD f g)) := dt_cmp opd_nin (op_notInD hu) hm ha hb

/-! ### keys -/
def keyOf : PyData → Option Key
  | .int i => some (.inl i)
  | .str s => some (.inr s)
  | _ => none
theorem keyOf_eq {H : Hp} {k : Key} (h : Dq K H v d) (e : keyOf d = some k) : v = kV k := by
  cases h <;> cases e <;> rfl
def keysL : List PyData → Option (List Key)
  | [] => some []
  | d :: ds => match keyOf d, keysL ds with
    | some k, some ks => some (k :: ks)
    | _, _ => none
theorem keysL_eq {H : Hp} : ∀ {vs : List V} {ds : List PyData} {ks : List Key}, DqAll K H vs ds → keysL ds = some ks → vs = ks.map kV
  | _, _, _, .nil, e => by cases e; rfl
  | _, _, _, .cons h t, e => by
    unfold keysL at e
    split at e
    · rename_i k ks e1 e2
      cases e
      rw [List.map_cons, keyOf_eq h e1, keysL_eq t e2]
    · cases e
def keysOf : PyData → Option (List Key)
  | .tuple ds => keysL ds
  | _ => none
theorem keysOf_eq {ks : List Key} (h : Dq K (hid ph am H) v d) (e : keysOf d = some ks) : ∃ b, v = .ref b ∧ H b = some (.tup (ks.map kV)) := by
  cases h with
  | tup h1 a1 => exact ⟨_, rfl, by rw [← keysL_eq a1 e]; exact hid_sub _ _ h1⟩
  | _ => cases e

/-! ### what a dict holds -/
section
variable {κ : Type} [DecidableEq κ]
def getA (kvs : List (κ × PyData)) (k : κ) : Option PyData := (kvs.find? fun kv => decide (kv.1 = k)).map (·.2)
def putA (kvs : List (κ × PyData)) (k : κ) (d : PyData) : List (κ × PyData) :=
  if (kvs.any fun kv => decide (kv.1 = k)) then kvs.map fun kv => if kv.1 = k then (kv.1, d) else kv else kvs ++ [(k, d)]
def KR (K : PySem.W.Frag) (H : Hp) (vs : List (κ × V)) (kvs : List (κ × PyData)) : Prop := vs.map (·.1) = kvs.map (·.1) ∧ DqAll K H (vs.map (·.2)) (kvs.map (·.2))
theorem KR.cons_inv {H : Hp} {q : κ × PyData} {kvs : List (κ × PyData)} {vs : List (κ × V)} (h : KR K H vs (q :: kvs)) : ∃ w us, vs = (q.1, w) :: us ∧ Dq K H w q.2 ∧ KR K H us kvs := by
  obtain ⟨h1, h2⟩ := h
  cases vs with
  | nil => cases h1
  | cons u us =>
    rw [List.map_cons, List.map_cons] at h1 h2
    cases h2 with
    | cons g1 g2 =>
      obtain ⟨e1, e2⟩ := List.cons.inj h1
      exact ⟨u.2, us, by rw [← e1], g1, e2, g2⟩
theorem KR.nil_inv {H : Hp} {vs : List (κ × V)} (h : KR K H vs []) : vs = [] := by
  have := h.1
  simpa using this
theorem KR.cons {H : Hp} {k : κ} {w : V} {d : PyData} {kvs : List (κ × PyData)} {vs : List (κ × V)} (g : Dq K H w d) (h : KR K H vs kvs) : KR K H ((k, w) :: vs) ((k, d) :: kvs) :=
  ⟨by rw [List.map_cons, List.map_cons, h.1], .cons g h.2⟩
theorem KR.any {H : Hp} {kvs : List (κ × PyData)} {vs : List (κ × V)} (h : KR K H vs kvs) (k : κ) : (vs.any fun kv => decide (kv.1 = k)) = kvs.any fun kv => decide (kv.1 = k) := by
  have e1 : (vs.any fun kv => decide (kv.1 = k)) = (vs.map (·.1)).any fun x => decide (x = k) := by rw [List.any_map]; rfl
  have e2 : (kvs.any fun kv => decide (kv.1 = k)) = (kvs.map (·.1)).any fun x => decide (x = k) := by rw [List.any_map]; rfl
  rw [e1, e2, h.1]
theorem KR.get {H : Hp} : ∀ {kvs : List (κ × PyData)} {vs : List (κ × V)} (k : κ), KR K H vs kvs → (getA kvs k = none ∧ valV vs k = none) ∨ ∃ w d, getA kvs k = some d ∧ valV vs k = some w ∧ Dq K H w d
  | [], vs, k, h => by
    cases h.nil_inv
    exact .inl ⟨rfl, rfl⟩
  | q :: kvs, vs, k, h => by
    obtain ⟨w, us, rfl, g1, g2⟩ := h.cons_inv
    by_cases e : q.1 = k
    · refine .inr ⟨w, q.2, ?_, ?_, g1⟩
      · simp [getA, List.find?_cons, e]
      · rw [valV_pos (p := (q.1, w)) e]
    · rcases KR.get k g2 with ⟨a1, a2⟩ | ⟨w', d', a1, a2, a3⟩
      · refine .inl ⟨?_, ?_⟩
        · simpa [getA, List.find?_cons, e] using a1
        · rw [valV_neg (p := (q.1, w)) e]; exact a2
      · refine .inr ⟨w', d', ?_, ?_, a3⟩
        · simpa [getA, List.find?_cons, e] using a1
        · rw [valV_neg (p := (q.1, w)) e]; exact a2
theorem KR.repl {H : Hp} {w : V} {d : PyData} (g : Dq K H w d) (k : κ) : ∀ {kvs : List (κ × PyData)} {vs : List (κ × V)}, KR K H vs kvs →
    KR K H (vs.map fun kv => if kv.1 = k then (kv.1, w) else kv) (kvs.map fun kv => if kv.1 = k then (kv.1, d) else kv)
  | [], vs, h => by
    cases h.nil_inv
    exact h
  | q :: kvs, vs, h => by
    obtain ⟨w', us, rfl, g1, g2⟩ := h.cons_inv
    rw [List.map_cons, List.map_cons]
    by_cases e : q.1 = k
    · rw [if_pos e, if_pos e]
      exact .cons g (KR.repl g k g2)
    · rw [if_neg e, if_neg e]
      exact .cons g1 (KR.repl g k g2)
theorem KR.snoc {H : Hp} {w : V} {d : PyData} (g : Dq K H w d) (k : κ) {kvs : List (κ × PyData)} {vs : List (κ × V)} (h : KR K H vs kvs) : KR K H (vs ++ [(k, w)]) (kvs ++ [(k, d)]) :=
  ⟨by rw [List.map_append, List.map_append, h.1]; rfl, by rw [List.map_append, List.map_append]; exact h.2.append (.cons g .nil)⟩
theorem KR.put {H : Hp} {w : V} {d : PyData} (g : Dq K H w d) (k : κ) {kvs : List (κ × PyData)} {vs : List (κ × V)} (h : KR K H vs kvs) : KR K H (putK vs k w) (putA kvs k d) := by
  unfold putK putA
  rw [h.any k]
  split
  · exact h.repl g k
  · exact h.snoc g k
theorem KR.len {H : Hp} {kvs : List (κ × PyData)} {vs : List (κ × V)} (h : KR K H vs kvs) : vs.length = kvs.length := by
  have := congrArg List.length h.1
  simpa using this
end
end PD
end

section
set_option Elab.async false
set_option linter.all false
set_option maxRecDepth 100000
set_option maxHeartbeats 1000000
namespace PD
open PySem PySem.Spec PyProof.Rows L2
variable {X : Cx} {W : WX} {pos : Pos} {e e1 e2 e3 : Expr} {es : List Expr} {f g h : M PyData} {fs : M (List PyData)} {fb gb : M Bool}
variable {K : PySem.W.Frag} {ph : Fx} {am am' am1 : Am} {H H' H1 : Hp} {σ σ' : L2.St} {δ δ' δ1 : Sg} {a p p1 p2 : Addr} {v : V} {vs : List V} {d : PyData} {ds : List PyData} {i : Nat} {u : HO} {o : DiO}

/-! ### a dict of one's own: made, changed -/
theorem step_putU (n : H p = none) : Step am H (amPut am i p) (upd H p u) :=
  ⟨fun b o h _ => same_new n b o h, fun j a h => by
    by_cases hj : j = i
    · subst hj
      rw [amPut_same] at h
      cases h
      exact .inr n
    · rw [amPut_ne hj] at h
      exact .inl ⟨j, h⟩, fun b o h => ⟨o, same_new n b o h⟩⟩
theorem step_mutU (h : am i = some a) {u' : HO} (e : H a = some u') : Step am H am (upd H a u) :=
  ⟨fun b o q n => by rw [upd_ne (fun z => n i (by rw [z]; exact h))]; exact q, fun j b q => .inl ⟨j, q⟩, fun b o q => by
    by_cases z : b = a
    · subst z
      exact ⟨_, upd_same⟩
    · exact ⟨o, by rw [upd_ne z]; exact q⟩⟩
theorem SR.putDi (s : SR K ph am σ H δ) {c : Cell} (e : δ[i]? = some c) (hc : c.free = true) (n : H p = none) (dv : DOR K p (hid ph am H) u o) :
    SR K ph (amPut am i p) (σ.set i (some (.ref p))) (upd H p u) (δ.set i (.od o)) := by
  have st : Step am H (amPut am i p) (upd H p u) := step_putU n
  have hi : i < δ.length := (List.getElem?_eq_some_iff.mp e).1
  have hσ : i < σ.length := by rw [s.len]; exact hi
  have np : ¬ Hid ph am p := s.new n
  refine ⟨by rw [List.length_set, List.length_set, s.len], fun j d' q => ?_, fun j b' ds' q => ?_, fun j a' q => ?_, fun j k a' q1 q2 => ?_, fun b hb => ?_, fun j a' q => ?_, fun j o' q => ?_⟩
  · by_cases hj : j = i
    · subst hj
      rw [List.getElem?_set_self hi] at q
      cases q
    · rw [List.getElem?_set_ne (Ne.symm hj)] at q
      obtain ⟨v', h1, h2⟩ := s.fz j d' q
      exact ⟨v', by rw [List.getElem?_set_ne (Ne.symm hj)]; exact h1, dp_mono st.hid h2⟩
  · by_cases hj : j = i
    · subst hj
      rw [List.getElem?_set_self hi] at q
      cases q
    · rw [List.getElem?_set_ne (Ne.symm hj)] at q
      obtain ⟨a2, vs2, h1, h2, h3, h4, h5, h6⟩ := s.ow j b' ds' q
      exact ⟨a2, vs2, by rw [amPut_ne hj]; exact h1, by rw [List.getElem?_set_ne (Ne.symm hj)]; exact h2, same_new n _ _ h3, dps_mono st.hid h4, h5, h6⟩
  · by_cases hj : j = i
    · subst hj
      rw [amPut_same] at q
      cases q
      exact ⟨fun z => np (.inl z), .od o, List.getElem?_set_self hi, trivial⟩
    · rw [amPut_ne hj] at q
      obtain ⟨h1, c', h2, h3⟩ := s.amf j a' q
      exact ⟨h1, c', by rw [List.getElem?_set_ne (Ne.symm hj)]; exact h2, h3⟩
  · by_cases hj : j = i
    · by_cases hk : k = i
      · rw [hj, hk]
      · rw [hj, amPut_same] at q1
        cases q1
        rw [amPut_ne hk] at q2
        exact (np (.inr ⟨k, q2⟩)).elim
    · by_cases hk : k = i
      · rw [hk, amPut_same] at q2
        cases q2
        rw [amPut_ne hj] at q1
        exact (np (.inr ⟨j, q1⟩)).elim
      · rw [amPut_ne hj] at q1
        rw [amPut_ne hk] at q2
        exact s.inj j k a' q1 q2
  · obtain ⟨o', h1, m⟩ := s.phs b hb
    exact ⟨o', same_new n _ _ h1, m⟩
  · have hj : j ≠ i := fun z => by
      subst z
      rw [s.nba e hc] at q
      cases q
    rw [amPut_ne hj]
    exact s.bas j a' q
  · by_cases hj : j = i
    · subst hj
      rw [List.getElem?_set_self hi] at q
      cases q
      exact ⟨p, u, amPut_same, List.getElem?_set_self hσ, upd_same, dor_mono st.hid dv, s.nba e hc⟩
    · rw [List.getElem?_set_ne (Ne.symm hj)] at q
      obtain ⟨a2, u2, h1, h2, h3, h4, h5⟩ := s.od j o' q
      exact ⟨a2, u2, by rw [amPut_ne hj]; exact h1, by rw [List.getElem?_set_ne (Ne.symm hj)]; exact h2, same_new n _ _ h3, dor_mono st.hid h4, h5⟩
theorem SR.mutDi (s : SR K ph am σ H δ) (e : δ[i]? = some (.od o)) (h : am i = some a) {o' : DiO} (dv : DOR K a (hid ph am H) u o') : SR K ph am σ (upd H a u) (δ.set i (.od o')) := by
  have hi : i < δ.length := (List.getElem?_eq_some_iff.mp e).1
  obtain ⟨a0, u0, e1, e2, e3, e4, e5⟩ := s.od i o e
  rw [h] at e1
  cases e1
  have hh : ∀ o, hid ph am (upd H a o) = hid ph am H := fun o => hid_own h
  refine ⟨by rw [List.length_set, s.len], fun j d' q => ?_, fun j b' ds2 q => ?_, fun j a' q => ?_, s.inj, fun c hc => ?_, s.bas, fun j o2 q => ?_⟩
  · have hj : j ≠ i := fun z => by
      subst z
      rw [List.getElem?_set_self hi] at q
      cases q
    rw [List.getElem?_set_ne (Ne.symm hj)] at q
    rw [hh]
    exact s.fz j d' q
  · by_cases hj : j = i
    · subst hj
      rw [List.getElem?_set_self hi] at q
      cases q
    · rw [List.getElem?_set_ne (Ne.symm hj)] at q
      obtain ⟨a2, vs2, h1, h2, h3, h4, h5, h6⟩ := s.ow j b' ds2 q
      have na : a2 ≠ a := fun z => hj (s.inj j i a (by rw [← z]; exact h1) h)
      exact ⟨a2, vs2, h1, h2, by rw [upd_ne na]; exact h3, by rw [hh]; exact h4, h5, h6⟩
  · obtain ⟨h1, c2, h2, h3⟩ := s.amf j a' q
    by_cases hj : j = i
    · exact ⟨h1, .od o', by rw [hj]; exact List.getElem?_set_self hi, trivial⟩
    · exact ⟨h1, c2, by rw [List.getElem?_set_ne (Ne.symm hj)]; exact h2, h3⟩
  · obtain ⟨o1, h1, m⟩ := s.phs c hc
    have na : c ≠ a := fun z => (s.amf i a h).1 (by rw [← z]; exact hc)
    exact ⟨o1, by rw [upd_ne na]; exact h1, m⟩
  · by_cases hj : j = i
    · subst hj
      rw [List.getElem?_set_self hi] at q
      cases q
      exact ⟨a, u, h, e2, upd_same, by rw [hh]; exact dv, e5⟩
    · rw [List.getElem?_set_ne (Ne.symm hj)] at q
      obtain ⟨a2, u2, h1, h2, h3, h4, h5⟩ := s.od j o2 q
      have na : a2 ≠ a := fun z => hj (s.inj j i a (by rw [← z]; exact h1) h)
      exact ⟨a2, u2, h1, h2, by rw [upd_ne na]; exact h3, by rw [hh]; exact h4, h5⟩

/-! ### x = {} -/
def sDNew (o : DiO) (i : Nat) : MS := fun δ => match δ[i]? with
  | some c => if c.free = true then some (.ok .nx, δ.set i (.od o)) else none
  | none => none
theorem dnew_read {t : TE} {u0 : HO} (ht : t = fun _ H Q => ∀ p, H p = none → Q (.ref p) (upd H p u0)) (hu : ∀ H p, DOR X.K p H u0 o) : ReadS X W (tAsg t (gName i)) (sDNew o i) := by
  subst ht
  intro ph am σ H δ D ans δ' sr z k kx
  unfold sDNew at z
  intro p n
  split at z
  · rename_i c e3
    obtain ⟨h1, e4⟩ := if_some z
    cases e4
    exact k _ rfl (amPut am i p) _ _ (step_putU n) (sr.putDi e3 h1 n (hu _ _))
  · cases z
theorem ds_dnewT {x : Str} {pos' pd : Pos} (hN : X.N.Nodup) (hi : X.N[i]? = some x := by rfl) (hx : Loc X.env.scope x := by first | exact Or.inl rfl | exact Or.inr rfl) (hs : swapsWith (.Dict [] [] pd) (some (.Name x pos')) pos.line X.env = pure false := by rfl)
    (hf : X.fn x = true ∨ X.env.scope.names.lookup x = some .local := by first | exact .inl rfl | exact .inr rfl) : DS X W (.Assign [.Name x pos'] (.Dict [] [] pd) pos) (sDNew (.t []) i) :=
  ⟨⟨_, ps_set hN hi hx pe_dnewT hs hf, dnew_read rfl fun _ _ => ⟨rfl, .nil⟩⟩⟩
theorem ds_dnewK {x : Str} {pos' pd : Pos} (hN : X.N.Nodup) (hi : X.N[i]? = some x := by rfl) (hx : Loc X.env.scope x := by first | exact Or.inl rfl | exact Or.inr rfl) (hs : swapsWith (.Dict [] [] pd) (some (.Name x pos')) pos.line X.env = pure false := by rfl)
    (hf : X.fn x = true ∨ X.env.scope.names.lookup x = some .local := by first | exact .inl rfl | exact .inr rfl) : DS X W (.Assign [.Name x pos'] (.Dict [] [] pd) pos) (sDNew (.k []) i) :=
  ⟨⟨_, ps_set hN hi hx pe_dnewK hs hf, dnew_read rfl fun _ _ => ⟨rfl, .nil⟩⟩⟩

/-! ### looking up -/
def lookDi (o : DiO) (k : PyData) : Option (Option PyData) := match o with
  | .k kvs => (keyOf k).map (getA kvs)
  | .t kvs => (keysOf k).map (getA kvs)
  | .x _ _ => none
def putDi (o : DiO) (k d : PyData) : Option DiO := match o with
  | .k kvs => if kvs.length < sizeLine then (keyOf k).map fun q => .k (putA kvs q d) else none
  | .t kvs => if kvs.length < sizeLine then (keysOf k).map fun q => .t (putA kvs q d) else none
  | .x _ _ => none
theorem look_dget {k : PyData} {y : V} {r : Option PyData} (hu : H a = some u) (h : DOR K a (hid ph am H) u o) (hk : Dq K (hid ph am H) y k) (e : lookDi o k = some r) :
    (r = none ∧ DGet H a y none) ∨ ∃ w d, r = some d ∧ DGet H a y (some w) ∧ Dq K (hid ph am H) w d := by
  cases o with
  | x b fs => cases e
  | k kvs =>
    cases u with
    | dK us =>
      obtain ⟨q, e1, e2⟩ := Option.map_eq_some_iff.mp e
      have ey := keyOf_eq hk e1
      subst ey
      have g := DGet.k (k := q) hu
      rcases KR.get q (show KR K _ us kvs from h) with ⟨a1, a2⟩ | ⟨w, d, a1, a2, a3⟩
      · rw [a1] at e2
        rw [a2] at g
        exact .inl ⟨e2.symm, g⟩
      · rw [a1] at e2
        rw [a2] at g
        exact .inr ⟨w, d, e2.symm, g, a3⟩
    | _ => exact h.elim
  | t kvs =>
    cases u with
    | dT us =>
      obtain ⟨q, e1, e2⟩ := Option.map_eq_some_iff.mp e
      obtain ⟨b, ey, eb⟩ := keysOf_eq hk e1
      subst ey
      have g := DGet.t (k := q) hu eb
      rcases KR.get q (show KR K _ us kvs from h) with ⟨a1, a2⟩ | ⟨w, d, a1, a2, a3⟩
      · rw [a1] at e2
        rw [a2] at g
        exact .inl ⟨e2.symm, g⟩
      · rw [a1] at e2
        rw [a2] at g
        exact .inr ⟨w, d, e2.symm, g, a3⟩
    | _ => exact h.elim
theorem put_dput {k d : PyData} {y w : V} {o' : DiO} (hu : H a = some u) (h : DOR K a (hid ph am H) u o) (hk : Dq K (hid ph am H) y k) (hd : Dq K (hid ph am H) w d) (e : putDi o k d = some o') :
    ∃ u', DPut H a y w (upd H a u') ∧ DOR K a (hid ph am H) u' o' := by
  cases o with
  | x b fs => cases e
  | k kvs =>
    cases u with
    | dK us =>
      unfold putDi at e
      simp only at e
      by_cases hz : kvs.length < sizeLine
      case neg => rw [if_neg hz] at e; cases e
      rw [if_pos hz] at e
      obtain ⟨q, e1, e2⟩ := Option.map_eq_some_iff.mp e
      have ey := keyOf_eq hk e1
      subst ey
      subst e2
      have r : KR K _ us kvs := h
      exact ⟨_, DPut.k (k := q) hu (by rw [r.len]; exact hz), r.put hd q⟩
    | _ => exact h.elim
  | t kvs =>
    cases u with
    | dT us =>
      unfold putDi at e
      simp only at e
      by_cases hz : kvs.length < sizeLine
      case neg => rw [if_neg hz] at e; cases e
      rw [if_pos hz] at e
      obtain ⟨q, e1, e2⟩ := Option.map_eq_some_iff.mp e
      obtain ⟨b, ey, eb⟩ := keysOf_eq hk e1
      subst ey
      subst e2
      have r : KR K _ us kvs := h
      exact ⟨_, DPut.t (k := q) hu eb (by rw [r.len]; exact hz), r.put hd q⟩
    | _ => exact h.elim

/-! ### x[k] = e -/
def sDPut (f : M PyData) (i : Nat) (g : M PyData) : MS := bnd f fun d => fun δ1 => match δ1[i]? with
  | some (.od _) => (bnd g fun k => fun δ2 => match δ2[i]? with
    | some (.od o) => match putDi o k d with
      | some o' => some (.ok .nx, δ2.set i (.od o'))
      | none => none
    | _ => none) δ1
  | _ => none
theorem ds_dput {x : Str} {pn ps' : Pos} (hu : X.A.units + 1 < cLine) (he : DE X W e f) (hk : DE X W e2 g) (hN : X.N[i]? = some x := by rfl) (hv : Vis X.env.scope x := by first | exact Or.inl rfl | exact Or.inr (Or.inl rfl) | exact Or.inr (Or.inr rfl)) (hd : (x == ("__debug__" : Str)) = false := by decide) (hcd : (x == ("__classdict__" : Str)) = false := by decide)
    (hs : swapsWith e (some (.Subscript (.Name x pn) e2 ps')) pos.line X.env = pure false := by rfl) : DS X W (.Assign [.Subscript (.Name x pn) e2 ps'] e pos) (sDPut f i g) := by
  obtain ⟨t, pt, q1⟩ := he.ex
  obtain ⟨t2, p2, q2⟩ := hk.ex
  refine ⟨⟨_, L2.ps_dput hu (pe_var hN hv hd hcd) p2 pt hs, fun ph am σ H δ D ans δ' sr z k kx => ?_⟩⟩
  rcases bnd_some z with ⟨dd, δ1, e1, e2⟩ | ⟨c, fs, e1, e2⟩
  · refine q1 ph am σ H δ _ _ _ sr e1 (fun d' ed am1 w H1 st1 s1 d1 => ?_) (fun c fs z => by cases z)
    cases ed
    split at e2
    · rename_i o0 e3
      obtain ⟨a0, u0, o1, o2, o3, o4, o5⟩ := s1.od i o0 e3
      refine ⟨.ref a0, o2, ?_⟩
      rcases bnd_some e2 with ⟨n, δ2, e4, e5⟩ | ⟨c, fs, e4, e5⟩
      · refine q2 ph am1 σ H1 δ1 _ _ _ s1 e4 (fun d' ed am2 y H2 st2 s2 d2 => ?_) (fun c fs z => by cases z)
        cases ed
        split at e5
        · rename_i o e6
          split at e5
          · rename_i o' e7
            cases e5
            obtain ⟨a1, u1, r1, r2, r3, r4, r5⟩ := s2.od i o e6
            rw [o2] at r2
            cases r2
            obtain ⟨u', g1, g2⟩ := put_dput r3 r4 d2 (dp_mono st2.hid d1) e7
            exact ⟨a0, _, rfl, g1, k _ rfl am2 σ _ ((st1.trans st2).trans (step_mutU r1 r3)) (s2.mutDi e6 r1 g2)⟩
          · cases e5
        · cases e5
      · subst e5
        exact q2 ph am1 σ H1 δ1 _ _ _ s1 e4 (fun d ed => by cases ed) (fun c' fs' z => by cases z; exact ((kx _ _ rfl).step st1).at)
    · cases e2
  · subst e2
    exact q1 ph am σ H δ _ _ _ sr e1 (fun d ed => by cases ed) (fun c' fs' z => by cases z; exact (kx _ _ rfl).at)

/-! ### k in x, k not in x -/
def xDIn (neg : Bool) (g : M PyData) (i : Nat) : M Bool := bnd g fun k => fun δ1 => match δ1[i]? with
  | some (.od o) => match lookDi o k with
    | some r => some (.ok (r.isSome != neg), δ1)
    | none => none
  | _ => none
theorem dt_din {x : Str} {pn : Pos} (hu : X.A.units + 1 < cLine) (hk : DE X W e g) (hN : X.N[i]? = some x := by rfl) (hv : Vis X.env.scope x := by first | exact Or.inl rfl | exact Or.inr (Or.inl rfl) | exact Or.inr (Or.inr rfl)) (hd : (x == ("__debug__" : Str)) = false := by decide) (hcd : (x == ("__classdict__" : Str)) = false := by decide)
    (hm : behindInMarks .In (.Name x pn) = false := by rfl) : DT X W (.Compare e [.In] [.Name x pn] pos) (xDIn false g i) := by
  obtain ⟨t2, p2, q2⟩ := hk.ex
  refine ⟨⟨_, pt_cmp (pc_din hu p2 (pe_var hN hv hd hcd)) hm, fun ph am σ H δ Q ans δ' s z k kx => ?_⟩⟩
  rcases bnd_some z with ⟨n, δ1, e1, e2⟩ | ⟨c, fs, e1, e2⟩
  · refine q2 ph am σ H δ _ _ _ s e1 (fun d' ed am1 y H1 st1 s1 d1 => ?_) (fun c fs z => by cases z)
    cases ed
    split at e2
    · rename_i o e3
      obtain ⟨a0, u0, o1, o2, o3, o4, o5⟩ := s1.od i o e3
      refine ⟨.ref a0, o2, ?_⟩
      split at e2
      · rename_i r e4
        cases e2
        rcases look_dget o3 o4 d1 e4 with ⟨rfl, g1⟩ | ⟨w, d, rfl, g1, _⟩
        · exact ⟨a0, _, rfl, g1, _, rfl, k _ rfl am1 H1 st1 s1⟩
        · exact ⟨a0, _, rfl, g1, _, rfl, k _ rfl am1 H1 st1 s1⟩
      · cases e2
    · cases e2
  · subst e2
    exact q2 ph am σ H δ _ _ _ s e1 (fun d ed => by cases ed) (fun c' fs' z => by cases z; exact kx _ _ rfl)
theorem dt_dnotin {x : Str} {pn : Pos} (hu : X.A.units + 1 < cLine) (hk : DE X W e g) (hN : X.N[i]? = some x := by rfl) (hv : Vis X.env.scope x := by first | exact Or.inl rfl | exact Or.inr (Or.inl rfl) | exact Or.inr (Or.inr rfl)) (hd : (x == ("__debug__" : Str)) = false := by decide) (hcd : (x == ("__classdict__" : Str)) = false := by decide)
    (hm : behindInMarks .NotIn (.Name x pn) = false := by rfl) : DT X W (.Compare e [.NotIn] [.Name x pn] pos) (xDIn true g i) := by
  obtain ⟨t2, p2, q2⟩ := hk.ex
  refine ⟨⟨_, pt_cmp (pc_dnotin hu p2 (pe_var hN hv hd hcd)) hm, fun ph am σ H δ Q ans δ' s z k kx => ?_⟩⟩
  rcases bnd_some z with ⟨n, δ1, e1, e2⟩ | ⟨c, fs, e1, e2⟩
  · refine q2 ph am σ H δ _ _ _ s e1 (fun d' ed am1 y H1 st1 s1 d1 => ?_) (fun c fs z => by cases z)
    cases ed
    split at e2
    · rename_i o e3
      obtain ⟨a0, u0, o1, o2, o3, o4, o5⟩ := s1.od i o e3
      refine ⟨.ref a0, o2, ?_⟩
      split at e2
      · rename_i r e4
        cases e2
        rcases look_dget o3 o4 d1 e4 with ⟨rfl, g1⟩ | ⟨w, d, rfl, g1, _⟩
        · exact ⟨a0, _, rfl, g1, _, rfl, k _ rfl am1 H1 st1 s1⟩
        · exact ⟨a0, _, rfl, g1, _, rfl, k _ rfl am1 H1 st1 s1⟩
      · cases e2
    · cases e2
  · subst e2
    exact q2 ph am σ H δ _ _ _ s e1 (fun d ed => by cases ed) (fun c' fs' z => by cases z; exact kx _ _ rfl)

/-! ### x[k] -/
def xDGet (i : Nat) (g : M PyData) : M PyData := fun δ => match δ[i]? with
  | some (.od _) => (bnd g fun k => fun δ1 => match δ1[i]? with
    | some (.od o) => match lookDi o k with
      | some (some d) => some (.ok d, δ1)
      | _ => none
    | _ => none) δ
  | _ => none
theorem de_dget {x : Str} {pn : Pos} (hu : X.A.units + 1 < cLine) (hs : NoSl e2) (hk : DE X W e2 g) (hN : X.N[i]? = some x := by rfl) (hv : Vis X.env.scope x := by first | exact Or.inl rfl | exact Or.inr (Or.inl rfl) | exact Or.inr (Or.inr rfl)) (hd : (x == ("__debug__" : Str)) = false := by decide) (hcd : (x == ("__classdict__" : Str)) = false := by decide) :
    DE X W (.Subscript (.Name x pn) e2 pos) (xDGet i g) := by
  obtain ⟨t2, p2, q2⟩ := hk.ex
  refine ⟨⟨_, L2.pe_dget hu (pe_var hN hv hd hcd) p2 hs, fun ph am σ H δ Q ans δ' s z k kx => ?_⟩⟩
  unfold xDGet at z
  split at z
  · rename_i o0 e3
    obtain ⟨a0, u0, o1, o2, o3, o4, o5⟩ := s.od i o0 e3
    refine ⟨.ref a0, o2, ?_⟩
    rcases bnd_some z with ⟨n, δ1, e4, e5⟩ | ⟨c, fs, e4, e5⟩
    · refine q2 ph am σ H δ _ _ _ s e4 (fun d' ed am1 y H1 st1 s1 d1 => ?_) (fun c fs z => by cases z)
      cases ed
      split at e5
      · rename_i o e6
        obtain ⟨a1, u1, r1, r2, r3, r4, r5⟩ := s1.od i o e6
        rw [o2] at r2
        cases r2
        split at e5
        · rename_i d' e7
          cases e5
          rcases look_dget r3 r4 d1 e7 with ⟨e8, _⟩ | ⟨w, d2, e8, g1, g2⟩
          · cases e8
          · cases e8
            exact ⟨a0, w, rfl, g1, k _ rfl am1 w H1 st1 s1 g2⟩
        · cases e5
      · cases e5
    · subst e5
      exact q2 ph am σ H δ _ _ _ s e4 (fun d ed => by cases ed) (fun c' fs' z => by cases z; exact kx _ _ rfl)
  · cases z
end PD
end

section
set_option Elab.async false
set_option linter.all false
set_option maxRecDepth 100000
set_option maxHeartbeats 1000000
namespace PD
open PySem PySem.Spec PyProof.Rows L2
variable {X : Cx} {W : WX} {pos : Pos} {e e1 e2 e3 : Expr} {es : List Expr} {f g h : M PyData} {fs : M (List PyData)} {fb gb : M Bool}
variable {K : PySem.W.Frag} {ph : Fx} {am am' am1 : Am} {H H' H1 : Hp} {σ σ' : L2.St} {δ δ' δ1 : Sg} {a p p1 p2 : Addr} {v : V} {vs : List V} {d : PyData} {ds : List PyData} {i : Nat}

/-! ### a sort that the kernel can run -/
section
variable {α : Type}
def insBy (le : α → α → Bool) (x : α) : List α → List α
  | [] => [x]
  | y :: ys => cond (le x y) (x :: y :: ys) (y :: insBy le x ys)
def sortBy (le : α → α → Bool) : List α → List α
  | [] => []
  | x :: xs => insBy le x (sortBy le xs)
variable {le : α → α → Bool}
theorem insBy_mem {x y : α} : ∀ {l : List α}, y ∈ insBy le x l ↔ y = x ∨ y ∈ l
  | [] => by simp [insBy]
  | z :: l => by
    unfold insBy
    cases le x z with
    | true => simp
    | false =>
      simp only [cond_false, List.mem_cons, insBy_mem (l := l)]
      constructor
      · rintro (h | h | h)
        · exact .inr (.inl h)
        · exact .inl h
        · exact .inr (.inr h)
      · rintro (h | h | h)
        · exact .inr (.inl h)
        · exact .inl h
        · exact .inr (.inr h)
theorem insBy_sorted (h : PySem.W.TotalLe le) {x : α} : ∀ {l : List α}, l.Pairwise (fun a b => le a b = true) → (insBy le x l).Pairwise (fun a b => le a b = true)
  | [], _ => by simp [insBy]
  | y :: l, hs => by
    obtain ⟨h1, h2⟩ := List.pairwise_cons.mp hs
    unfold insBy
    cases e : le x y with
    | true =>
      refine List.pairwise_cons.mpr ⟨fun z hz => ?_, hs⟩
      rcases List.mem_cons.mp hz with rfl | hz
      · exact e
      · exact h.trans _ _ _ e (h1 z hz)
    | false =>
      refine List.pairwise_cons.mpr ⟨fun z hz => ?_, insBy_sorted h h2⟩
      rcases insBy_mem.mp hz with rfl | hz
      · rcases h.total z y with q | q
        · rw [e] at q; cases q
        · exact q
      · exact h1 z hz
theorem sortBy_sorted (h : PySem.W.TotalLe le) : ∀ l : List α, (sortBy le l).Pairwise (fun a b => le a b = true)
  | [] => .nil
  | x :: l => insBy_sorted h (sortBy_sorted h l)
theorem insBy_filter (h : PySem.W.TotalLe le) (c x : α) : ∀ l : List α, (insBy le x l).filter (PySem.W.sameRank le c) = (x :: l).filter (PySem.W.sameRank le c)
  | [] => rfl
  | y :: l => by
    unfold insBy
    cases e : le x y with
    | true => rfl
    | false =>
      show (y :: insBy le x l).filter _ = _
      have ih := insBy_filter h c x l
      cases ey : PySem.W.sameRank le c y with
      | false =>
        rw [List.filter_cons_of_neg (by rw [ey]; exact Bool.false_ne_true), ih, List.filter_cons, List.filter_cons, List.filter_cons_of_neg (by rw [ey]; exact Bool.false_ne_true)]
      | true =>
        have ex : PySem.W.sameRank le c x = false := by
          cases ex : PySem.W.sameRank le c x with
          | false => rfl
          | true =>
            unfold PySem.W.sameRank at ex ey
            rw [Bool.and_eq_true] at ex ey
            rw [h.trans _ _ _ ex.2 ey.1] at e
            cases e
        rw [List.filter_cons_of_pos ey, ih, List.filter_cons_of_neg (by rw [ex]; exact Bool.false_ne_true), List.filter_cons_of_neg (by rw [ex]; exact Bool.false_ne_true), List.filter_cons_of_pos ey]
theorem sortBy_filter (h : PySem.W.TotalLe le) (c : α) : ∀ l : List α, (sortBy le l).filter (PySem.W.sameRank le c) = l.filter (PySem.W.sameRank le c)
  | [] => rfl
  | x :: l => by
    rw [sortBy, insBy_filter h, List.filter_cons, List.filter_cons, sortBy_filter h c l]
theorem sortBy_eq (h : PySem.W.TotalLe le) (l : List α) : sortBy le l = l.mergeSort le := PySem.W.sort_unique h (sortBy_sorted h l) (fun c => sortBy_filter h c l)
end
def sortD (ds : List PyData) : List PyData := sortBy (PySem.W.dataLe false fun d => d) ds
theorem sortD_eq (ds : List PyData) : sortD ds = ds.mergeSort (PySem.W.dataLe false fun d => d) := sortBy_eq (PySem.W.sortLe_total _ _ _) ds
example : PyData.eqv (.list (sortD [.tuple [.int 3, .int 1], .tuple [.int 1, .int 2], .tuple [.int 1]])) (.list [.tuple [.int 1], .tuple [.int 1, .int 2], .tuple [.int 3, .int 1]]) = true := by decide +kernel

/-! ### sorted(xs), xs a list -/
def isRow : PyData → Bool
  | .tuple (_ :: _) => true
  | _ => false
def isRest : PyData → Bool
  | .none => false
  | .tuple _ => false
  | _ => true
def okSort (ds : List PyData) : Bool := (ds.all fun d => ds.all fun e => PySem.W.alike d e) && ((ds.all isRow || ds.all isRest) && (ds.all fun d => decide (d.depth ≤ 40) && true))
theorem okSort_is (h : okSort ds = true) : PySem.W.AllAlike ds ∧ PySem.W.Sortable ds ∧ ∀ d, d ∈ ds → d.depth ≤ 40 := by
  unfold okSort at h
  rw [Bool.and_eq_true, Bool.and_eq_true, Bool.or_eq_true] at h
  obtain ⟨h1, h2, h3⟩ := h
  refine ⟨fun d hd e he => List.all_eq_true.mp (List.all_eq_true.mp h1 d hd) e he, ?_, fun d hd => ?_⟩
  · rcases h2 with h2 | h2
    · refine .inl fun d hd => ?_
      have := List.all_eq_true.mp h2 d hd
      unfold isRow at this
      split at this
      · exact ⟨_, _, rfl⟩
      · cases this
    · refine .inr fun d hd => ?_
      have := List.all_eq_true.mp h2 d hd
      refine ⟨fun z => ?_, fun xs z => ?_⟩ <;> subst z <;> cases this
  · have := List.all_eq_true.mp h3 d hd
    simpa using this
def sortV (vs : List V) (ds : List PyData) : List V := ((vs.zip ds).mergeSort (PySem.W.dataLe false Prod.snd)).map (·.1)
theorem zip_snd {α β : Type} : ∀ {l : List α} {m : List β}, l.length = m.length → (l.zip m).map (·.2) = m
  | [], [], _ => rfl
  | a :: l, b :: m, h => by rw [List.zip_cons_cons, List.map_cons, zip_snd (by simpa using h)]
  | [], _ :: _, h => by simp at h
  | _ :: _, [], h => by simp at h
theorem DqAll.zip_mem : ∀ {vs : List V} {ds : List PyData}, DqAll K H vs ds → ∀ q, q ∈ vs.zip ds → Dq K H q.1 q.2
  | _, _, .nil, _, h => by simp at h
  | _, _, .cons g t, q, h => by
    rw [List.zip_cons_cons] at h
    rcases List.mem_cons.mp h with rfl | h
    · exact g
    · exact DqAll.zip_mem t q h
theorem DqAll.of_pairs : ∀ {l : List (V × PyData)}, (∀ q, q ∈ l → Dq K H q.1 q.2) → DqAll K H (l.map (·.1)) (l.map (·.2))
  | [], _ => .nil
  | q :: l, h => .cons (h q (List.mem_cons_self ..)) (DqAll.of_pairs fun r hr => h r (List.mem_cons_of_mem _ hr))
theorem DqAll.sort (h : DqAll K H vs ds) : DqAll K H (sortV vs ds) (sortD ds) := by
  have e : sortD ds = ((vs.zip ds).mergeSort (PySem.W.dataLe false Prod.snd)).map (·.2) := by
    have q := PySem.W.sort_maps (r := PySem.W.dataLe false Prod.snd) (s := PySem.W.dataLe false fun d => d) (Prod.snd : V × PyData → PyData) (l := vs.zip ds) (fun _ _ _ _ => rfl)
    rw [sortD_eq]
    refine Eq.trans ?_ q.symm
    rw [show (vs.zip ds).map Prod.snd = ds from zip_snd h.length]
  rw [e]
  exact DqAll.of_pairs fun q hq => h.zip_mem q (List.mem_mergeSort.mp hq)
theorem sortV_length (h : vs.length = ds.length) : (sortV vs ds).length = ds.length := by
  unfold sortV
  rw [List.length_map, List.length_mergeSort, List.length_zip, h, Nat.min_self]
def rSortDat (K : PySem.W.Frag) : List V → Hp → VK → Prop := fun xs H Q => ∃ a vs ds, xs = [V.ref a] ∧ SqL K H a vs ∧ L2.DpAll K H vs ds ∧ PySem.W.AllAlike ds ∧ PySem.W.Sortable ds ∧ (∀ d, d ∈ ds → d.depth ≤ 40) ∧
  ∀ p, H p = none → Q (.ref p) (upd H p (.lst (sortV vs ds)))
theorem each_zip {h : Heap} {R : Value → V × PyData → Prop} : ∀ {us : List Value} {vs : List V} {ds : List PyData} {as : List Addr}, Vals vs us → ReadsAll h us ds as → (∀ u v d bs, RelV v u → Reads h u d bs → R u (v, d)) → PySem.W.EachIs R us (vs.zip ds)
  | _, _, _, _, .nil, .nil, _ => .nil
  | _, _, _, _, .cons r t, .cons q s, k => .cons (k _ _ _ _ r q) (each_zip t s k)
theorem each_vals {R : Value → V × PyData → Prop} (k : ∀ u q, R u q → RelV q.1 u) : ∀ {us : List Value} {qs : List (V × PyData)}, PySem.W.EachIs R us qs → Vals (qs.map (·.1)) us
  | _, _, .nil => .nil
  | _, _, .cons h t => .cons (k _ _ h) (each_vals k t)
theorem cr_sortDat (hu : X.A.units + 65 < cLine) : CallR X (.builtin "sorted") (rSortDat X.K) := by
  intro pins s σ H vs us Q I r h
  obtain ⟨a, ws, ds, rfl, hs, hd, hal, hk, hdep, q⟩ := h
  obtain ⟨its, rv, hl, hz⟩ := I.list hs
  rw [Vals.ref1 r]
  obtain ⟨as, hr⟩ := Dp.readsAll I ds ws its hd rv
  have hlen : its.length = ds.length := SeqAt.ReadsAll.length ds its as hr
  have hwl : ws.length = its.length := rv.length
  have hz2 : (ws.zip ds).length = ds.length := by rw [List.length_zip, hwl, hlen, Nat.min_self]
  have hm : (ws.zip ds).map (·.2) = ds := zip_snd (by rw [hwl, hlen])
  refine PySem.W.sorted_data (β := V × PyData) (enc := (·.2)) (R := fun u q => RelV q.1 u) hl.isList (each_zip rv hr fun _ _ _ _ h _ => h) (each_zip rv hr fun _ _ _ bs _ h => ⟨bs, h⟩) (by rw [hm]; exact hal) (by rw [hm]; exact hk) (by rw [hz2, ← hlen, ← hwl]; exact hz) (fun b hb => ?_) fun out ho eo => ?_
  · have := hdep b.2 (by rw [← hm]; exact List.mem_map_of_mem hb)
    omega
  · obtain ⟨ep, he'⟩ := PyProof.Rows.sortedAll_at s.heap its out.toArray
    have hlen2 : (sortV ws ds).length ≤ sizeLine := by rw [sortV_length (by rw [hwl, hlen]), ← hlen, ← hwl]; exact hz
    exact ⟨.ref _, upd H (s.heap.objs.size + 1) (.lst (sortV ws ds)), I.laid (t' := s.toks) (fun _ _ => PyProof.Rows.sortedAll_old) (Nat.le_succ _) ⟨hlen2, out, ep, each_vals (fun _ _ h => h) eo, he'⟩, rfl, q _ (I.hok.fresh (Nat.le_succ _))⟩
def sortedF : List PyData → Option (List PyData)
  | [.list ds] => if okSort ds = true ∧ ds.length ≤ sizeLine then some (sortD ds) else none
  | _ => none
theorem callf_sort : CallF X (rSortDat X.K) sortedF := by
  intro ph am H xs ds c Q hn dx q k
  cases dx with
  | nil => cases q
  | cons h t =>
    cases t with
    | cons _ _ => cases h <;> cases q
    | nil =>
      cases h with
      | lst h1 a1 =>
        obtain ⟨⟨h2, h3⟩, rfl⟩ := if_some q
        obtain ⟨g1, g2, g3⟩ := okSort_is h2
        refine ⟨_, _, _, rfl, rd_hid h1, (dps_mono hid_sub a1).dp, g1, g2, g3, fun p np => k p _ np a1.sort (by rw [sortV_length a1.length]; exact h3)⟩
      | _ => cases q
end PD
end

section
set_option Elab.async false
set_option linter.all false
set_option maxRecDepth 100000
set_option maxHeartbeats 1000000
namespace PD
open PySem PySem.Spec PyProof.Rows L2
variable {X : Cx} {W : WX} {pos : Pos} {e e1 e2 e3 : Expr} {es : List Expr} {f g h : M PyData} {fs : M (List PyData)} {fb gb : M Bool}
variable {K : PySem.W.Frag} {ph : Fx} {am am' am1 : Am} {H H' H1 : Hp} {σ σ' : L2.St} {δ δ' δ1 : Sg} {a p p1 p2 : Addr} {v : V} {vs : List V} {d : PyData} {ds : List PyData} {i : Nat}

/-! ### sorted(d), d a dict whose keys are tuples -/
def keyDat : Key → PyData
  | .inl i => .int i
  | .inr s => .str s
def keyD (k : List Key) : PyData := .tuple (k.map keyDat)
theorem keyDat_q {H : Hp} : ∀ k : Key, Dq K H (kV k) (keyDat k)
  | .inl i => .int i
  | .inr s => .str s
theorem keysDat_q {H : Hp} : ∀ k : List Key, DqAll K H (k.map kV) (k.map keyDat)
  | [] => .nil
  | k :: ks => .cons (keyDat_q k) (keysDat_q ks)
theorem readsAll_flat {h : Heap} : ∀ {ks : List Key} {us : List Value} {as : List Addr}, ReadsAll h us (ks.map keyDat) as → as = []
  | [], _, _, r => by cases r; rfl
  | k :: ks, _, _, r => by
    rw [List.map_cons] at r
    cases r with
    | cons h1 h2 =>
      rw [readsAll_flat h2]
      cases k <;> cases h1 <;> rfl
theorem reads_flat {h : Heap} {k : List Key} {u : Value} {as : List Addr} (r : Reads h u (keyD k) as) : as = [] := by
  unfold keyD at r
  cases r with
  | tuple h1 h2 h3 h4 => exact readsAll_flat h4
abbrev TupsAt (H : Hp) (qs : List (Addr × List Key)) : Prop := ∀ q, q ∈ qs → H q.1 = some (.tup (q.2.map kV))
def rSortDi : List V → Hp → VK → Prop := fun xs H Q => ∃ (a : Addr) (kvs : List (List Key × V)), xs = [.ref a] ∧ H a = some (.dT kvs) ∧ PySem.W.AllAlike ((kvs.map (·.1)).map keyD) ∧ (PySem.W.Sortable ((kvs.map (·.1)).map keyD) ∨ (kvs.map (·.1)).map keyD = [.tuple []]) ∧ (∀ k, k ∈ kvs.map (·.1) → (keyD k).depth ≤ 40) ∧
  ∀ qs : List (Addr × List Key), TupsAt H qs → qs.map (·.2) = (kvs.map (·.1)).mergeSort (PySem.W.dataLe false keyD) → ∀ p, H p = none → Q (.ref p) (upd H p (.lst (qs.map fun q => .ref q.1)))
theorem kt_tups {kvs : List (List Key × V)} {xs : List (List Key × Addr × Value)} (r : KT H kvs xs) : TupsAt H (xs.map fun x => (x.2.1, x.1)) ∧ xs.map (·.1) = kvs.map (·.1) := by
  induction r with
  | nil => exact ⟨fun q hq => by simp at hq, rfl⟩
  | @cons p q ps qs h t ih =>
    refine ⟨fun b hb => ?_, ?_⟩
    · rw [List.map_cons] at hb
      rcases List.mem_cons.mp hb with rfl | hb
      · show H q.2.1 = some (.tup (q.1.map kV))
        rw [← h.1]
        exact h.2.1
      · exact ih.1 b hb
    · rw [List.map_cons, List.map_cons, ih.2, h.1]
theorem each_of {α β : Type} {R : α → β → Prop} : ∀ {us : List α} {qs : List β}, us.length = qs.length → (∀ (j : Nat) (u : α) (q : β), us[j]? = some u → qs[j]? = some q → R u q) → PySem.W.EachIs R us qs
  | [], [], _, _ => .nil
  | u :: us, q :: qs, hl, k => .cons (k 0 u q rfl rfl) (each_of (by simpa using hl) fun j u q h1 h2 => k (j + 1) u q (by simpa using h1) (by simpa using h2))
  | [], _ :: _, hl, _ => by simp at hl
  | _ :: _, [], hl, _ => by simp at hl
theorem each_refs : ∀ {us : List Value} {qs : List (Addr × List Key)}, PySem.W.EachIs (fun (u : Value) (q : Addr × List Key) => u = .ref q.1) us qs → Vals (qs.map fun q => V.ref q.1) us
  | _, _, .nil => .nil
  | _, _, .cons h t => .cons h (each_refs t)
theorem EachIs_and {α β : Type} {R S : α → β → Prop} : ∀ {us : List α} {qs : List β}, PySem.W.EachIs R us qs → (∀ u q, q ∈ qs → R u q → S u q) → PySem.W.EachIs S us qs
  | _, _, .nil, _ => .nil
  | _, _, .cons h t, k => .cons (k _ _ (List.mem_cons_self ..) h) (EachIs_and t fun u q hq r => k u q (List.mem_cons_of_mem _ hq) r)
/-! ### a list that holds () alone -/
theorem sorts_unit {prog : Program} {w : World} {A : Around} {s : Shared} {vs : List Value} {ds : List PyData} (e : PySem.W.EachIs (fun v d => ∃ as, Reads s.heap v d as) vs ds) (hd0 : ds = [.tuple []]) (hu : A.units + 1 < cLine) : PySem.W.SortsAt prog w A s (PySem.W.dataKind s.heap ds) vs := by
  have hal : PySem.W.AllAlike ds := fun d hd d' hd' => by
    subst hd0
    rw [List.mem_singleton.mp hd, List.mem_singleton.mp hd']
    simp [PySem.W.alike, PySem.W.alikeAll]
  refine ⟨fun v hv => ?_, PyProof.Rows.tuples' true, ?_, fun h2 => ?_⟩
  · obtain ⟨d, hd, as, r⟩ := e.left v hv
    exact ⟨_, PySem.W.dataKind_some hal hd r⟩
  · intro E x y a b Q ha hb hq
    obtain ⟨d, as, hd, ra, rfl⟩ := PySem.W.dataKind_inv ha
    obtain ⟨d', as', hd', rb, rfl⟩ := PySem.W.dataKind_inv hb
    subst hd0
    cases List.mem_singleton.mp hd
    cases List.mem_singleton.mp hd'
    have hq' : Q (PySem.W.dataLt (.tuple []) (.tuple [])) s := hq
    rw [PySem.W.dataLt_tuple] at hq'
    cases ra with
    | @tuple l o xs n _ _ h1 h2 h3 h4 =>
      cases rb with
      | @tuple l' o' xs' n' _ _ k1 k2 k3 k4 =>
        have n1 : xs.size = ([] : List PyData).length := by simpa using SeqAt.ReadsAll.length _ _ _ h4
        have n2 : xs'.size = ([] : List PyData).length := by simpa using SeqAt.ReadsAll.length _ _ _ k4
        exact PySem.W.kat_lt h1 h3 k1 k3 (PySem.W.katLex_alike [] [] 0 _ _ _ _ h4 k4 (by simp [PySem.W.alikeAll]) (by simp [PyData.depthAll]; omega) (fun _ _ x r t ex => by cases ex) (by rw [n1, n2]) hq')
  · have := PySem.W.EachIs.length e
    subst hd0
    simp at this
    omega
theorem list_sort_any {β : Type} {prog : Program} {w : World} {A : Around} {E : Value → Shared → Prop} {s : Shared} {vs : List Value} {bs : List β} {enc : β → PyData} {R : Value → β → Prop} {a : Addr} {n : Nat} {Q : Value → Shared → Prop} (ho : s.heap.get? a = some (seqObj "list" vs.toArray n)) (e : PySem.W.EachIs R vs bs) (er : PySem.W.EachIs (fun v b => ∃ as, Reads s.heap v (enc b) as ∧ a ∉ as) vs bs) (hal : PySem.W.AllAlike (bs.map enc)) (hk : PySem.W.Sortable (bs.map enc) ∨ bs.map enc = [.tuple []]) (hL : bs.length ≤ sizeLine)
    (hu : ∀ b, b ∈ bs → A.units + 1 + (enc b).depth < cLine) (h : ∀ out, out.length = bs.length → PySem.W.EachIs R out (bs.mergeSort (PySem.W.dataLe false enc)) → Q .none { s with heap := sortedHeap s.heap a vs (List.toArray out) }) :
    wpAny (model prog w) A (call (.builtin "list.sort") [.ref a]) Q E s := by
  rcases hk with hk | hk
  · exact PySem.W.list_sort_data ho e er hal hk hL hu h
  · have er' : PySem.W.EachIs (fun v b => ∃ as, Reads (PySem.W.sortingHeap s.heap a vs) v (enc b) as) vs bs := PySem.W.each_keepBut (h' := PySem.W.sortingHeap s.heap a vs) (fun _ _ hb q => PySem.W.sortingHeap_old hb q) (fun o q => by rw [ho] at q; rw [← Option.some.inj q]) hal er
    have hb1 : ∃ b, b ∈ bs := by
      cases bs with
      | nil => simp at hk
      | cons b bs => exact ⟨b, List.mem_cons_self ..⟩
    obtain ⟨b, hb⟩ := hb1
    have hu1 := hu b hb
    have hbe : enc b = .tuple [] := by
      have : enc b ∈ bs.map enc := List.mem_map_of_mem hb
      rw [hk] at this
      exact List.mem_singleton.mp this
    rw [hbe, show (PyData.tuple []).depth = 1 by simp [PyData.depth, PyData.depthAll]] at hu1
    refine wpAny_call_entry PyProof.Rows.slot_list_sort ⟨_, ho, rfl⟩ PyProof.Rows.entry_list_sort (PySem.W.list_sort_vals (κ := PySem.W.dataKind (PySem.W.sortingHeap s.heap a vs) (bs.map enc)) ho (sorts_unit (s := { s with heap := PySem.W.sortingHeap s.heap a vs }) (PySem.W.each_map (R := fun v d => ∃ as, Reads (PySem.W.sortingHeap s.heap a vs) v d as) enc er') hk ?_) ?_ ?_)
    · first | omega | (show A.units + 1 + 1 < cLine; omega)
    · rw [PySem.W.EachIs.length e]; exact hL
    · exact ⟨_, rfl, h _ (by rw [PySem.W.sortVals_length false rfl]; exact PySem.W.EachIs.length e) (PySem.W.sortVals_data false e er' hal)⟩
theorem cr_sortDi (hcalm : X.calm = true) (hu : X.A.units + 65 < cLine) : CallR X (.builtin "sorted") rSortDi := by
  intro pins s σ H vs us Q I r h
  obtain ⟨a, kvs, rfl, hd, hal, hk, hdep, q⟩ := h
  rw [Vals.ref1 r]
  obtain ⟨z, lo, xs, rel, o, es, ep, h1, h2, h3, h4, h5, h6⟩ := dt_of I.hok hd
  have hraw : s.heap.DictRaw a es ep := ⟨o, h1, h2, h3⟩
  obtain ⟨tq, ek⟩ := kt_tups rel
  have hes : es.size = xs.length := size_of_entries h4
  have hxl : xs.length = kvs.length := by
    have := congrArg List.length ek
    simpa using this
  let qs0 : List (Addr × List Key) := xs.map fun x => (x.2.1, x.1)
  have hq0 : qs0.length = kvs.length := by show (xs.map _).length = _; rw [List.length_map, hxl]
  have hqk : qs0.map (·.2) = kvs.map (·.1) := by
    show (xs.map fun x => (x.2.1, x.1)).map (·.2) = _
    rw [List.map_map, ← ek]
    rfl
  have henc : qs0.map (fun q => keyD q.2) = (kvs.map (·.1)).map keyD := by
    rw [← hqk]
    exact (List.map_map (f := fun q : Addr × List Key => q.2) (g := keyD) (l := qs0)).symm
  refine Calls.call_function_entry PyProof.Rows.kind_sorted PyProof.Rows.plain_sorted PyProof.Rows.entry_sorted (PyProof.Rows.args_sorted1 _) ?_
  unfold Builtin.«sorted»
  refine wpAny_bind (m := checkCount "sorted" 1 1 _) (wpAny_pure ?_)
  refine wpAny_bind (PySem.W.kdu_collect (A := X.A.in1) (KdlSrc.rawDict (es := es) (ep := ep) lo) (I.ok.hd hcalm) hraw (by rw [hes, hxl]; exact z) fun h' tk acc hk' hacc => ?_)
  have hal2 : acc.toList.length = qs0.length := by rw [Array.length_toList, hacc.1, hes, hq0, hxl]
  have I1 : Inv X pins σ H { s with heap := h', toks := tk } := I.kept hk'
  have hE : PySem.W.EachIs (fun (u : Value) (q : Addr × List Key) => u = .ref q.1) acc.toList qs0 := each_of hal2 fun j u q' e1 e2 => by
    obtain ⟨hi, e3⟩ := hacc.2 j u (by rw [← Array.getElem?_toList]; exact e1)
    rw [e3]
    have e4 := entry_at h4 j
    rw [Array.getElem?_eq_getElem hi] at e4
    have e5 : (xs.map fun x => (x.2.1, x.1))[j]? = some q' := e2
    rw [List.getElem?_map] at e5
    cases e6 : xs[j]? with
    | none => rw [e6] at e5; cases e5
    | some x =>
      rw [e6] at e4 e5
      cases e5
      rw [Option.some.inj e4]
      rfl
  refine wpAny_bind (wpAny_newList ?_ (by rw [hal2, hq0]; exact z))
  have hoL : (h'.push (seqObj "list" acc.toList.toArray 0)).get? h'.objs.size = some (seqObj "list" acc.toList.toArray 0) := Heap.get?_push_size _ rfl
  have I2 : Inv X pins σ H { s with heap := h'.push (seqObj "list" acc.toList.toArray 0), toks := tk } := I1.kept (s := { s with heap := h', toks := tk }) fun b u e => Heap.get?_push_of_some _ e
  have hEr : PySem.W.EachIs (fun (u : Value) (q : Addr × List Key) => ∃ as, Reads (h'.push (seqObj "list" acc.toList.toArray 0)) u (keyD q.2) as ∧ h'.objs.size ∉ as) acc.toList qs0 := EachIs_and hE fun u q hq eu => by
    subst eu
    have ht := tq q hq
    obtain ⟨as, hr⟩ := Dp.reads I2 (keyD q.2) (.ref q.1) (.ref q.1) (.tup (.inl (.inl ht)) (keysDat_q q.2).dp) rfl
    refine ⟨as, hr, ?_⟩
    rw [reads_flat hr]
    simp
  show wpAny _ _ _ _ _ { s with heap := h'.push (seqObj "list" acc.toList.toArray 0), toks := tk }
  refine wpAny_bind (wpAny_holding (list_sort_any (s := { s with heap := h'.push (seqObj "list" acc.toList.toArray 0), toks := tk }) (enc := fun q : Addr × List Key => keyD q.2) hoL hE hEr (by rw [henc]; exact hal) (by rw [henc]; exact hk) (by rw [hq0]; exact z) (fun b hb => ?_) fun out ho eo => ?_))
  · have e1 : b.2 ∈ kvs.map (·.1) := by rw [← hqk]; exact List.mem_map_of_mem hb
    have := hdep b.2 e1
    show X.A.units + 1 + 1 + (keyD b.2).depth < cLine
    omega
  · obtain ⟨e', he'⟩ := PyProof.Rows.sortedHeap_at (vs := acc.toList) (out := out.toArray) hoL
    have hlen : ((qs0.mergeSort (PySem.W.dataLe false fun q : Addr × List Key => keyD q.2)).map fun q => V.ref q.1).length ≤ sizeLine := by
      rw [List.length_map, List.length_mergeSort, hq0]; exact z
    refine wpAny_pure ⟨_, rfl, .ref h'.objs.size, upd H h'.objs.size (.lst ((qs0.mergeSort (PySem.W.dataLe false fun q : Addr × List Key => keyD q.2)).map fun q => V.ref q.1)), I1.laid (t' := tk) (fun b u e => ?_) (Nat.le_refl _)
      (show ObjOk X.prog X.w _ _ _ (.lst _) from ⟨hlen, out, e', each_refs eo, he'⟩), rfl, q _ (fun b hb => tq b (List.mem_mergeSort.mp hb)) ?_ _ (I1.hok.fresh (Nat.le_refl _))⟩
    · have hb : b < h'.objs.size := Heap.lt_size e
      rw [PyProof.Rows.sortedHeap_old (Nat.ne_of_lt hb) (by rw [size_push']; exact Nat.lt_succ_of_lt hb)]
      exact Heap.get?_push_of_some _ e
    · have e1 := PySem.W.sort_maps (r := PySem.W.dataLe false fun q : Addr × List Key => keyD q.2) (s := PySem.W.dataLe false keyD) (fun q : Addr × List Key => q.2) (l := qs0) (fun _ _ _ _ => rfl)
      exact e1.trans (by rw [hqk])
end PD
end

section
set_option Elab.async false
set_option linter.all false
set_option maxRecDepth 100000
set_option maxHeartbeats 1000000
namespace PD
open PySem PySem.Spec PyProof.Rows L2
variable {X : Cx} {W : WX} {pos : Pos} {e e1 e2 e3 : Expr} {es : List Expr} {f g h : M PyData} {fs : M (List PyData)} {fb gb : M Bool}
variable {K : PySem.W.Frag} {ph : Fx} {am am' am1 : Am} {H H' H1 : Hp} {σ σ' : L2.St} {δ δ' δ1 : Sg} {a p p1 p2 : Addr} {v : V} {vs : List V} {d : PyData} {ds : List PyData} {i : Nat}
theorem df_callB {id : String} {x : Str} {pf : Pos} {r : List V → Hp → VK → Prop} {F : List PyData → Option (List PyData)} (hr : CallF X r F) (hc : CallR X (.builtin id) r) (hm : X.mg x = none) (hv : bootBuiltins x = some (.builtin id)) (h : DA X W (e :: es) fs)
    (hg : Gl X x := by rfl) (hn : x ≠ "__name__" := by decide) (hdb : (x == ("__debug__" : Str)) = false := by decide)
    (he : starEach (e :: es) X.env = (false, eval e X.env) :: starEach es X.env := by rfl) (hpl : (backTo pos (starEach es X.env)).any (·.1) = false := by rfl) : DF X W (.Call (.Name x pf) (e :: es) [] pos) (xCallF F fs) :=
  callF_core hr h fun t pa => pe_callB hc hg hm hv pa hn hdb he hpl
/-- sorted(xs), xs any list -/
theorem df_sorted {pf : Pos} (hu : X.A.units + 65 < cLine) (hm : X.mg "sorted" = none) (h : DA X W [e] fs) (hg : Gl X "sorted" := by rfl)
    (he : starEach [e] X.env = (false, eval e X.env) :: starEach [] X.env := by rfl) (hpl : (backTo pos (starEach [] X.env)).any (·.1) = false := by rfl) : DF X W (.Call (.Name "sorted" pf) [e] [] pos) (xCallF sortedF fs) :=
  df_callB callf_sort (cr_sortDat hu) hm (by decide +kernel) h hg (by decide) (by decide) he hpl
/-- a list that holds () alone -/
def isUnit : List PyData → Bool
  | [.tuple []] => true
  | _ => false
theorem isUnit_is {ds : List PyData} (h : isUnit ds = true) : ds = [.tuple []] := by
  unfold isUnit at h
  split at h
  · rfl
  · cases h
theorem okUnit {ds : List PyData} (h : (okSort ds || isUnit ds) = true) : PySem.W.AllAlike ds ∧ (PySem.W.Sortable ds ∨ ds = [.tuple []]) ∧ ∀ d, d ∈ ds → d.depth ≤ 40 := by
  rcases Bool.or_eq_true _ _ ▸ h with h | h
  · obtain ⟨g1, g2, g3⟩ := okSort_is h
    exact ⟨g1, .inl g2, g3⟩
  · have := isUnit_is h
    subst this
    refine ⟨fun d hd d' hd' => ?_, .inr rfl, fun d hd => ?_⟩
    · rw [List.mem_singleton.mp hd, List.mem_singleton.mp hd']
      simp [PySem.W.alike, PySem.W.alikeAll]
    · rw [List.mem_singleton.mp hd]
      simp [PyData.depth, PyData.depthAll]
/-- sorted(x), x a dict of one's own whose keys are tuples -/
def xSortDi (i : Nat) : M (List PyData) := fun δ => match δ[i]? with
  | some (.od (.t kvs)) => if (okSort ((kvs.map (·.1)).map keyD) || isUnit ((kvs.map (·.1)).map keyD)) = true ∧ kvs.length ≤ sizeLine then some (.ok (sortD ((kvs.map (·.1)).map keyD)), δ) else none
  | _ => none
theorem tups_q (s : SR K ph am σ H δ) : ∀ {qs : List (Addr × List Key)}, TupsAt H qs → DqAll K (hid ph am H) (qs.map fun q => V.ref q.1) (qs.map fun q => keyD q.2)
  | [], _ => .nil
  | q :: qs, h => .cons (.tup (s.tup_seen (h q (List.mem_cons_self ..))) (keysDat_q q.2)) (tups_q s fun r hr => h r (List.mem_cons_of_mem _ hr))
theorem df_sortDi {x : Str} {pn pf : Pos} (hc : X.calm = true) (hu : X.A.units + 65 < cLine) (hm : X.mg "sorted" = none) (hN : X.N[i]? = some x := by rfl) (hv : Vis X.env.scope x := by first | exact Or.inl rfl | exact Or.inr (Or.inl rfl) | exact Or.inr (Or.inr rfl)) (hd : (x == ("__debug__" : Str)) = false := by decide) (hcd : (x == ("__classdict__" : Str)) = false := by decide) (hg : Gl X "sorted" := by rfl)
    (he : starEach [.Name x pn] X.env = (false, eval (.Name x pn) X.env) :: starEach [] X.env := by rfl) (hpl : (backTo pos (starEach [] X.env)).any (·.1) = false := by rfl) : DF X W (.Call (.Name "sorted" pf) [.Name x pn] [] pos) (xSortDi i) := by
  refine ⟨⟨_, pe_callB (cr_sortDi hc hu) hg hm (by decide +kernel) (pa_cons (pe_var hN hv hd hcd) pa_nil he) (by decide) (by decide) he hpl, fun ph am σ H δ Q ans δ' s z k kx => ?_⟩⟩
  unfold xSortDi at z
  split at z
  · rename_i kvs e3
    obtain ⟨⟨z1, z2⟩, e4⟩ := if_some z
    cases e4
    obtain ⟨a0, u0, o1, o2, o3, o4, o5⟩ := s.od i _ e3
    refine ⟨.ref a0, o2, ?_⟩
    cases u0 with
    | dT us =>
      obtain ⟨k1, k2⟩ := o4
      obtain ⟨g1, g2, g3⟩ := okUnit z1
      refine ⟨a0, us, rfl, o3, by rw [k1]; exact g1, by rw [k1]; exact g2, fun k hk => g3 _ (List.mem_map_of_mem (by rw [← k1]; exact hk)), fun qs t eq p np => ?_⟩
      have e5 : qs.map (fun q => keyD q.2) = sortD ((kvs.map (·.1)).map keyD) := by
        have e6 := PySem.W.sort_maps (r := PySem.W.dataLe false keyD) (s := PySem.W.dataLe false fun d => d) keyD (l := kvs.map (·.1)) (fun _ _ _ _ => rfl)
        rw [sortD_eq, ← e6, ← k1, ← eq]
        exact (List.map_map (f := fun q : Addr × List Key => q.2) (g := keyD) (l := qs)).symm
      have e7 : qs.length = kvs.length := by
        have := congrArg List.length eq
        rw [k1, List.length_map, List.length_mergeSort, List.length_map] at this
        exact this
      refine k _ rfl am p _ H np np Step.refl s ?_ (by rw [List.length_map, e7]; exact z2)
      rw [← e5]
      exact tups_q s t
    | _ => exact o4.elim
  · cases z
end PD
end

section
set_option Elab.async false
set_option linter.all false
set_option maxRecDepth 100000
set_option maxHeartbeats 1000000
namespace PD
open PySem PySem.Spec PyProof.Rows L2
variable {X : Cx} {W : WX} {pos : Pos} {e e1 e2 e3 : Expr} {es : List Expr} {f g h : M PyData} {fs : M (List PyData)} {fb gb : M Bool}
variable {K : PySem.W.Frag} {ph : Fx} {am am' am1 : Am} {H H' H1 : Hp} {σ σ' : L2.St} {δ δ' δ1 : Sg} {a p p1 p2 : Addr} {v : V} {vs : List V} {d : PyData} {ds : List PyData} {i : Nat}
theorem hu1 {A : Around} {k : Nat} (hr : Room k A) : A.units + 1 < cLine := by have := hr.un; omega
theorem hu65 {A : Around} {k : Nat} (hr : Room k A) : A.units + 65 < cLine := by have := hr.un; omega
/-! ### x, y = a new list, {} -/
def sPar2D (fs : M (List PyData)) (o : DiO) (i j : Nat) : MS := bnd fs fun ds => fun δ => match δ[i]? with
  | some c => if c.free = true then (match (δ.set i (.ow false ds))[j]? with
    | some c2 => if c2.free = true then some (.ok .nx, (δ.set i (.ow false ds)).set j (.od o)) else none
    | none => none) else none
  | none => none
theorem par2D_core {x y : Str} {px py pt pd : Pos} {kt k2 pt2} {o : DiO} {u0 : HO} {t2 : TE} (p2 : PE X (.Dict [] [] pd) t2) (ht : t2 = fun _ H Q => ∀ p, H p = none → Q (.ref p) (upd H p u0)) (hu : ∀ H p, DOR X.K p H u0 o)
    (hc : X.calm = true) (hN : X.N.Nodup) (he1 : DF X W e1 fs) (hi : X.N[i]? = some x := by rfl) {j : Nat} (hj : X.N[j]? = some y := by rfl) (hij : i ≠ j := by decide)
    (hx : X.env.scope.names.lookup x = some .local := by rfl) (hy : X.env.scope.names.lookup y = some .local := by rfl)
    (hw : swappedStores [.Tuple [.Name x px, .Name y py] kt pt] (.Tuple [e1, .Dict [] [] pd] k2 pt2) X.env = pure (some [x, y]) := by rfl)
    (hs : swapsWithSole [.Tuple [.Name x px, .Name y py] kt pt] (.Tuple [e1, .Dict [] [] pd] k2 pt2) pos.line X.env = pure false := by rfl)
    (hs1 : starEach [e1, .Dict [] [] pd] X.env = (false, eval e1 X.env) :: starEach [.Dict [] [] pd] X.env := by rfl) (hs2 : starEach [.Dict [] [] pd] X.env = (false, eval (.Dict [] [] pd) X.env) :: starEach [] X.env := by rfl) :
    DS X W (.Assign [.Tuple [.Name x px, .Name y py] kt pt] (.Tuple [e1, .Dict [] [] pd] k2 pt2) pos) (sPar2D fs o i j) := by
  subst ht
  obtain ⟨t1, p1, q1⟩ := he1.ex
  refine ⟨⟨_, ps_par hc hN hi hj hij hx hy (pa_cons p1 (pa_cons p2 pa_nil hs2) hs1) hw hs, fun ph am σ H δ D ans δ' s z k kx => ?_⟩⟩
  rcases bnd_some z with ⟨ds, δ1, e1, e2⟩ | ⟨c, fs, e1, e2⟩
  · refine q1 ph am σ H δ _ _ _ s e1 (fun d' ed am1 p vs H1 n0 n1 st1 s1 dv hz => ?_) (fun c fs z => by cases z)
    cases ed
    intro q nq
    split at e2
    · rename_i c e3
      split at e2
      · rename_i h1
        split at e2
        · rename_i c2 e4
          obtain ⟨h2, e5⟩ := if_some e2
          cases e5
          have s2 := s1.putOwn e3 h1 n1 dv hz
          have s3 := s2.putDi (u := u0) (o := o) e4 h2 nq (hu _ _)
          exact ⟨_, _, rfl, k _ rfl _ _ _ ((st1.trans (step_put n1)).trans (step_putU nq)) s3⟩
        · cases e2
      · cases e2
    · cases e2
  · subst e2
    exact q1 ph am σ H δ _ _ _ s e1 (fun d ed => by cases ed) (fun c' fs' z => by cases z; exact (kx _ _ rfl).at)
theorem ds_par2K {x y : Str} {px py pt pd : Pos} {kt k2 pt2} (hc : X.calm = true) (hN : X.N.Nodup) (he1 : DF X W e1 fs) (hi : X.N[i]? = some x := by rfl) {j : Nat} (hj : X.N[j]? = some y := by rfl) (hij : i ≠ j := by decide)
    (hx : X.env.scope.names.lookup x = some .local := by rfl) (hy : X.env.scope.names.lookup y = some .local := by rfl)
    (hw : swappedStores [.Tuple [.Name x px, .Name y py] kt pt] (.Tuple [e1, .Dict [] [] pd] k2 pt2) X.env = pure (some [x, y]) := by rfl)
    (hs : swapsWithSole [.Tuple [.Name x px, .Name y py] kt pt] (.Tuple [e1, .Dict [] [] pd] k2 pt2) pos.line X.env = pure false := by rfl)
    (hs1 : starEach [e1, .Dict [] [] pd] X.env = (false, eval e1 X.env) :: starEach [.Dict [] [] pd] X.env := by rfl) (hs2 : starEach [.Dict [] [] pd] X.env = (false, eval (.Dict [] [] pd) X.env) :: starEach [] X.env := by rfl) :
    DS X W (.Assign [.Tuple [.Name x px, .Name y py] kt pt] (.Tuple [e1, .Dict [] [] pd] k2 pt2) pos) (sPar2D fs (.k []) i j) :=
  par2D_core (o := .k []) (u0 := .dK []) pe_dnewK rfl (fun _ _ => ⟨rfl, .nil⟩) hc hN he1 hi hj hij hx hy hw hs hs1 hs2
theorem ds_par2T {x y : Str} {px py pt pd : Pos} {kt k2 pt2} (hc : X.calm = true) (hN : X.N.Nodup) (he1 : DF X W e1 fs) (hi : X.N[i]? = some x := by rfl) {j : Nat} (hj : X.N[j]? = some y := by rfl) (hij : i ≠ j := by decide)
    (hx : X.env.scope.names.lookup x = some .local := by rfl) (hy : X.env.scope.names.lookup y = some .local := by rfl)
    (hw : swappedStores [.Tuple [.Name x px, .Name y py] kt pt] (.Tuple [e1, .Dict [] [] pd] k2 pt2) X.env = pure (some [x, y]) := by rfl)
    (hs : swapsWithSole [.Tuple [.Name x px, .Name y py] kt pt] (.Tuple [e1, .Dict [] [] pd] k2 pt2) pos.line X.env = pure false := by rfl)
    (hs1 : starEach [e1, .Dict [] [] pd] X.env = (false, eval e1 X.env) :: starEach [.Dict [] [] pd] X.env := by rfl) (hs2 : starEach [.Dict [] [] pd] X.env = (false, eval (.Dict [] [] pd) X.env) :: starEach [] X.env := by rfl) :
    DS X W (.Assign [.Tuple [.Name x px, .Name y py] kt pt] (.Tuple [e1, .Dict [] [] pd] k2 pt2) pos) (sPar2D fs (.t []) i j) :=
  par2D_core (o := .t []) (u0 := .dT []) pe_dnewT rfl (fun _ _ => ⟨rfl, .nil⟩) hc hN he1 hi hj hij hx hy hw hs hs1 hs2
/-! ### sorted(set(xs)), xs a list of ints: what it gives -/
def intsOf : List PyData → Option (List Int)
  | [] => some []
  | .int i :: ds => (intsOf ds).map (i :: ·)
  | _ => none
def insI (x : Int) : List Int → List Int
  | [] => [x]
  | y :: ys => cond (decide (x < y)) (x :: y :: ys) (cond (decide (x = y)) (y :: ys) (y :: insI x ys))
def setI : List Int → List Int
  | [] => []
  | x :: xs => insI x (setI xs)
def sortSetF : List PyData → Option (List PyData)
  | [.list ds] => match intsOf ds with
    | some ns => if ns.length < 64 then some ((setI ns).map .int) else none
    | none => none
  | _ => none
theorem insI_mem {x y : Int} : ∀ {l : List Int}, y ∈ insI x l ↔ y = x ∨ y ∈ l
  | [] => by simp [insI]
  | z :: l => by
    unfold insI
    by_cases h1 : x < z
    · rw [decide_eq_true h1, cond_true, List.mem_cons]
    · rw [decide_eq_false h1, cond_false]
      by_cases h2 : x = z
      · rw [decide_eq_true h2, cond_true, h2]
        simp
      · rw [decide_eq_false h2, cond_false, List.mem_cons, insI_mem (l := l), List.mem_cons]
        constructor
        · rintro (h | h | h)
          · exact .inr (.inl h)
          · exact .inl h
          · exact .inr (.inr h)
        · rintro (h | h | h)
          · exact .inr (.inl h)
          · exact .inl h
          · exact .inr (.inr h)
theorem insI_sorted {x : Int} : ∀ {l : List Int}, l.Pairwise (· < ·) → (insI x l).Pairwise (· < ·)
  | [], _ => by simp [insI]
  | y :: l, hs => by
    obtain ⟨h1, h2⟩ := List.pairwise_cons.mp hs
    unfold insI
    by_cases g1 : x < y
    · rw [decide_eq_true g1, cond_true]
      refine List.pairwise_cons.mpr ⟨fun z hz => ?_, hs⟩
      rcases List.mem_cons.mp hz with rfl | hz
      · exact g1
      · have := h1 z hz; omega
    · rw [decide_eq_false g1, cond_false]
      by_cases g2 : x = y
      · rw [decide_eq_true g2, cond_true]; exact hs
      · rw [decide_eq_false g2, cond_false]
        refine List.pairwise_cons.mpr ⟨fun z hz => ?_, insI_sorted h2⟩
        rcases insI_mem.mp hz with rfl | hz
        · omega
        · exact h1 z hz
theorem setI_sorted : ∀ l : List Int, (setI l).Pairwise (· < ·)
  | [] => .nil
  | _ :: l => insI_sorted (setI_sorted l)
theorem setI_mem {y : Int} : ∀ {l : List Int}, y ∈ setI l ↔ y ∈ l
  | [] => by simp [setI]
  | x :: l => by rw [setI, insI_mem, setI_mem (l := l), List.mem_cons]
/-- a list in order without repeats is known by its members -/
theorem lt_unique : ∀ {l m : List Int}, l.Pairwise (· < ·) → m.Pairwise (· < ·) → (∀ y, y ∈ l ↔ y ∈ m) → l = m
  | [], [], _, _, _ => rfl
  | [], b :: m, _, _, h => by have := (h b).mpr (List.mem_cons_self ..); simp at this
  | a :: l, [], _, _, h => by have := (h a).mp (List.mem_cons_self ..); simp at this
  | a :: l, b :: m, hl, hm, h => by
    obtain ⟨l1, l2⟩ := List.pairwise_cons.mp hl
    obtain ⟨m1, m2⟩ := List.pairwise_cons.mp hm
    have e : a = b := by
      rcases List.mem_cons.mp ((h a).mp (List.mem_cons_self ..)) with e | q
      · exact e
      · rcases List.mem_cons.mp ((h b).mpr (List.mem_cons_self ..)) with e | r
        · exact e.symm
        · have := l1 b r; have := m1 a q; omega
    subst e
    rw [lt_unique l2 m2 fun y => ?_]
    have hy := h y
    rw [List.mem_cons, List.mem_cons] at hy
    constructor
    · intro q
      rcases hy.mp (.inr q) with e | r
      · have := l1 y q; omega
      · exact r
    · intro q
      rcases hy.mpr (.inr q) with e | r
      · have := m1 y q; omega
      · exact r
end PD
end

section
set_option Elab.async false
set_option linter.all false
set_option maxRecDepth 100000
set_option maxHeartbeats 3200000
namespace PD
open PySem PySem.Spec PyProof.Rows L2
section
variable {P : Program} {w : World} {A : Around} {E : Value → Shared → Prop} {s : Shared}
/-- a new set -/
abbrev setNew (w : World) : Obj := { cls := .type "set", dict := none, data := .set #[] 0 (.fresh 0 0 (!w.params.followText "set-order")) }
/-- what is known behind set(xs): the set, all else as it was -/
def MadeSet (w : World) (s : Shared) (ns : List Int) (s' : Shared) : Prop := ∃ h' tk c, s' = { s with heap := h', toks := tk } ∧ SetR w h' s.heap.objs.size (fun j => decide (j ∈ ns)) c ∧ c ≤ ns.length ∧ ∀ b o, s.heap.get? b = some o → h'.get? b = some o
/-- the loop that takes the items up -/
theorem take_up {l : Addr} {items : Array Value} {ns : List Int} (hh : A.handled = none) (hl : s.heap.IsList l items) (hit : IntsAre items.toList ns) (hb : ns.length + 1 < scanBound) :
    wpAny (model P w) A (pyIter (.ref l)) (fun it s1 => wpAny (model P w) A (runValue (.builtin "set.update.loop" ⟨[.ref s.heap.objs.size, it], []⟩)) (fun r s' => r = .none ∧ MadeSet w s ns s') E s1) E { s with heap := s.heap.push (setNew w) } := by
  have hisz : items.size = ns.length := by
    have q := IntsAre.length hit
    rwa [Array.length_toList] at q
  have hl1 : (s.heap.push (setNew w)).IsList l items := by
    obtain ⟨o, ho, r⟩ := hl
    exact ⟨o, Heap.get?_push_of_some _ ho, r⟩
  have hlS : l < s.heap.objs.size := by
    obtain ⟨o, ho, _⟩ := hl
    exact Heap.lt_size ho
  have z1 : (s.heap.push (setNew w)).objs.size = s.heap.objs.size + 1 := Heap.size_push ..
  have n1 : l ≠ (s.heap.push (setNew w)).objs.size := by
    rw [z1]; exact Nat.ne_of_lt (Nat.lt_succ_of_lt hlS)
  have n2 : s.heap.objs.size ∉ [(s.heap.push (setNew w)).objs.size, l] := by
    rw [z1]
    simp only [List.mem_cons, List.not_mem_nil, or_false, not_or]
    exact ⟨Nat.ne_of_lt (Nat.lt_succ_self _), Nat.ne_of_gt hlS⟩
  refine wpAny_pyIter_list hl1 ?_
  refine wpAny_runValue ?_
  refine set_update_ints ((Walks.list (A := A.in1) (by simpa using hh) (s.heap.push (setNew w)).objs.size l n1 items).toS) s.heap.objs.size n2 ns hisz hb (fun i v hv => ?_)
    (items.size - 0) 0 _ (by omega) (Nat.zero_le _) ⟨⟨_, Heap.get?_push_size _ rfl, rfl, rfl⟩, ?_⟩ ⟨0, Nat.le_refl 0, setR_new_at (Heap.get?_push_of_some _ (Heap.get?_push_size _ rfl))⟩ fun s' c hm hc hS => ?_
  · have hi : i < ns.length := by rw [← hisz]; exact (Array.getElem?_eq_some_iff.mp hv).1
    obtain ⟨t, e⟩ := PyProof.Rows.IntsAre.int_at hit i v (by rw [Array.getElem?_toList]; exact hv)
    exact ⟨ns[i], t, List.getElem?_eq_getElem hi, by rw [e, List.getD_eq_getElem?_getD, List.getElem?_eq_getElem hi]; rfl⟩
  · obtain ⟨o, ho, r⟩ := hl1
    exact ⟨o, Heap.get?_push_of_some _ ho, r⟩
  · obtain ⟨h', g2, d', tk', os'⟩ := s'
    have eg : g2 = s.gens := hm.gens
    have ed : d' = s.drawn := hm.drawn
    have eo : os' = s.os := hm.os
    subst eg; subst ed; subst eo
    refine ⟨rfl, h', tk', c, rfl, hS, by rw [← hisz]; exact hc, fun b o e => ?_⟩
    have hb0 : b < s.heap.objs.size := Heap.lt_size e
    refine hm.heap b o ?_ (Heap.get?_push_of_some _ (Heap.get?_push_of_some _ e))
    rw [z1]
    simp only [List.mem_cons, List.not_mem_nil, or_false, not_or]
    exact ⟨Nat.ne_of_lt hb0, Nat.ne_of_lt (Nat.lt_succ_of_lt hb0)⟩
/-- set(xs), xs a list of ints -/
theorem set_ints {l : Addr} {items : Array Value} {ns : List Int} {Q : Value → Shared → Prop} (hh : A.handled = none) (hl : s.heap.IsList l items) (hit : IntsAre items.toList ns) (hb : ns.length + 1 < scanBound)
    (h : ∀ s', MadeSet w s ns s' → Q (.ref s.heap.objs.size) s') : wpAny (model P w) A (call (.type "set") [.ref l]) Q E s := by
  obtain ⟨c, tl, hmro⟩ := F.called_set.mro
  have hmade := F.called_set.made
  have hsub := F.called_set.sub
  have h1 := F.called_set.notType
  have h2 := F.called_set.canCreate
  have hct := F.typeCall_set_1 (.ref l)
  refine wpAny_call (codeAny_of_tree (wpAny_pure ⟨Code.quiet_builtin _ (by decide +kernel), codeAny_builtin F.entry_type_call ?_⟩))
  rw [Around.under_plain (weight_type_call_type "set" [.ref l] []) rfl]
  repeat (any_goals (first | assumption | wp_step))
  refine codeAny_mono (code_set_led1 (.ref l) (E := E) (Q₁ := fun obj s₁ => obj = .ref s.heap.objs.size ∧ s₁ = { s with heap := s.heap.push (setNew w) }) ⟨rfl, rfl⟩) fun r s₁ hr => ?_
  match r, hr with
  | .error e, hr => exact hr
  | .ok (.ret obj), hr =>
    obtain ⟨rfl, rfl⟩ := hr
    have hT : Shared.TypeIs { s with heap := s.heap.push (setNew w) } (.ref s.heap.objs.size) "set" := ⟨_, Heap.get?_push_size _ rfl, rfl⟩
    have hli := F.called_set.init.lookup
    have hbi := F.called_set.init.bind (.ref s.heap.objs.size)
    repeat (any_goals (first | assumption | wp_step))
    refine codeAny_mono (codeAny_call_builtin (R := wants (fun r s' => r = .none ∧ MadeSet w s ns s') E) F.called_set.init.plain F.entry_set_init (check_set_init_1 hT ?_)) fun r₂ s₂ hr₂ => ?_
    · have ht := fun (A' : Around) (hA : A'.handled = none) => take_up (P := P) (w := w) (A := A') (E := E) (s := s) hA hl hit hb
      obtain ⟨⟨ocls, odict, odata, oslots⟩, hol, hcl, nl, hdl⟩ := hl
      simp only at hcl hdl
      subst hcl; subst hdl
      have hol' : (s.heap.push (setNew w)).get? l = some { cls := .type "list", dict := odict, data := .seq items nl, slots := oslots } := Heap.get?_push_of_some _ hol
      have f1 := F.sub_list_set
      have f2 := F.sub_list_frozenset
      have f3 : (Value.type "list" == Value.type "dict") = false := by decide
      unfold Builtin.«set.__init__» noKeywords Builtin.Frozenset.updateFrom
      generalize hPI : pyIter = PI at ht ⊢
      wp_walk
      refine wpAny_mono (ht _ (by simpa using hh)) (fun a s1 q => ?_) (fun _ _ e => e)
      refine wpAny_bind (wpAny_mono q (fun r s2 m => ?_) (fun _ _ e => e))
      refine wpAny_pure ?_
      show wpAny _ _ (PySem.ret Value.none) _ _ _
      exact wpAny_pure ⟨rfl, m.2⟩
    · match r₂, hr₂ with
      | .error e, hr₂ => exact hr₂
      | .ok (.ret r), hr₂ =>
        obtain ⟨rfl, hm⟩ := hr₂
        repeat (any_goals (first | assumption | wp_step))
        exact h _ hm
end
variable {X : Cx} {W : WX} {pos : Pos} {e : Expr} {es : List Expr} {fs : M (List PyData)}
variable {K : PySem.W.Frag} {ph : Fx} {am : Am} {H : Hp} {vs : List V} {ds : List PyData}
def rSetI (K : PySem.W.Frag) (w : World) : List V → Hp → VK → Prop := fun xs H Q => ∃ (l : Addr) (ns : List Int), xs = [V.ref l] ∧ SqL K H l (ns.map V.int) ∧ ns.length < 64 ∧
  ∀ a c, H a = none → c ≤ ns.length → Q (.ref a) (upd H a (SetO w a (fun j => decide (j ∈ ns)) c))
theorem cr_setI (hc : X.calm = true) : CallR X (.type "set") (rSetI X.K X.w) := by
  intro pins s σ H xs us Q I r h
  obtain ⟨l, ns, rfl, hl, hf, q⟩ := h
  rw [Vals.ref1 r]
  obtain ⟨its, rv, pl, hz⟩ := I.list hl
  refine set_ints (I.ok.hd hc) pl.isList (ns := ns) (by simpa using rv.ints) (by unfold scanBound; omega) fun s' m => ?_
  obtain ⟨h', tk, c, rfl, R, hle, k⟩ := m
  exact ⟨.ref s.heap.objs.size, upd H s.heap.objs.size (SetO X.w s.heap.objs.size _ c), I.laid (t' := tk) k (Nat.le_refl _) (setO_new R), rfl, q _ c (I.hok.fresh (Nat.le_refl _)) hle⟩
theorem intsOf_q : ∀ {vs : List V} {ds : List PyData} {ns : List Int}, DqAll K H vs ds → intsOf ds = some ns → vs = ns.map V.int
  | _, _, _, .nil, e => by cases e; rfl
  | _, _, _, .cons h t, e => by
    cases h with
    | int i =>
      obtain ⟨ns, e1, rfl⟩ := Option.map_eq_some_iff.mp e
      rw [intsOf_q t e1]
      rfl
    | _ => cases e
theorem ints_q : ∀ ns : List Int, DqAll K H (ns.map V.int) (ns.map .int)
  | [] => .nil
  | n :: ns => .cons (.int n) (ints_q ns)
theorem setI_length : ∀ l : List Int, (setI l).length ≤ l.length := by
  have h : ∀ (x : Int) (l : List Int), (insI x l).length ≤ l.length + 1 := by
    intro x l
    induction l with
    | nil => simp [insI]
    | cons y l ih =>
      unfold insI
      cases decide (x < y) with
      | true => simp
      | false =>
        cases decide (x = y) with
        | true => simp
        | false => simpa using ih
  intro l
  induction l with
  | nil => simp [setI]
  | cons x l ih =>
    have := h x (setI l)
    rw [setI, List.length_cons]
    omega
/-- sorted(set(xs)), xs a list of fewer than 64 ints -/
theorem df_sortSet {pf ps p2 : Pos} (hc : X.calm = true) (hu : X.A.units + 65 < cLine) (hm : X.mg "sorted" = none) (hm2 : X.mg "set" = none) (h : DA X W [e] fs) (hg : Gl X "sorted" := by rfl) (hg2 : Gl X "set" := by rfl)
    (he : starEach [e] X.env = (false, eval e X.env) :: starEach [] X.env := by rfl) (hpl : (backTo p2 (starEach [] X.env)).any (·.1) = false := by rfl)
    (he2 : starEach [.Call (.Name "set" ps) [e] [] p2] X.env = (false, eval (.Call (.Name "set" ps) [e] [] p2) X.env) :: starEach [] X.env := by rfl) (hpl2 : (backTo pos (starEach [] X.env)).any (·.1) = false := by rfl) :
    DF X W (.Call (.Name "sorted" pf) [.Call (.Name "set" ps) [e] [] p2] [] pos) (xCallF sortSetF fs) := by
  obtain ⟨t, pt, qt⟩ := h.ex
  refine ⟨⟨_, pe_callB (cr_sortedSet hc) hg hm (by decide +kernel) (pa_cons (pe_callTy (cr_setI hc) hg2 hm2 (by decide +kernel) pt (by decide) (by decide) he hpl) pa_nil he2) (by decide) (by decide) he2 hpl2, fun ph am σ H δ Q ans δ' s z k kx => ?_⟩⟩
  rcases bnd_some z with ⟨xs, δ1, e1, e2⟩ | ⟨c, fs, e1, e2⟩
  · refine qt ph am σ H δ _ _ _ s e1 (fun d' ed am1 us H1 st1 s1 dv => ?_) (fun c fs z => by cases z)
    cases ed
    obtain ⟨rs, e3, rfl, rfl⟩ := lif_some e2
    cases dv with
    | nil => cases e3
    | cons g t =>
      cases t with
      | cons _ _ => cases g <;> cases e3
      | nil =>
        cases g with
        | lst h1 a1 =>
          unfold sortSetF at e3
          simp only at e3
          split at e3
          · rename_i ns e4
            obtain ⟨hz, rfl⟩ := if_some e3
            have ev := intsOf_q a1 e4
            subst ev
            refine ⟨_, ns, rfl, rd_hid h1, hz, fun a c na hle => ?_⟩
            have sm : Same H1 (upd H1 a (SetO X.w a (fun j => decide (j ∈ ns)) c)) := same_new na
            refine ⟨a, _, c, rfl, upd_same, by omega, fun ms p hs hms hl np => ?_⟩
            have em : ms = setI ns := lt_unique hs (setI_sorted ns) fun y => by rw [hms y, setI_mem]; simp
            subst em
            have st := st1.trans (Step.of (am := am1) sm)
            exact k _ rfl am1 p _ _ (st.none np) np st (s1.same sm) (ints_q _) (by rw [List.length_map, sizeLine_eq]; have := setI_length ns; omega)
          · cases e3
        | _ => cases e3
  · subst e2
    exact qt ph am σ H δ _ _ _ s e1 (fun d ed => by cases ed) (fun c' fs' z => by cases z; exact kx _ _ rfl)
/-! ### x, y = e, a new list that y is to own -/
def sPar2E (f : M PyData) (fs : M (List PyData)) (i j : Nat) : MS := bnd f fun d => bnd fs fun ds => fun δ => match sName i d δ with
  | some δ1 => (match δ1[j]? with
    | some c => if c.free = true then some (.ok .nx, δ1.set j (.ow false ds)) else none
    | none => none)
  | none => none
theorem ds_par2E {e1 e2 : Expr} {f : M PyData} {i : Nat} {x y : Str} {px py pt : Pos} {kt k2 pt2} (hc : X.calm = true) (hN : X.N.Nodup) (he1 : DE X W e1 f) (he2 : DF X W e2 fs) (hi : X.N[i]? = some x := by rfl) {j : Nat} (hj : X.N[j]? = some y := by rfl) (hij : i ≠ j := by decide)
    (hx : X.env.scope.names.lookup x = some .local := by rfl) (hy : X.env.scope.names.lookup y = some .local := by rfl)
    (hw : swappedStores [.Tuple [.Name x px, .Name y py] kt pt] (.Tuple [e1, e2] k2 pt2) X.env = pure (some [x, y]) := by rfl)
    (hs : swapsWithSole [.Tuple [.Name x px, .Name y py] kt pt] (.Tuple [e1, e2] k2 pt2) pos.line X.env = pure false := by rfl)
    (hs1 : starEach [e1, e2] X.env = (false, eval e1 X.env) :: starEach [e2] X.env := by rfl) (hs2 : starEach [e2] X.env = (false, eval e2 X.env) :: starEach [] X.env := by rfl) : DS X W (.Assign [.Tuple [.Name x px, .Name y py] kt pt] (.Tuple [e1, e2] k2 pt2) pos) (sPar2E f fs i j) := by
  obtain ⟨t1, p1, q1⟩ := he1.ex
  obtain ⟨t2, p2, q2⟩ := he2.ex
  refine ⟨⟨_, ps_par hc hN hi hj hij hx hy (pa_cons p1 (pa_cons p2 pa_nil hs2) hs1) hw hs, fun ph am σ H δ D ans δ' s z k kx => ?_⟩⟩
  rcases bnd_some z with ⟨d, δ1, e1, e2⟩ | ⟨c, fs, e1, e2⟩
  · refine q1 ph am σ H δ _ _ _ s e1 (fun d' ed am1 v H1 st1 s1 dv => ?_) (fun c fs z => by cases z)
    cases ed
    rcases bnd_some e2 with ⟨ds, δ2, e3, e4⟩ | ⟨c, fs, e3, e4⟩
    · refine q2 ph am1 σ H1 δ1 _ _ _ s1 e3 (fun d' ed am2 p vs H2 n0 n1 st2 s2 dvs hz => ?_) (fun c fs z => by cases z)
      cases ed
      split at e4
      · rename_i δ3 n3
        obtain ⟨c1, f1, f2, rfl⟩ := sName_some n3
        split at e4
        · rename_i c e5
          obtain ⟨h1, e6⟩ := if_some e4
          cases e6
          have s3 := s2.put f1 f2 (dp_mono st2.hid dv)
          have st3 : Step am2 H2 (amDrop am2 i) H2 := step_drop
          have s4 := s3.putOwn e5 h1 n1 (dps_mono st3.hid dvs) hz
          exact ⟨_, _, rfl, k _ rfl _ _ _ (((st1.trans st2).trans st3).trans (step_put n1)) s4⟩
        · cases e4
      · cases e4
    · subst e4
      exact q2 ph am1 σ H1 δ1 _ _ _ s1 e3 (fun d ed => by cases ed) (fun c' fs' z => by cases z; exact ((kx _ _ rfl).step st1).at)
  · subst e2
    exact q1 ph am σ H δ _ _ _ s e1 (fun d ed => by cases ed) (fun c' fs' z => by cases z; exact (kx _ _ rfl).at)
end PD
end

section
set_option Elab.async false
set_option linter.all false
set_option maxRecDepth 100000
set_option maxHeartbeats 2000000
namespace PD
open PySem PySem.Spec PyProof.Rows L2
variable {X : Cx} {W : WX} {pos : Pos} {e e1 e2 e3 : Expr} {es : List Expr} {f g h : M PyData} {fs : M (List PyData)} {fb gb : M Bool}
variable {K : PySem.W.Frag} {ph : Fx} {am am' am1 : Am} {H H' H1 : Hp} {σ σ' : L2.St} {δ δ' δ1 : Sg} {a p p1 p2 D : Addr} {v : V} {vs : List V} {d : PyData} {ds : List PyData} {i : Nat}

/-! ### [e for x in xs if t for y in ys if s] -/
theorem walk_it {J : It} {n : Nat} {G : Hp → Prop} {Y : Nat → Hp → V → Hp → Prop} (w : Walk J n G Y) {H0 : Hp} {Qd : Hp → Prop} (B : (Hp → Prop) → V → Hp → Prop) (Pv : Nat → Hp → Prop) (h0 : Pv 0 H0) (hG : ∀ i H, i ≤ n → Pv i H → G H)
    (hs : ∀ i x H H', i < n → Pv i H → Y i H x H' → B (Pv (i + 1)) x H') (hd : ∀ H, Pv n H → Qd H) :
    ∃ W : Nat → Nat → Hp → Prop, (∃ m, W 0 m H0) ∧ ∀ i m H, W i m H → (J.stop i H ∧ Qd H) ∨ (J.go i H ∧ ∃ Nx : Hp → Prop, (∀ H', Nx H' → ∃ m', m' < m ∧ W (i + 1) m' H') ∧ ∀ x H', J.yld i H x H' → B Nx x H') := by
  refine ⟨fun i m H => m = n - i ∧ i ≤ n ∧ Pv i H, ⟨n, by simp, Nat.zero_le _, h0⟩, ?_⟩
  rintro i m H ⟨rfl, hi, p⟩
  have q := hG i H hi p
  by_cases hlt : i < n
  · refine .inr ⟨w.goes i H hlt q, Pv (i + 1), fun H' p' => ⟨n - (i + 1), by omega, rfl, hlt, p'⟩, fun x H' y => hs i x H H' hlt p (w.yields i H x H' hlt q y)⟩
  · have e : i = n := by omega
    subst e
    exact .inl ⟨w.stops H q, hd H p⟩
def tiOf (K : PySem.W.Frag) (mg : Str → Option Value) (W : WX) (f : M (List PyData)) : TI := fun σ H R => ∃ ph am δ ans δ', SR K ph am σ H δ ∧ f δ = some (ans, δ') ∧
  (∀ ds, ans = .ok ds → ∀ am' H' J, Step am H am' H' → SR K ph am' σ H' δ' → WalkD K ph am' H' J ds → R J H') ∧ (∀ c fs, ans = .ex c fs → XPm K mg W ph am σ H δ' c fs)
theorem DI.can {tg iter : Expr} (d : DI X W tg iter fs) : PI X tg iter (tiOf X.K X.mg W fs) := by
  obtain ⟨t, p, q⟩ := d.ex
  exact ⟨fun pins s σ H R I ⟨ph, am, δ, ans, δ', s1, e, k, kx⟩ => p.run pins s σ H R I (q ph am σ H δ R ans δ' s1 e k kx)⟩
def comp2D (is vs1 : List Nat) (set : Tg) (t : M Bool) (it1 : M (List PyData)) (set1 : Tg) (t1 : M Bool) (el : M PyData) : List PyData → List PyData → Sg → Option (List PyData × Sg)
  | [], acc, δ => some (acc, δ)
  | d :: ds, acc, δ => match set d δ with
    | none => none
    | some δ1 => match t δ1 with
      | some (.ok true, δ2) => match it1 δ2 with
        | some (.ok ds1, δ3) => if noOw δ3 vs1 = true then match compD vs1 set1 t1 el ds1 acc (wipeD δ3 vs1) with
            | some (acc', δ4) => if noOw δ4 is = true then comp2D is vs1 set t it1 set1 t1 el ds acc' (wipeD δ4 is) else none
            | none => none
          else none
        | _ => none
      | some (.ok false, δ2) => if noOw δ2 is = true then comp2D is vs1 set t it1 set1 t1 el ds acc (wipeD δ2 is) else none
      | _ => none
def xComp2 (it : M (List PyData)) (is vs1 : List Nat) (set : Tg) (t : M Bool) (it1 : M (List PyData)) (set1 : Tg) (t1 : M Bool) (el : M PyData) : M (List PyData) := bnd it fun ds => fun δ =>
  if noOw δ is = true then match comp2D is vs1 set t it1 set1 t1 el ds [] (wipeD δ is) with
    | some (acc, δ') => some (.ok acc, backD δ δ' is)
    | none => none
  else none
theorem wipe_sub {is vs1 : List Nat} (hv : ∀ i ∈ vs1, i ∈ is) : L2.wipe (L2.wipe σ vs1) is = L2.wipe σ is := by
  apply List.ext_getElem?
  intro j
  have h1 := wipe_get (is := is) (σ := L2.wipe σ vs1) (j := j)
  have h2 := wipe_get (is := is) (σ := σ) (j := j)
  have h3 := wipe_get (is := vs1) (σ := σ) (j := j)
  rw [h1, h2, h3]
  by_cases hj : j ∈ is
  · rw [if_pos hj, if_pos hj]
    split <;> cases σ[j]? <;> rfl
  · rw [if_neg hj, if_neg hj, if_neg fun z => hj (hv j z)]
theorem comp2_read {ti : TI} {is vs1 : List Nat} {set set1 : Tg} {t t1 : M Bool} {it1 : M (List PyData)} {el : M PyData} (hv : ∀ i ∈ vs1, i ∈ is) (qi : ReadI X W ti fs) :
    ReadF X W (tLc2 ti (tgcOf X.K is set) (ttOf X.K X.mg E00 t) (tiOf X.K X.mg E00 it1) (tgcOf X.K vs1 set1) (ttOf X.K X.mg E00 t1) (tOf X.K X.mg E00 el) is vs1) (xComp2 fs is vs1 set t it1 set1 t1 el) := by
  intro ph am σ H δ Q ans δ' s z k kx
  rcases bnd_some z with ⟨ds, δ1, e1, e2⟩ | ⟨c, fs, e1, e2⟩
  · refine qi ph am σ H δ _ _ _ s e1 (fun d' ed am1 H1 J st1 s1 wd => ?_) (fun c fs z => by cases z)
    cases ed
    split at e2
    · rename_i hno
      split at e2
      · rename_i acc δ2 ec
        cases e2
        intro D hD
        obtain ⟨G, Y, w, hG, hY⟩ := wd
        have nD : ¬ ph.ph D := fun z => by
          obtain ⟨o, h, _⟩ := s1.phs D z
          rw [hD] at h
          cases h
        refine walk_it w _ (fun i H' => ∃ am2 δ3 av ad, Step am1 H1 am2 (del D H') ∧ SR X.K ph am2 (L2.wipe σ is) (del D H') δ3 ∧ H' D = some (.lst av) ∧ DqAll X.K (hid ph am2 (del D H')) av ad ∧ av.length ≤ sizeLine ∧ (∀ i ∈ is, ∀ c, δ3[i]? = some c → c = .un) ∧ comp2D is vs1 set t it1 set1 t1 el (ds.drop i) ad δ3 = some (acc, δ2)) ?_ (fun i H' _ ⟨am2, δ3, av, ad, st, s2, hl, dq, hz, hu, el⟩ => hG (ph.also D) am2 H' (by rw [hid_also]; exact st.hid)) (fun i x H2 H3 hi ⟨am2, δ3, av, ad, st, s2, hl, dq, hz, hu, ee⟩ y => ?_) (fun H' ⟨am2, δ3, av, ad, st, s2, hl, dq, hz, hu, ee⟩ => ?_)
        · rw [del_new hD]
          exact ⟨am1, wipeD δ1 is, [], [], Step.refl, s1.wipe hno, upd_same, .nil, Nat.zero_le _, fun i hi c q => wipeD_in hi q, ec⟩
        · have sA : SR X.K (ph.also D) am2 (L2.wipe σ is) H2 δ3 := s2.also hl
          obtain ⟨d, hd, sm, dqx⟩ := hY i x H2 H3 (ph.also D) am2 hi (by rw [hid_also]; exact st.hid) (fun b h => sA.hidden h) y
          have hdr : ds.drop i = d :: ds.drop (i + 1) := by
            obtain ⟨h1, h2⟩ := List.getElem?_eq_some_iff.mp hd
            rw [List.drop_eq_getElem_cons h1, h2]
          rw [hdr] at ee
          unfold comp2D at ee
          split at ee
          · cases ee
          · rename_i δ4 es
            refine ⟨ph.also D, am2, δ3, δ4, d, sA.same sm, dqx, es, fun am4 σ4 st4 s4 w4 => ?_⟩
            rw [wipe_wipe] at w4
            -- the state at the start of a turn of the outer walk
            have fin : ∀ {am6 : Am} {H6 : Hp} {δ6 : Sg} {av6 : List V} {ad6 : List PyData}, Step am2 (del D H2) am6 (del D H6) → SR X.K ph am6 (L2.wipe σ is) (del D H6) δ6 → H6 D = some (.lst av6) → DqAll X.K (hid ph am6 (del D H6)) av6 ad6 → av6.length ≤ sizeLine → (∀ i ∈ is, ∀ c, δ6[i]? = some c → c = .un) →
                comp2D is vs1 set t it1 set1 t1 el (ds.drop (i + 1)) ad6 δ6 = some (acc, δ2) →
                ∃ am2 δ3 av ad, Step am1 H1 am2 (del D H6) ∧ SR X.K ph am2 (L2.wipe σ is) (del D H6) δ3 ∧ H6 D = some (.lst av) ∧ DqAll X.K (hid ph am2 (del D H6)) av ad ∧ av.length ≤ sizeLine ∧ (∀ i ∈ is, ∀ c, δ3[i]? = some c → c = .un) ∧ comp2D is vs1 set t it1 set1 t1 el (ds.drop (i + 1)) ad δ3 = some (acc, δ2) :=
              fun {am6 H6 δ6 av6 ad6} a1 a2 a3 a4 a5 a6 a7 => ⟨am6, δ6, av6, ad6, st.trans a1, a2, a3, a4, a5, a6, a7⟩
            refine ⟨w4, ?_⟩
            split at ee
            · rename_i δ5 et
              split at ee
              · rename_i ds1 δ6 ei
                split at ee
                · rename_i no6
                  split at ee
                  · rename_i acc' δ9 e9
                    split at ee
                    · rename_i no9
                      refine ⟨ph.also D, am4, δ4, _, δ5, s4, et, fun b eb am5 H5 st5 s5 => ?_, fun c fs z => by cases z⟩
                      cases eb
                      refine iteT ⟨ph.also D, am5, δ5, _, δ6, s5, ei, fun d1 ed1 am6 H6 J1 st6 s6 wd1 => ?_, fun c fs z => by cases z⟩
                      cases ed1
                      obtain ⟨G1, Y1, w1, hG1, hY1⟩ := wd1
                      have stT : Step am2 H2 am6 H6 := ((Step.of sm).trans st4).trans (st5.trans st6)
                      have hD6 : ∀ i, am6 i ≠ some D := fun i e => (s6.amf i D e).1 (.inr rfl)
                      have hl6 : H6 D = some (.lst av) := stT.keep D _ hl fun i e => (sA.amf i D e).1 (.inr rfl)
                      refine walk_it w1 _ (fun j H' => ∃ am7 δ7 av2 ad2, Step am6 (del D H6) am7 (del D H') ∧ SR X.K ph am7 (L2.wipe σ4 vs1) (del D H') δ7 ∧ H' D = some (.lst av2) ∧ DqAll X.K (hid ph am7 (del D H')) av2 ad2 ∧ av2.length ≤ sizeLine ∧ (∀ i ∈ vs1, ∀ c, δ7[i]? = some c → c = .un) ∧ compD vs1 set1 t1 el (ds1.drop j) ad2 δ7 = some (acc', δ9))
                        ?_ (fun j H' _ ⟨am7, δ7, av2, ad2, st7, s7, hl7, dq7, hz7, hu7, el7⟩ => hG1 (ph.also D) am7 H' (by rw [hid_also, hid_also]; exact st7.hid)) (fun j x1 H7 H8 hj ⟨am7, δ7, av2, ad2, st7, s7, hl7, dq7, hz7, hu7, ee7⟩ y1 => ?_) (fun H' ⟨am7, δ7, av2, ad2, st7, s7, hl7, dq7, hz7, hu7, ee7⟩ => ?_)
                      · refine ⟨am6, wipeD δ6 vs1, av, ad, Step.refl, (s6.wipe no6).unalso nD, hl6, dps_mono (stT.del hD6).hid dq, hz, fun i hi c q => wipeD_in hi q, e9⟩
                      · have sB : SR X.K (ph.also D) am7 (L2.wipe σ4 vs1) H7 δ7 := s7.also hl7
                        obtain ⟨d1, hd1, sm1, dqx1⟩ := hY1 j x1 H7 H8 (ph.also D) am7 hj (by rw [hid_also, hid_also]; exact st7.hid) (fun b h => sB.hidden h) y1
                        have hdr1 : ds1.drop j = d1 :: ds1.drop (j + 1) := by
                          obtain ⟨h1, h2⟩ := List.getElem?_eq_some_iff.mp hd1
                          rw [List.drop_eq_getElem_cons h1, h2]
                        rw [hdr1] at ee7
                        unfold compD at ee7
                        split at ee7
                        · cases ee7
                        · rename_i δa ea
                          refine ⟨ph.also D, am7, δ7, δa, d1, sB.same sm1, dqx1, ea, fun ama σa sta sa wa => ?_⟩
                          rw [wipe_wipe] at wa
                          have fin1 : ∀ {amb : Am} {Hb : Hp} {δb : Sg} {ov : List V} {od : List PyData}, Step ama H8 amb Hb → SR X.K (ph.also D) amb σa Hb δb → noOw δb vs1 = true → DqAll X.K (hid (ph.also D) amb Hb) ov od → (av2 ++ ov).length ≤ sizeLine →
                              compD vs1 set1 t1 el (ds1.drop (j + 1)) (ad2 ++ od) (wipeD δb vs1) = some (acc', δ9) → Hb D = some (.lst av2) ∧ ∀ Hc, Hc D = some (.lst (av2 ++ ov)) → del D Hc = del D Hb →
                              ∃ am7 δ7 av2 ad2, Step am6 (del D H6) am7 (del D Hc) ∧ SR X.K ph am7 (L2.wipe σ4 vs1) (del D Hc) δ7 ∧ Hc D = some (.lst av2) ∧ DqAll X.K (hid ph am7 (del D Hc)) av2 ad2 ∧ av2.length ≤ sizeLine ∧ (∀ i ∈ vs1, ∀ c, δ7[i]? = some c → c = .un) ∧ compD vs1 set1 t1 el (ds1.drop (j + 1)) ad2 δ7 = some (acc', δ9) := by
                            intro amb Hb δb ov od stb sb nob dvb hzb eb
                            have stU : Step am7 H7 amb Hb := ((Step.of sm1).trans sta).trans stb
                            have hDb : ∀ i, amb i ≠ some D := fun i e => (sb.amf i D e).1 (.inr rfl)
                            refine ⟨stU.keep D _ hl7 fun i e => (sB.amf i D e).1 (.inr rfl), fun Hc h7 e7 => ?_⟩
                            rw [e7]
                            refine ⟨amb, wipeD δb vs1, av2 ++ ov, ad2 ++ od, st7.trans (stU.del hDb), ?_, h7, ?_, hzb, fun i hi c q => wipeD_in hi q, eb⟩
                            · have := (sb.wipe nob).unalso nD
                              rw [wa] at this
                              exact this
                            · rw [hid_also] at dvb
                              exact (dps_mono (stU.del hDb).hid dq7).append dvb
                          refine ⟨wa, ?_⟩
                          split at ee7
                          · rename_i δb etb
                            split at ee7
                            · rename_i yy δc ey
                              split at ee7
                              · rename_i hc
                                refine ⟨ph.also D, ama, δa, _, δb, sa, etb, fun b eb amb Hb stb sb => ?_, fun c fs z => by cases z⟩
                                cases eb
                                refine iteT ⟨ph.also D, amb, δb, _, δc, sb, ey, fun d ed amc v Hc stc sc dc => ?_, fun c fs z => by cases z⟩
                                cases ed
                                have hl2 : av2.length < sizeLine := by rw [dq7.length]; exact hc.1
                                obtain ⟨g1, g2⟩ := fin1 (stb.trans stc) sc hc.2 (.cons dc .nil) (by rw [List.length_append]; exact hl2) ee7
                                exact ⟨av2, g1, hl2, g2 _ upd_same del_upd⟩
                              · cases ee7
                            · cases ee7
                          · rename_i δb etb
                            split at ee7
                            · rename_i hc
                              refine ⟨ph.also D, ama, δa, _, δb, sa, etb, fun b eb amb Hb stb sb => ?_, fun c fs z => by cases z⟩
                              cases eb
                              refine iteF ?_
                              obtain ⟨g1, g2⟩ := fin1 (ov := []) (od := []) stb sb hc .nil (by rw [List.append_nil]; exact hz7) (by rw [List.append_nil]; exact ee7)
                              exact g2 Hb (by rw [List.append_nil]; exact g1) rfl
                            · cases ee7
                          · cases ee7
                      · rw [List.drop_length] at ee7
                        cases ee7
                        refine fin ((stT.del hD6).trans st7) ?_ hl7 dq7 hz7 (fun i hi c q => wipeD_in hi q) ee
                        have := s7.wipe no9
                        rw [wipe_sub hv, w4] at this
                        exact this
                    · cases ee
                  · cases ee
                · cases ee
              · cases ee
            · rename_i δ5 et
              split at ee
              · rename_i hc
                refine ⟨ph.also D, am4, δ4, _, δ5, s4, et, fun b eb am5 H5 st5 s5 => ?_, fun c fs z => by cases z⟩
                cases eb
                refine iteF ?_
                have stT : Step am2 H2 am5 H5 := ((Step.of sm).trans st4).trans st5
                have hD5 : ∀ i, am5 i ≠ some D := fun i e => (s5.amf i D e).1 (.inr rfl)
                refine fin (stT.del hD5) ?_ (stT.keep D _ hl fun i e => (sA.amf i D e).1 (.inr rfl)) (dps_mono (stT.del hD5).hid dq) hz (fun i hi c q => wipeD_in hi q) ee
                have := (s5.wipe hc).unalso nD
                rw [w4] at this
                exact this
              · cases ee
            · cases ee
        · rw [List.drop_length] at ee
          cases ee
          have := k _ rfl am2 D av (del D H') (st1.none hD) del_same (st1.trans st) (SR.back s1 st hno s2 hu) dq hz
          rw [upd_del hl] at this
          exact this
      · cases e2
    · cases e2
  · subst e2
    exact qi ph am σ H δ _ _ _ s e1 (fun d ed => by cases ed) (fun c' fs' z => by cases z; exact kx _ _ rfl)
theorem df_lc2 {elt tg iter tg1 iter1 : Expr} {ifs ifs1 : List Expr} {scope : Scope} {own : List (Str × Nat)} {vs1 : List Nat} {set set1 : Tg} {t t1 : M Bool} {it1 : M (List PyData)} {el : M PyData} (hc : X.calm = true) (hN : X.N.Nodup) (hi : DI X W tg iter fs) (ok : BlkOk X.N X.env.scope scope own) (hv : ∀ i ∈ vs1, i ∈ own.map (·.2))
    (hg : ∀ (s : Shared) (H : Hp) (C : Addr) (cl : List (Str × Addr)) (fp : List Addr), DGc (Blk X scope s H C cl fp) tg (own.map (·.2)) set) (ht : ∀ (s : Shared) (H : Hp) (C : Addr) (cl : List (Str × Addr)) (fp : List Addr), DTs (Blk X scope s H C cl fp) E00 ifs t)
    (hi1 : ∀ (s : Shared) (H : Hp) (C : Addr) (cl : List (Str × Addr)) (fp : List Addr), DI (Blk X scope s H C cl fp) E00 tg1 iter1 it1)
    (hg1 : ∀ (s : Shared) (H : Hp) (C : Addr) (cl : List (Str × Addr)) (fp : List Addr), DGc (Blk X scope s H C cl fp) tg1 vs1 set1) (ht1 : ∀ (s : Shared) (H : Hp) (C : Addr) (cl : List (Str × Addr)) (fp : List Addr), DTs (Blk X scope s H C cl fp) E00 ifs1 t1)
    (he : ∀ (s : Shared) (H : Hp) (C : Addr) (cl : List (Str × Addr)) (fp : List Addr), DE (Blk X scope s H C cl fp) E00 elt el) (hs : ∀ x, foldedSetIterable iter X.env x = pure x := by intro _; rfl) (hs1 : ∀ env x, foldedSetIterable iter1 env x = pure x := by intro _ _; rfl) :
    DF X W (.ListComp elt [⟨tg, iter, ifs, 0⟩, ⟨tg1, iter1, ifs1, 0⟩] scope pos) (xComp2 fs (own.map (·.2)) vs1 set t it1 set1 t1 el) := by
  obtain ⟨ti, pi, qi⟩ := hi.ex
  exact ⟨⟨_, pe_lc2 hc hN pi ok hv (fun s H C cl fp => (hg s H C cl fp).can) (fun s H C cl fp => (ht s H C cl fp).can) (fun s H C cl fp => (hi1 s H C cl fp).can) (fun s H C cl fp => (hg1 s H C cl fp).can) (fun s H C cl fp => (ht1 s H C cl fp).can) (fun s H C cl fp => (he s H C cl fp).can) hs hs1, comp2_read hv qi⟩⟩
theorem ds_setLc2F {i : Nat} {y : Str} {py spos : Pos} {elt tg iter tg1 iter1 : Expr} {ifs ifs1 : List Expr} {scope : Scope} {own : List (Str × Nat)} {vs1 : List Nat} {set set1 : Tg} {t t1 : M Bool} {it1 : M (List PyData)} {el : M PyData} (hc : X.calm = true) (hN : X.N.Nodup) (hi : DI X W tg iter fs) (ok : BlkOk X.N X.env.scope scope own) (hv : ∀ i ∈ vs1, i ∈ own.map (·.2))
    (hg : ∀ (s : Shared) (H : Hp) (C : Addr) (cl : List (Str × Addr)) (fp : List Addr), DGc (Blk X scope s H C cl fp) tg (own.map (·.2)) set) (ht : ∀ (s : Shared) (H : Hp) (C : Addr) (cl : List (Str × Addr)) (fp : List Addr), DTs (Blk X scope s H C cl fp) E00 ifs t)
    (hi1 : ∀ (s : Shared) (H : Hp) (C : Addr) (cl : List (Str × Addr)) (fp : List Addr), DI (Blk X scope s H C cl fp) E00 tg1 iter1 it1)
    (hg1 : ∀ (s : Shared) (H : Hp) (C : Addr) (cl : List (Str × Addr)) (fp : List Addr), DGc (Blk X scope s H C cl fp) tg1 vs1 set1) (ht1 : ∀ (s : Shared) (H : Hp) (C : Addr) (cl : List (Str × Addr)) (fp : List Addr), DTs (Blk X scope s H C cl fp) E00 ifs1 t1)
    (he : ∀ (s : Shared) (H : Hp) (C : Addr) (cl : List (Str × Addr)) (fp : List Addr), DE (Blk X scope s H C cl fp) E00 elt el)
    (hsw : swapsWith (.ListComp elt [⟨tg, iter, ifs, 0⟩, ⟨tg1, iter1, ifs1, 0⟩] scope pos) (some (.Name y py)) spos.line X.env = pure true)
    (hy : X.N[i]? = some y := by rfl) (hyl : X.env.scope.names.lookup y = some .local := by rfl) (hs : ∀ x, foldedSetIterable iter X.env x = pure x := by intro _; rfl) (hs1 : ∀ env x, foldedSetIterable iter1 env x = pure x := by intro _ _; rfl) :
    DS X W (.Assign [.Name y py] (.ListComp elt [⟨tg, iter, ifs, 0⟩, ⟨tg1, iter1, ifs1, 0⟩] scope pos) spos) (sAsg (bnd (xComp2 fs (own.map (·.2)) vs1 set t it1 set1 t1 el) fun ds => ret (.list ds)) (sName i)) := by
  obtain ⟨ti, pi, qi⟩ := hi.ex
  exact ⟨⟨_, ps_setLc2 hc hN hy hyl hsw pi ok hv (fun s H C cl fp => (hg s H C cl fp).can) (fun s H C cl fp => (ht s H C cl fp).can) (fun s H C cl fp => (hi1 s H C cl fp).can) (fun s H C cl fp => (hg1 s H C cl fp).can) (fun s H C cl fp => (ht1 s H C cl fp).can) (fun s H C cl fp => (he s H C cl fp).can) hs hs1, setf_read (comp2_read hv qi)⟩⟩
end PD
end

section
set_option Elab.async false
set_option linter.all false
set_option maxRecDepth 100000
set_option maxHeartbeats 2000000
namespace PD
open PySem PySem.Spec PyProof.Rows L2
variable {X : Cx} {W : WX} {pos : Pos} {e e1 e2 e3 : Expr} {es : List Expr} {f g h : M PyData} {fs : M (List PyData)} {fb gb : M Bool}
variable {K : PySem.W.Frag} {ph : Fx} {am am' am1 : Am} {H H' H1 : Hp} {σ σ' : L2.St} {δ δ' δ1 : Sg} {a p p1 p2 D : Addr} {v : V} {vs : List V} {d : PyData} {ds : List PyData} {i : Nat}

/-! ### a star in a display -/
theorem da_star {sp : Pos} (h : DE X W e f) (t : DA X W es fs) (hs : starEach (.Starred e sp :: es) X.env = (true, eval e X.env) :: starEach es X.env := by rfl) :
    DA X W (.Starred e sp :: es) (bnd f fun d => bnd (lif (seqD d)) fun xs => bnd fs fun ds => ret (xs ++ ds)) := by
  obtain ⟨ta, pa, qa⟩ := h.ex
  obtain ⟨tb, pb, qb⟩ := t.ex
  refine ⟨⟨_, StX.pa_star pa pb hs, fun ph am σ H δ Q ans δ' s q k kx => ?_⟩⟩
  rcases bnd_some q with ⟨a, δ1, e1, q1⟩ | ⟨c, fs, e1, q1⟩
  · refine qa ph am σ H δ _ _ _ s e1 (fun d ed am1 x H1 st1 s1 d1 => ?_) (fun c fs z => by cases z)
    cases ed
    rcases bnd_some q1 with ⟨xs, δ0, e0, q2⟩ | ⟨c, fs, e0, q2⟩
    · obtain ⟨ys, e4, e5, rfl⟩ := lif_some e0
      cases e5
      obtain ⟨kk, pp, us, rfl, hq, hdq⟩ := seq_rd d1 e4
      refine ⟨pp, us, rfl, ?_, ?_⟩
      · cases kk with
        | true => exact .inr (by rcases hq with (hq | ⟨o, hq⟩) | hq
                                 · exact .inl (.inl (hid_sub _ _ hq))
                                 · exact .inl (.inr ⟨o, hid_sub _ _ hq⟩)
                                 · exact .inr hq)
        | false => exact .inl (by rcases hq with (hq | ⟨o, hq⟩) | hq
                                  · exact .inl (.inl (hid_sub _ _ hq))
                                  · exact .inl (.inr ⟨o, hid_sub _ _ hq⟩)
                                  · exact .inr hq)
      · rcases bnd_some q2 with ⟨b, δ2, e2, q3⟩ | ⟨c, fs, e2, q3⟩
        · cases q3
          refine qb ph am1 σ H1 _ _ _ _ s1 e2 (fun d ed am2 y H2 st2 s2 d2 => ?_) (fun c fs z => by cases z)
          cases ed
          exact k _ rfl am2 _ H2 (st1.trans st2) s2 ((dps_mono st2.hid hdq).append d2)
        · subst q3
          exact qb ph am1 σ H1 _ _ _ _ s1 e2 (fun d ed => by cases ed) (fun c' fs' z => by cases z; exact (kx _ _ rfl).step st1)
    · unfold lif at e0
      split at e0 <;> cases e0
  · subst q1
    exact qa ph am σ H δ _ _ _ s e1 (fun d ed => by cases ed) (fun c' fs' z => by cases z; exact kx _ _ rfl)

/-! ### x op= e, x a name -/
def sAug (F : PyData → PyData → Option PyData) (i : Nat) (f : M PyData) : MS := fun δ => match δ[i]? with
  | some (.fz x) => (bnd f fun y => bnd (lif (F x y)) fun z => fun δ1 => match sName i z δ1 with
    | some δ2 => some (.ok .nx, δ2)
    | none => none) δ
  | _ => none
theorem ds_aug {op : Operator} {r : R2} {F : PyData → PyData → Option PyData} {x : Str} {pn : Pos} (hr : OpD X r F) (ho : OpR X (inplaceOp op) r) (hN : X.N.Nodup) (he : DE X W e f) (hi : X.N[i]? = some x := by rfl) (hx : Loc X.env.scope x := by first | exact Or.inl rfl | exact Or.inr rfl)
    (hf : X.fn x = true ∨ X.env.scope.names.lookup x = some .local := by first | exact .inl rfl | exact .inr rfl) : DS X W (.AugAssign (.Name x pn) op e pos) (sAug F i f) := by
  obtain ⟨t, pt, q1⟩ := he.ex
  refine ⟨⟨_, ps_aug hN hi hx pt (ti := r) ho hf, fun ph am σ H δ D ans δ' sr z k kx => ?_⟩⟩
  unfold sAug at z
  split at z
  · rename_i x0 e0
    obtain ⟨v0, h1, h2⟩ := sr.fz i x0 e0
    refine ⟨v0, h1, ?_⟩
    rcases bnd_some z with ⟨y, δ1, e1, z1⟩ | ⟨c, fs, e1, z1⟩
    · refine q1 ph am σ H δ _ _ _ sr e1 (fun d ed am1 w H1 st1 s1 d1 => ?_) (fun c fs z => by cases z)
      cases ed
      rcases bnd_some z1 with ⟨zz, δ3, e3, z2⟩ | ⟨c, fs, e3, z2⟩
      · obtain ⟨z3, e4, e5, rfl⟩ := lif_some e3
        cases e5
        refine hr ph am1 H1 v0 w x0 y _ _ (fun b h => s1.hidden h) (dp_mono st1.hid h2) d1 e4 fun v H2 sm dv => ?_
        split at z2
        · rename_i δ4 e6
          cases z2
          obtain ⟨c, e7, e8, rfl⟩ := sName_some e6
          have st2 := st1.trans (Step.of (am := am1) sm)
          exact k _ rfl _ _ _ (st2.trans step_drop) ((s1.same sm).put e7 e8 dv)
        · cases z2
      · unfold lif at e3
        split at e3 <;> cases e3
    · subst z1
      exact q1 ph am σ H δ _ _ _ sr e1 (fun d ed => by cases ed) (fun c' fs' z => by cases z; exact (kx _ _ rfl).at)
  · cases z
theorem iop_addI : OpR X (inplaceOp .Add) (ipI fun i j => i + j) := ip_add
theorem iop_subI : OpR X (inplaceOp .Sub) (ipI fun i j => i - j) := ip_sub
def ipMul : R2 := fun x y H Q => ∃ i j, x = .int i ∧ y = .int j ∧ mulOk i j = true ∧ Q (.int (i * j)) H
theorem iop_mulI : OpR X (inplaceOp .Mult) ipMul := by
  intro pins s σ H x y v u Q I r1 r2 h
  obtain ⟨i, j, e1, e2, hm, q⟩ := h
  subst e1; subst e2
  obtain ⟨t, rfl⟩ := r1
  obtain ⟨t', rfl⟩ := r2
  have hc : CMul i j := by
    unfold mulOk small64 at hm
    simp only [Bool.or_eq_true, Bool.and_eq_true, decide_eq_true_eq] at hm
    exact hm
  exact imul_int ⟨.int _, H, I.tok _, ⟨_, rfl⟩, q⟩ hc.ok
def addII : PyData → PyData → Option PyData := intsD fun i j => some (.int (i + j))
def subII : PyData → PyData → Option PyData := intsD fun i j => some (.int (i - j))
theorem opd_addII : OpD X (ipI fun i j => i + j) addII := by
  intro ph am H x y d e c Q hn dx dy q k
  unfold addII intsD at q
  split at q
  · cases dx; cases dy; cases q
    exact ⟨_, _, rfl, rfl, k _ H (Same.refl H) (.int _)⟩
  · cases q
theorem opd_subII : OpD X (ipI fun i j => i - j) subII := by
  intro ph am H x y d e c Q hn dx dy q k
  unfold subII intsD at q
  split at q
  · cases dx; cases dy; cases q
    exact ⟨_, _, rfl, rfl, k _ H (Same.refl H) (.int _)⟩
  · cases q
theorem opd_mulII : OpD X ipMul mulI := by
  intro ph am H x y d e c Q hn dx dy q k
  unfold mulI intsD at q
  split at q
  · cases dx; cases dy
    obtain ⟨h1, rfl⟩ := if_some q
    exact ⟨_, _, rfl, rfl, h1, k _ H (Same.refl H) (.int _)⟩
  · cases q
theorem ds_augAdd {x : Str} {pn : Pos} (hN : X.N.Nodup) (he : DE X W e f) (hi : X.N[i]? = some x := by rfl) (hx : Loc X.env.scope x := by first | exact Or.inl rfl | exact Or.inr rfl)
    (hf : X.fn x = true ∨ X.env.scope.names.lookup x = some .local := by first | exact .inl rfl | exact .inr rfl) : DS X W (.AugAssign (.Name x pn) .Add e pos) (sAug addII i f) := ds_aug opd_addII iop_addI hN he hi hx hf
theorem ds_augSub {x : Str} {pn : Pos} (hN : X.N.Nodup) (he : DE X W e f) (hi : X.N[i]? = some x := by rfl) (hx : Loc X.env.scope x := by first | exact Or.inl rfl | exact Or.inr rfl)
    (hf : X.fn x = true ∨ X.env.scope.names.lookup x = some .local := by first | exact .inl rfl | exact .inr rfl) : DS X W (.AugAssign (.Name x pn) .Sub e pos) (sAug subII i f) := ds_aug opd_subII iop_subI hN he hi hx hf
theorem ds_augMul {x : Str} {pn : Pos} (hN : X.N.Nodup) (he : DE X W e f) (hi : X.N[i]? = some x := by rfl) (hx : Loc X.env.scope x := by first | exact Or.inl rfl | exact Or.inr rfl)
    (hf : X.fn x = true ∨ X.env.scope.names.lookup x = some .local := by first | exact .inl rfl | exact .inr rfl) : DS X W (.AugAssign (.Name x pn) .Mult e pos) (sAug mulI i f) := ds_aug opd_mulII iop_mulI hN he hi hx hf
end PD
end

section
set_option Elab.async false
set_option linter.all false
set_option maxRecDepth 100000
set_option maxHeartbeats 2000000
namespace PD
open PySem PySem.Spec PyProof.Rows L2
variable {X : Cx} {W : WX} {pos : Pos} {e e1 e2 e3 : Expr} {es : List Expr} {f g h : M PyData} {fs : M (List PyData)} {fb gb : M Bool}
variable {K : PySem.W.Frag} {ph : Fx} {am am' am1 : Am} {H H' H1 : Hp} {σ σ' : L2.St} {δ δ' δ1 : Sg} {a p p1 p2 D : Addr} {v : V} {vs : List V} {d : PyData} {ds : List PyData} {i : Nat}

/-! ### t[::-1], t a tuple -/
theorem filterMap_all {α β : Type} {f : α → Option β} {g : α → β} : ∀ {l : List α}, (∀ x ∈ l, f x = some (g x)) → l.filterMap f = l.map g
  | [], _ => rfl
  | x :: l, h => by
    rw [List.filterMap_cons, h x (List.mem_cons_self ..)]
    show g x :: l.filterMap f = _
    rw [filterMap_all fun y hy => h y (List.mem_cons_of_mem _ hy)]
    rfl
theorem rev_pick (xs : Array Value) : ((List.range xs.size).filterMap fun (k : Nat) => xs[(((xs.size : Int) - 1) + (k : Int) * (-1)).toNat]?).toArray = xs.toList.reverse.toArray := by
  congr 1
  apply List.ext_getElem?
  intro j
  have e : (List.range xs.size).filterMap (fun (k : Nat) => xs[(((xs.size : Int) - 1) + (k : Int) * (-1)).toNat]?) = (List.range xs.size).map fun k => xs.toList.getD (xs.size - 1 - k) .none := by
    refine filterMap_all fun k hk => ?_
    have hk := List.mem_range.mp hk
    have h1 : ((((xs.size : Int) - 1) + (k : Int) * (-1)).toNat) = xs.size - 1 - k := by omega
    rw [h1]
    show xs[xs.size - 1 - k]? = some _
    rw [List.getD_eq_getElem?_getD, Array.getElem?_toList, Array.getElem?_eq_getElem (by omega)]
    rfl
  rw [e, List.getElem?_map]
  by_cases hj : j < xs.size
  · rw [List.getElem?_range hj, List.getElem?_reverse (by simpa using hj)]
    show some (xs.toList.getD (xs.size - 1 - j) .none) = _
    rw [List.getD_eq_getElem?_getD, Array.length_toList, List.getElem?_eq_getElem (by rw [Array.length_toList]; omega)]
    rfl
  · rw [List.getElem?_eq_none (by simpa using hj), List.getElem?_eq_none (by simpa using hj)]
    rfl
theorem getItem_tuple_rev {prog : Program} {w : World} {A : Around} {E : Value → Shared → Prop} {s : Shared} {t sl : Addr} {items : Array Value} {u : Tok} {Q : Value → Shared → Prop} (ht : IsTup s.heap t items) (hs : s.heap.IsSliceOf sl .none .none (.int (-1) u))
    (h : Q (.ref s.heap.objs.size) { s with heap := s.heap.push { cls := .type "tuple", data := .seq items.toList.reverse.toArray } })
    (hsz : items.size ≤ sizeLine) : wpAny (model prog w) A (getItem (.ref t) (.ref sl)) Q E s := by
  have htake : sizeOk (.seq items.toList.reverse.toArray) := by
    show items.toList.reverse.toArray.size ≤ sizeLine
    rw [List.size_toArray, List.length_reverse, Array.length_toList]
    exact hsz
  obtain ⟨os, hos, hcs, hds⟩ := id hs
  have hTs : s.TypeIs (.ref sl) "slice" := ⟨os, hos, hcs⟩
  unfold getItem
  try with_reducible refine wpAny_holding ?_
  first | refine wpAny_bind (wpAny_pure ?_) | skip
  refine wpAny_bind (wpAny_sequenceKey ht.typeIs (by decide) ?_)
  refine wpAny_bind (wpAny_callSpecial?_slot (name := Str.ofString "__getitem__") ht.typeIs PyProof.Rows.slot_tuple_getitem
    (wpAny_call_entry PyProof.Rows.slot_tuple_getitem ht.typeIs entry_tuple_getitem ?_ (args_tuple_getitem _ _)))
  show wpAny _ _ (Builtin.Tuple.tupleItemsOf (.ref t) >>= _) _ _ s
  refine wpAny_bind (tupleItemsOf_ ht ?_)
  refine wpAny_bind (wpAny_typeOf hTs ?_)
  rw [if_pos (by decide)]
  have happ : ∀ {Q2 : Int × Int × Nat → Shared → Prop}, Q2 (((items.size : Int) - 1), -1, items.size) s → wpAny (model prog w) (A.under (.call (.builtin "tuple.__getitem__") ⟨[.ref t, .ref sl], []⟩)) (Builtin.Slice.sliceApplied (.ref sl) (pure (items.size : Int))) Q2 E s → True := fun _ _ => trivial
  refine wpAny_bind ?_
  unfold Builtin.Slice.sliceApplied Builtin.Slice.sliceFields
  refine wpAny_bind (wpAny_bind (wpAny_field hos hds (x := .none) rfl (wpAny_bind (wpAny_field hos hds (x := .none) rfl (wpAny_bind (wpAny_field hos hds (x := .int (-1) u) rfl (wpAny_pure ?_)))))))
  refine wpAny_bind (slicePart_int ?_)
  show wpAny _ _ (if ((-1 : Int) == 0) = true then _ else _) _ _ s
  rw [if_neg (by decide)]
  refine wpAny_bind (slicePart_none (wpAny_bind (slicePart_none (wpAny_bind (wpAny_pure ?_)))))
  show wpAny _ _ (pure (((items.size : Int) - 1), (-1 : Int), Builtin.Slice.slicePlaces ((items.size : Int) - 1) (-1) (-1))) _ _ s
  have hpl : Builtin.Slice.slicePlaces ((items.size : Int) - 1) (-1) (-1) = items.size := by
    unfold Builtin.Slice.slicePlaces
    rw [if_neg (by decide)]
    by_cases h0 : items.size = 0
    · rw [if_neg (by omega)]; simp [h0]
    · rw [if_pos (by omega)]
      have : ((items.size : Int) - 1 - -1 - 1) / - -1 + 1 = (items.size : Int) := by
        rw [show (- -1 : Int) = 1 from rfl, Int.ediv_one]
        omega
      rw [this]
      simp
  rw [hpl]
  refine wpAny_pure ?_
  have hno : ¬ ((((items.size : Int) - 1) == 0 && (-1 : Int) == 1 && items.size == items.size) = true) := by
    rw [show ((-1 : Int) == 1) = false from rfl]
    simp
  show wpAny _ _ (if (((items.size : Int) - 1) == 0 && (-1 : Int) == 1 && items.size == items.size) = true then _ else _) _ _ s
  rw [if_neg hno, rev_pick]
  first
    | exact wpAny_bind (m := Builtin.Tuple.tupleExact _) (wpAny_newObj_type (wpAny_pure ⟨_, rfl, wpAny_pure h⟩) htake)
    | exact wpAny_bind (m := Builtin.Tuple.tupleExact _) (wpAny_newObj_type (wpAny_bind (wpAny_pure (wpAny_pure ⟨_, rfl, wpAny_pure h⟩))) htake)
    | exact wpAny_bind (wpAny_bind (m := Builtin.Tuple.tupleExact _) (wpAny_newObj_type (wpAny_pure (wpAny_pure ⟨_, rfl, wpAny_pure h⟩)) htake))
    | exact wpAny_bind (wpAny_bind (m := Builtin.Tuple.tupleExact _) (wpAny_newObj_type (wpAny_pure ⟨_, rfl, wpAny_pure h⟩) htake))
def tRevT (K : PySem.W.Frag) (te : TE) : TE := fun σ H Q => te σ H fun x H1 => ∃ a xs, x = .ref a ∧ SqT K H1 a xs ∧ ∀ p, H1 p = none → Q (.ref p) (upd H1 p (.tup xs.reverse))
theorem pe_revT {e : Expr} {te : TE} {k : Nat} {p1 p2 p3 pos : Pos} (he : PE X e te) : PE X (.Subscript e (.Slice none none (some (.UnaryOp .USub (.Constant (.int 1) k p1) p2)) p3) pos) (tRevT X.K te) := by
  refine ⟨fun pins s σ H Q I h => ?_⟩
  refine Subscript_ (thn (he.run pins s σ H _ I h) fun v s1 ⟨x, H1, I1, r1, q1⟩ => ?_)
  obtain ⟨a, xs, ex, hx, q⟩ := q1
  subst ex
  cases r1
  have hst : PO X (some (.UnaryOp .USub (.Constant (.int 1) k p1) p2)) (tPart (tUn (rU fun i => .int (-i)) (tC (.int 1)))) := po_some (pe_un un_neg pe_int)
  refine wpAny_Slice (thn (po_none.run pins s1 σ H1 (fun o H2 => o = none ∧ H2 = H1) I1 ⟨rfl, rfl⟩) fun vl s2 ⟨l, H2, I2, pl, el, e2⟩ => ?_)
  subst el e2
  refine thn (po_none.run pins s2 σ H2 (fun o H3 => o = none ∧ H3 = H2) I2 ⟨rfl, rfl⟩) fun vu s3 ⟨u, H3, I3, pu, eu, e3⟩ => ?_
  subst eu e3
  refine thn (hst.run pins s3 σ H3 (fun o H4 => o = some (-1) ∧ H4 = H3) I3 ⟨1, rfl, -1, rfl, rfl, rfl⟩) fun vs s4 ⟨o, H4, I4, ps, eo, e4⟩ => ?_
  subst eo e4
  have I5 : Inv X pins σ H4 { s4 with heap := s4.heap.push { cls := .type "slice", data := .fields #[vl, vu, vs] } } := I4.kept (t' := s4.toks) fun b ob q => Heap.get?_push_of_some _ q
  obtain ⟨its, r, ht, hz⟩ := I5.tuple hx
  have hlen : its.toArray.size = xs.length := by rw [List.size_toArray]; exact r.length.symm
  show wpAny (model X.prog X.w) X.A (subscriptTail e (.Slice none none (some (.UnaryOp .USub (.Constant (.int 1) k p1) p2)) p3) (.ref a) (.ref s4.heap.objs.size)) (EP X pins σ Q) X.xe { s4 with heap := s4.heap.push { cls := .type "slice", data := .fields #[vl, vu, vs] } }
  refine tail_any (ops := [.ref a, .ref s4.heap.objs.size]) ht.typeIs PyProof.Rows.slot_tuple_getitem.lookup ?_ (by with_unfolding_all rfl)
  cases pl
  cases pu
  cases ps
  refine getItem_tuple_rev ht (Heap.IsSliceOf.new _ _ _ _) ?_ (by rw [hlen]; exact hz)
  refine ⟨.ref _, _, I5.laid (t' := s4.toks) (o := .tup xs.reverse) (fun b ob q => Heap.get?_push_of_some _ q) (Nat.le_refl _) ?_, rfl, q _ (I5.hok.fresh (Nat.le_refl _))⟩
  exact ⟨by rw [List.length_reverse]; exact hz, _, r.reverse, IsTup.new _ _⟩
def xRevT (f : M PyData) : M PyData := bnd f fun d => lif (match d with | .tuple ds => some (.tuple ds.reverse) | _ => none)
theorem de_revT {k : Nat} {p1 p2 p3 : Pos} (he : DE X W e f) : DE X W (.Subscript e (.Slice none none (some (.UnaryOp .USub (.Constant (.int 1) k p1) p2)) p3) pos) (xRevT f) := by
  obtain ⟨t, pt, qa⟩ := he.ex
  refine ⟨⟨_, pe_revT pt, fun ph am σ H δ Q ans δ' s q k kx => ?_⟩⟩
  rcases bnd_some q with ⟨a, δ1, e1, q1⟩ | ⟨c, fs, e1, q1⟩
  · refine qa ph am σ H δ _ _ _ s e1 (fun d ed am1 x H1 st1 s1 d1 => ?_) (fun c fs z => by cases z)
    cases ed
    obtain ⟨z, e3, rfl, rfl⟩ := lif_some q1
    cases d1 with
    | @tup a0 xs0 ds0 h1 a1 =>
      cases e3
      refine ⟨_, _, rfl, seqT_hid h1, fun p np => ?_⟩
      have sm : Same H1 (upd H1 p (.tup xs0.reverse)) := same_new np
      exact k _ rfl am1 _ _ (st1.trans (Step.of sm)) (s1.same sm) (.tup (hid_some.mpr ⟨s1.new np, upd_same⟩) (dps_mono (hid_same sm) a1.rev))
    | _ => cases e3
  · subst q1
    exact qa ph am σ H δ _ _ _ s e1 (fun d ed => by cases ed) (fun c' fs' z => by cases z; exact kx _ _ rfl)

/-! ### n not in range(p) -/
theorem cr_range1 : CallR X (.type "range") (fun vs H Q => ∃ j, vs = [V.int j] ∧ ∀ p, H p = none → Q (.ref p) (upd H p (.rng 0 j))) := by
  intro pins s σ H vs us Q I r h
  obtain ⟨j, rfl, q⟩ := h
  obtain ⟨u, rfl, ru⟩ : ∃ u, us = [u] ∧ RelV (V.int j) u := by
    cases r with
    | cons p q => cases q; exact ⟨_, rfl, p⟩
  obtain ⟨t, rfl⟩ := ru
  refine call_range_1 ⟨.ref s.heap.objs.size, upd H s.heap.objs.size (.rng 0 j), I.laid (t' := s.toks + 1 + 1) (fun b o e => Heap.get?_push_of_some _ e) (Nat.le_refl _) ?_, rfl, q _ (I.hok.fresh (Nat.le_refl _))⟩
  exact ⟨s.toks, t, s.toks + 1, Heap.get?_push_size _ rfl⟩
theorem op_notin_rng : OpR X (compareOp .NotIn) (fun x y H Q => ∃ i a lo hi, x = V.int i ∧ y = V.ref a ∧ H a = some (.rng lo hi) ∧ Q (.bl (!decide (lo ≤ i ∧ i < hi))) H) := by
  intro pins s σ H x y v u Q I rx ry h
  obtain ⟨i, a, lo, hi, rfl, rfl, ha, q⟩ := h
  obtain ⟨k, rfl⟩ := rx
  obtain rfl : u = Value.ref a := ry
  obtain ⟨t1, t2, t3, ho⟩ := I.hok a _ ha
  show wpAny _ _ (do return Value.bool (!(← contains (Value.ref a) (Value.int i k)))) _ _ s
  refine wpAny_bind (wpAny_contains_slot (T := "range") ⟨_, ho, rfl⟩ F.slot_range_contains (call_meets F.slot_range_contains ⟨_, ho, rfl⟩ F.entry_range_contains (F.args_range_contains_2 _ _) (q_contains a lo hi i t1 t2 t3 k)
    ⟨ho, wpAny_truthy_bool (wpAny_pure ⟨.bl _, H, I, rfl, ?_⟩)⟩))
  rw [place1]
  exact q
def ninRD : PyData → PyData → Option PyData := intsD fun i j => some (.bool (!decide (0 ≤ i ∧ i < j)))
theorem dt_ninRange {pn pc : Pos} (hg : Gl X "range") (hm : X.mg "range" = none) (ha : DE X W e1 f) (hb : DE X W e2 g) (hs : starEach [e2] X.env = (false, eval e2 X.env) :: starEach [] X.env := by rfl) (hpl : (backTo pc (starEach [] X.env)).any (·.1) = false := by rfl) (hmm : behindInMarks .NotIn (.Call (.Name "range" pn) [e2] [] pc) = false := by rfl) :
    DT X W (.Compare e1 [.NotIn] [.Call (.Name "range" pn) [e2] [] pc] pos) (xBool (xBin ninRD f g)) := by
  obtain ⟨ta, pa, qa⟩ := ha.ex
  obtain ⟨tb, pb, qb⟩ := hb.ex
  refine ⟨⟨_, pt_cmpR op_notin_rng pa (pe_callTy (e := e2) (es := []) cr_range1 hg hm (by decide +kernel) (pa_cons pb pa_nil hs) (by decide) (by decide) hs hpl) hmm, ?_⟩⟩
  refine bool_read fun ph am σ H δ Q ans δ' s q k kx => ?_
  rcases bnd_some q with ⟨a, δ1, e1, q1⟩ | ⟨c, fs, e1, q1⟩
  · refine qa ph am σ H δ _ _ _ s e1 (fun d ed am1 x H1 st1 s1 d1 => ?_) (fun c fs z => by cases z)
    cases ed
    rcases bnd_some q1 with ⟨b, δ2, e2, q2⟩ | ⟨c, fs, e2, q2⟩
    · refine qb ph am1 σ H1 δ1 _ _ _ s1 e2 (fun d ed am2 y H2 st2 s2 d2 => ?_) (fun c fs z => by cases z)
      cases ed
      obtain ⟨z, e3, rfl, rfl⟩ := lif_some q2
      unfold ninRD intsD at e3
      split at e3
      · cases d1
        cases d2
        cases e3
        rename_i i0 j0
        refine ⟨j0, rfl, fun p np => ?_⟩
        have sm : Same H2 (upd H2 p (.rng 0 j0)) := same_new np
        exact ⟨i0, p, 0, j0, rfl, rfl, upd_same, k _ rfl am2 _ _ ((st1.trans st2).trans (Step.of sm)) (s2.same sm) (.bl _)⟩
      · cases e3
    · subst q2
      exact qb ph am1 σ H1 δ1 _ _ _ s1 e2 (fun d ed => by cases ed) (fun c' fs' z => by cases z; exact (kx _ _ rfl).step st1)
  · subst q1
    exact qa ph am σ H δ _ _ _ s e1 (fun d ed => by cases ed) (fun c' fs' z => by cases z; exact kx _ _ rfl)
end PD
end

section
set_option Elab.async false
set_option linter.all false
set_option maxRecDepth 100000
set_option maxHeartbeats 1000000
namespace PD
open PySem PySem.Spec PyProof.Rows L2
variable {X : Cx} {W : WX} {pos : Pos} {e e1 e2 : Expr} {f g h : M PyData} {fs : M (List PyData)}
variable {K : PySem.W.Frag}
theorem de_in (hu : X.A.units + 65 < cLine) (ha : DE X W e1 f) (hb : DE X W e2 g) (hm : behindInMarks .In e2 = false := by rfl) : DE X W (.Compare e1 [.In] [e2] pos) (xBin inD f g) := de_cmp opd_in (op_inD hu) hm ha hb

/-! ### sorted(xs), xs a list, also one that holds () alone -/
theorem sorted_any {β : Type} {prog : Program} {w : World} {A : Around} {E : Value → Shared → Prop} {s : Shared} {vs : List Value} {bs : List β} {enc : β → PyData} {R : Value → β → Prop} {l : Addr} {Q : Value → Shared → Prop} (hl : s.heap.IsList l vs.toArray) (e : PySem.W.EachIs R vs bs) (er : PySem.W.EachIs (fun v b => ∃ as, Reads s.heap v (enc b) as) vs bs) (hal : PySem.W.AllAlike (bs.map enc)) (hk : PySem.W.Sortable (bs.map enc) ∨ bs.map enc = [.tuple []]) (hL : bs.length ≤ sizeLine)
    (hu : ∀ b, b ∈ bs → A.units + 2 + (enc b).depth < cLine) (h : ∀ out, out.length = bs.length → PySem.W.EachIs R out (bs.mergeSort (PySem.W.dataLe false enc)) → Q (.ref (s.heap.objs.size + 1)) { s with heap := sortedAll s.heap vs (List.toArray out) }) :
    wpAny (model prog w) A (call (.builtin "sorted") [.ref l]) Q E s := by
  rcases hk with hk | hk
  · exact PySem.W.sorted_data hl e er hal hk hL hu h
  · have er' : PySem.W.EachIs (fun v b => ∃ as, Reads (PySem.W.sortingHeap (PySem.W.copyHeap s.heap vs) (s.heap.objs.size + 1) vs) v (enc b) as) vs bs := er.mono fun _ _ ⟨as, r⟩ => ⟨as, PyProof.Rows.Reads.keeps (fun _ _ => PySem.W.sorting_copy_old) r⟩
    have hb1 : ∃ b, b ∈ bs := by
      cases bs with
      | nil => simp at hk
      | cons b bs => exact ⟨b, List.mem_cons_self ..⟩
    obtain ⟨b, hb⟩ := hb1
    have hu1 := hu b hb
    have hbe : enc b = .tuple [] := by
      have : enc b ∈ bs.map enc := List.mem_map_of_mem hb
      rw [hk] at this
      exact List.mem_singleton.mp this
    rw [hbe, show (PyData.tuple []).depth = 1 by simp [PyData.depth, PyData.depthAll]] at hu1
    refine PySem.W.sorted_vals hl (sorts_unit (s := { s with heap := PySem.W.sortingHeap (PySem.W.copyHeap s.heap vs) (s.heap.objs.size + 1) vs }) (PySem.W.each_map (R := fun v d => ∃ as, Reads (PySem.W.sortingHeap (PySem.W.copyHeap s.heap vs) (s.heap.objs.size + 1) vs) v d as) enc er') hk ?_) (by rw [PySem.W.EachIs.length e]; exact hL)
      (h _ (by rw [PySem.W.sortVals_length false rfl]; exact PySem.W.EachIs.length e) (PySem.W.sortVals_data false e er' hal))
    first | omega | (show A.units + 2 + 1 < cLine; omega)
def rSortDu (K : PySem.W.Frag) : List V → Hp → VK → Prop := fun xs H Q => ∃ a vs ds, xs = [V.ref a] ∧ SqL K H a vs ∧ L2.DpAll K H vs ds ∧ PySem.W.AllAlike ds ∧ (PySem.W.Sortable ds ∨ ds = [.tuple []]) ∧ (∀ d, d ∈ ds → d.depth ≤ 40) ∧
  ∀ p, H p = none → Q (.ref p) (upd H p (.lst (sortV vs ds)))
theorem cr_sortDu (hu : X.A.units + 65 < cLine) : CallR X (.builtin "sorted") (rSortDu X.K) := by
  intro pins s σ H vs us Q I r h
  obtain ⟨a, ws, ds, rfl, hs, hd, hal, hk, hdep, q⟩ := h
  obtain ⟨its, rv, hl, hz⟩ := I.list hs
  rw [Vals.ref1 r]
  obtain ⟨as, hr⟩ := Dp.readsAll I ds ws its hd rv
  have hlen : its.length = ds.length := SeqAt.ReadsAll.length ds its as hr
  have hwl : ws.length = its.length := rv.length
  have hz2 : (ws.zip ds).length = ds.length := by rw [List.length_zip, hwl, hlen, Nat.min_self]
  have hm : (ws.zip ds).map (·.2) = ds := zip_snd (by rw [hwl, hlen])
  refine sorted_any (β := V × PyData) (enc := (·.2)) (R := fun u q => RelV q.1 u) hl.isList (each_zip rv hr fun _ _ _ _ h _ => h) (each_zip rv hr fun _ _ _ bs _ h => ⟨bs, h⟩) (by rw [hm]; exact hal) (by rw [hm]; exact hk) (by rw [hz2, ← hlen, ← hwl]; exact hz) (fun b hb => ?_) fun out ho eo => ?_
  · have := hdep b.2 (by rw [← hm]; exact List.mem_map_of_mem hb)
    omega
  · obtain ⟨ep, he'⟩ := PyProof.Rows.sortedAll_at s.heap its out.toArray
    have hlen2 : (sortV ws ds).length ≤ sizeLine := by rw [sortV_length (by rw [hwl, hlen]), ← hlen, ← hwl]; exact hz
    exact ⟨.ref _, upd H (s.heap.objs.size + 1) (.lst (sortV ws ds)), I.laid (t' := s.toks) (fun _ _ => PyProof.Rows.sortedAll_old) (Nat.le_succ _) ⟨hlen2, out, ep, each_vals (fun _ _ h => h) eo, he'⟩, rfl, q _ (I.hok.fresh (Nat.le_succ _))⟩
def sortedU : List PyData → Option (List PyData)
  | [.list ds] => if (okSort ds || isUnit ds) = true ∧ ds.length ≤ sizeLine then some (sortD ds) else none
  | _ => none
theorem callf_sortU : CallF X (rSortDu X.K) sortedU := by
  intro ph am H xs ds c Q hn dx q k
  cases dx with
  | nil => cases q
  | cons h t =>
    cases t with
    | cons _ _ => cases h <;> cases q
    | nil =>
      cases h with
      | lst h1 a1 =>
        obtain ⟨⟨h2, h3⟩, rfl⟩ := if_some q
        obtain ⟨g1, g2, g3⟩ := okUnit h2
        refine ⟨_, _, _, rfl, rd_hid h1, (dps_mono hid_sub a1).dp, g1, g2, g3, fun p np => k p _ np a1.sort (by rw [sortV_length a1.length]; exact h3)⟩
      | _ => cases q
theorem df_sortedU {pf : Pos} (hu : X.A.units + 65 < cLine) (hm : X.mg "sorted" = none) (h : DA X W [e] fs) (hg : Gl X "sorted" := by rfl)
    (he : starEach [e] X.env = (false, eval e X.env) :: starEach [] X.env := by rfl) (hpl : (backTo pos (starEach [] X.env)).any (·.1) = false := by rfl) : DF X W (.Call (.Name "sorted" pf) [e] [] pos) (xCallF sortedU fs) :=
  df_callB callf_sortU (cr_sortDu hu) hm (by decide +kernel) h hg (by decide) (by decide) he hpl
end PD
end

section
set_option Elab.async false
set_option linter.all false
set_option maxRecDepth 100000
set_option maxHeartbeats 1000000
namespace PD
open PySem PySem.Spec PyProof.Rows L2
variable {X : Cx} {W : WX} {pos : Pos} {e e1 e2 e3 : Expr} {es : List Expr} {f g h : M PyData} {fs : M (List PyData)} {fb gb : M Bool}
variable {K : PySem.W.Frag} {ph : Fx} {am am' am1 : Am} {H H' H1 : Hp} {σ σ' : L2.St} {δ δ' δ1 : Sg} {a p p1 p2 : Addr} {v : V} {vs : List V} {d : PyData} {ds : List PyData} {i : Nat}

/-! ### x in xs, xs a list or a tuple -/
def inX (neg : Bool) (a b : PyData) : Option PyData := match b with
  | .list ds => if SeqAt.shaped a = true ∧ SeqAt.shaped (.list ds) = true then some (.bool ((ds.any fun z => PyData.eqv z a) != neg)) else none
  | .tuple ds => if SeqAt.shaped a = true ∧ SeqAt.shaped (.tuple ds) = true then some (.bool ((ds.any fun z => PyData.eqv z a) != neg)) else none
  | _ => none
def rInX (K : PySem.W.Frag) (neg : Bool) : R2 := fun x y H Q => ∃ d e ds, (e = .list ds ∨ e = .tuple ds) ∧ Dp K H x d ∧ Dp K H y e ∧ SeqAt.shaped d = true ∧ SeqAt.shaped e = true ∧ Q (.bl ((ds.any fun z => PyData.eqv z d) != neg)) H
theorem op_inX (hu : X.A.units + 65 < cLine) : OpR X (compareOp .In) (rInX X.K false) := by
  intro pins s σ H x y v u Q I rx ry h
  obtain ⟨d, e, ds, he0, hd, he, sd, se, q⟩ := h
  obtain ⟨as, r1⟩ := Dp.reads I d x v hd rx
  obtain ⟨bs, r2⟩ := Dp.reads I e y u he ry
  rw [Bool.bne_false] at q
  rcases he0 with rfl | rfl
  · exact SeqAt.in_list_reads r2 r1 (SeqAt.canLay_of_shaped se) (SeqAt.canLay_of_shaped sd) (room_in_shaped sd hu) ⟨.bl _, H, I, rfl, q⟩
  · exact SeqAt.in_tuple_reads r2 r1 (SeqAt.canLay_of_shaped se) (SeqAt.canLay_of_shaped sd) (room_in_shaped sd hu) ⟨.bl _, H, I, rfl, q⟩
theorem op_ninX (hu : X.A.units + 65 < cLine) : OpR X (compareOp .NotIn) (rInX X.K true) := by
  intro pins s σ H x y v u Q I rx ry h
  obtain ⟨d, e, ds, he0, hd, he, sd, se, q⟩ := h
  obtain ⟨as, r1⟩ := Dp.reads I d x v hd rx
  obtain ⟨bs, r2⟩ := Dp.reads I e y u he ry
  rw [Bool.bne_true] at q
  rcases he0 with rfl | rfl
  · exact SeqAt.notIn_list_reads r2 r1 (SeqAt.canLay_of_shaped se) (SeqAt.canLay_of_shaped sd) (room_in_shaped sd hu) ⟨.bl _, H, I, rfl, q⟩
  · exact SeqAt.notIn_tuple_reads r2 r1 (SeqAt.canLay_of_shaped se) (SeqAt.canLay_of_shaped sd) (room_in_shaped sd hu) ⟨.bl _, H, I, rfl, q⟩
theorem opd_inX {neg : Bool} : OpD X (rInX X.K neg) (inX neg) := by
  intro ph am H x y d e c Q hn dx dy q k
  unfold inX at q
  split at q
  · obtain ⟨⟨h1, h2⟩, rfl⟩ := if_some q
    exact ⟨d, _, _, .inl rfl, (dp_mono hid_sub dx).dp, (dp_mono hid_sub dy).dp, h1, h2, k _ H (Same.refl H) (.bl _)⟩
  · obtain ⟨⟨h1, h2⟩, rfl⟩ := if_some q
    exact ⟨d, _, _, .inr rfl, (dp_mono hid_sub dx).dp, (dp_mono hid_sub dy).dp, h1, h2, k _ H (Same.refl H) (.bl _)⟩
  · cases q
theorem de_inX (hu : X.A.units + 65 < cLine) (ha : DE X W e1 f) (hb : DE X W e2 g) (hm : behindInMarks .In e2 = false := by rfl) : DE X W (.Compare e1 [.In] [e2] pos) (xBin (inX false) f g) := de_cmp opd_inX (op_inX hu) hm ha hb
theorem de_ninX (hu : X.A.units + 65 < cLine) (ha : DE X W e1 f) (hb : DE X W e2 g) (hm : behindInMarks .NotIn e2 = false := by rfl) : DE X W (.Compare e1 [.NotIn] [e2] pos) (xBin (inX true) f g) := de_cmp opd_inX (op_ninX hu) hm ha hb
theorem dt_inX (hu : X.A.units + 65 < cLine) (ha : DE X W e1 f) (hb : DE X W e2 g) (hm : behindInMarks .In e2 = false := by rfl) : DT X W (.Compare e1 [.In] [e2] pos) (xBool (xBin (inX false) f g)) := dt_cmp opd_inX (op_inX hu) hm ha hb
theorem dt_ninX (hu : X.A.units + 65 < cLine) (ha : DE X W e1 f) (hb : DE X W e2 g) (hm : behindInMarks .NotIn e2 = false := by rfl) : DT X W (.Compare e1 [.NotIn] [e2] pos) (xBool (xBin (inX true) f g)) := dt_cmp opd_inX (op_ninX hu) hm ha hb

/-! ### <, of ints or of texts -/
def ltX (a b : PyData) : Option PyData := match a, b with
  | .int i, .int j => some (.bool (decide (i < j)))
  | .str i, .str j => some (.bool (decide (i.cps.toList < j.cps.toList)))
  | _, _ => none
def rLtX : R2 := fun x y H Q => (∃ i j, x = .int i ∧ y = .int j ∧ Q (.bl (decide (i < j))) H) ∨ (∃ i j, x = .str i ∧ y = .str j ∧ Q (.bl (decide (i.cps.toList < j.cps.toList))) H)
theorem op_ltX : OpR X (compareOp .Lt) rLtX := by
  intro pins s σ H x y v u Q I rx ry h
  rcases h with h | h
  · exact op_lt pins s σ H x y v u Q I rx ry h
  · exact op_lt_str pins s σ H x y v u Q I rx ry h
theorem opd_ltX : OpD X rLtX ltX := by
  intro ph am H x y d e c Q hn dx dy q k
  cases dx <;> cases dy <;> simp only [ltX, Option.some.injEq, reduceCtorEq] at q
  · subst q; exact .inl ⟨_, _, rfl, rfl, k _ H (Same.refl H) (.bl _)⟩
  · subst q; exact .inr ⟨_, _, rfl, rfl, k _ H (Same.refl H) (.bl _)⟩
theorem de_ltX (ha : DE X W e1 f) (hb : DE X W e2 g) : DE X W (.Compare e1 [.Lt] [e2] pos) (xBin ltX f g) := de_cmp opd_ltX op_ltX (nomark _) ha hb
theorem dt_ltX (ha : DE X W e1 f) (hb : DE X W e2 g) : DT X W (.Compare e1 [.Lt] [e2] pos) (xBool (xBin ltX f g)) := dt_cmp opd_ltX op_ltX (nomark _) ha hb
end PD
end

section
set_option Elab.async false
set_option linter.all false
set_option maxRecDepth 100000
set_option maxHeartbeats 1000000
namespace PD
open PySem PySem.Spec PyProof.Rows L2
variable {X : Cx} {W : WX} {pos : Pos} {e e1 e2 e3 : Expr} {es : List Expr} {f g h : M PyData} {fs : M (List PyData)} {fb gb : M Bool}
variable {K : PySem.W.Frag} {ph : Fx} {am am' am1 : Am} {H H' H1 : Hp} {σ σ' : L2.St} {δ δ' δ1 : Sg} {a p p1 p2 : Addr} {v : V} {vs : List V} {d : PyData} {ds : List PyData} {i : Nat}

/-! ### x.extend(a new list) -/
def sExt (i : Nat) (fs : M (List PyData)) : MS := fun δ => match δ[i]? with
  | some (.ow _ _) => (bnd fs fun xs => fun δ1 => match δ1[i]? with
    | some (.ow b ds) => if ds.length + xs.length ≤ sizeLine then some (.ok .nx, δ1.set i (.ow b (ds ++ xs))) else none
    | _ => none) δ
  | _ => none
theorem ds_ext {i : Nat} {x : Str} {pn apos cpos : Pos} (he : DF X W e fs) (hN : X.N[i]? = some x := by rfl) (hv : Vis X.env.scope x := by first | exact Or.inl rfl | exact Or.inr (Or.inl rfl) | exact Or.inr (Or.inr rfl)) (hd : (x == ("__debug__" : Str)) = false := by decide) (hcd : (x == ("__classdict__" : Str)) = false := by decide)
    (hs0 : starEach [e] X.env = (false, eval e X.env) :: starEach [] X.env := by rfl)
    (hbase : attributeBase (.Name x pn) "extend" X.env (eval (.Name x pn) X.env) = eval (.Name x pn) X.env := by rfl)
    (hfew : ((backTo cpos (starEach [e] X.env)).all (fun x => !x.1) && (backToKw cpos (keywordEach [] X.env)).all (fun x => x.1.isSome)
      && decide (([e] : List Expr).length + ([] : List Keyword).length + (if ([] : List Keyword).isEmpty then 0 else 1) < 30)) = true := by rfl)
    (hline : (apos.endLine == cpos.line) = true := by rfl) (hplain : (backTo cpos (starEach [] X.env)).any (·.1) = false := by rfl)
    (hs : swapsWith (.Call (.Attribute (.Name x pn) "extend" apos) [e] [] cpos) none pos.line X.env = pure false := by rfl) : DS X W (.Expr (.Call (.Attribute (.Name x pn) "extend" apos) [e] [] cpos) pos) (sExt i fs) := by
  obtain ⟨t, p, q⟩ := he.ex
  refine ⟨⟨_, ps_expr (pe_bm PySem.F.plainAttrs_list PySem.F.slot_list_extend PySem.F.type_list_extend mt_extend (pe_var hN hv hd hcd) (pa_cons p pa_nil hs0) hbase hfew hline hs0 hplain) hs, fun ph am σ H δ D ans δ' sr z k kx => ?_⟩⟩
  unfold sExt at z
  split at z
  · rename_i b0 ds0 e3
    obtain ⟨a0, vs0, o1, o2, o3, o4, _, _⟩ := sr.ow i b0 ds0 e3
    refine ⟨.ref a0, o2, .inl ⟨rfl, _, .inl (.inl o3)⟩, ?_⟩
    rcases bnd_some z with ⟨d, δ2, e4, e5⟩ | ⟨c, fs, e4, e5⟩
    · refine q ph am σ H δ _ _ _ sr e4 (fun xs ed am2 D2 ws H2 n0 n1 st2 s2 d2 hz => ?_) (fun c fs z => by cases z)
      cases ed
      split at e5
      · rename_i b ds e6
        have sm : Same H2 (upd H2 D2 (.lst ws)) := same_new n1
        have s3 := s2.same sm
        obtain ⟨a1, vs1, r1, r2, r3, r4, r5, r6⟩ := s3.ow i b ds e6
        rw [o2] at r2
        cases r2
        obtain ⟨hz2, e8⟩ := if_some e5
        cases e8
        have hl : vs1.length + ws.length ≤ sizeLine := by rw [r4.length, d2.length]; exact hz2
        refine ⟨a0, D2, vs1, ws, rfl, rfl, r3, upd_same, hl, ?_⟩
        exact k _ rfl am2 σ _ ((st2.trans (Step.of sm)).trans (step_mut r1 r3)) (s3.mut e6 r1 (r4.append (dps_mono (hid_same sm) d2)) (by rw [List.length_append]; exact hl))
      · cases e5
    · subst e5
      exact q ph am σ H δ _ _ _ sr e4 (fun d ed => by cases ed) (fun c' fs' z => by cases z; exact (kx _ _ rfl).at)
  · cases z

/-! ### while, with so much fuel -/
variable {gs hs : MS} {body : List Stmt}
def sWhile (t : M Bool) (b : MS) : Nat → MS
  | 0, _ => none
  | n + 1, δ => match t δ with
    | some (.ok false, δ1) => some (.ok .nx, δ1)
    | some (.ok true, δ1) => (match b δ1 with
      | some (.ok .nx, δ2) => sWhile t b n δ2
      | some (.ok .ct, δ2) => sWhile t b n δ2
      | some (.ok .bk, δ2) => some (.ok .nx, δ2)
      | r => r)
    | _ => none
theorem ds_while {c : Expr} (n : Nat) (hp : PassesOwn (model X.prog X.w) X.A X.env X.xe) (hc : DT X W c fb) (hb : DSs X W body gs) : DS X W (.While c body [] pos) (sWhile fb gs n) := by
  obtain ⟨tc, pc, qc⟩ := hc.ex
  obtain ⟨tb, pb, qb⟩ := hb.ex
  refine ⟨⟨_, ps_while hp pc pb, fun ph am σ H δ D ans δ' s z k kx => ?_⟩⟩
  refine ⟨fun m σ' H' => ∃ am2 δ2, Step am H am2 H' ∧ SR X.K ph am2 σ' H' δ2 ∧ sWhile fb gs m δ2 = some (ans, δ'), ⟨n, am, δ, Step.refl, s, z⟩, ?_⟩
  rintro m σ' H' ⟨am2, δ2, st, s2, el⟩
  cases m with
  | zero => cases el
  | succ m =>
    unfold sWhile at el
    split at el
    · rename_i δ3 et
      cases el
      exact qc ph am2 σ' H' δ2 _ _ _ s2 et (fun b eb am3 H3 st3 s3 => by
        cases eb
        rw [if_neg Bool.false_ne_true]
        exact k _ rfl am3 σ' H3 (st.trans st3) s3) (fun c fs z => by cases z)
    · rename_i δ3 et
      refine qc ph am2 σ' H' δ2 _ _ _ s2 et (fun b eb am3 H3 st3 s3 => ?_) (fun c fs z => by cases z)
      cases eb
      rw [if_pos rfl]
      have stA := st.trans st3
      refine ⟨fun σ4 H4 => ∃ am4 δ4, Step am H am4 H4 ∧ SR X.K ph am4 σ4 H4 δ4 ∧ sWhile fb gs m δ4 = some (ans, δ'), fun σ4 H4 q => ⟨m, Nat.lt_succ_self m, q⟩, ?_⟩
      split at el
      · rename_i δ4 eb
        exact qb ph am3 σ' H3 δ3 _ _ _ s3 eb (fun fl z => by cases z; exact fun am5 σ5 H5 st5 s5 => ⟨am5, δ4, stA.trans st5, s5, el⟩) (fun c fs z => by cases z)
      · rename_i δ4 eb
        exact qb ph am3 σ' H3 δ3 _ _ _ s3 eb (fun fl z => by cases z; exact fun am5 σ5 H5 st5 s5 => ⟨am5, δ4, stA.trans st5, s5, el⟩) (fun c fs z => by cases z)
      · rename_i δ4 eb
        cases el
        exact qb ph am3 σ' H3 δ3 _ _ _ s3 eb (fun fl z => by cases z; exact fun am5 σ5 H5 st5 s5 => k _ rfl am5 σ5 H5 (stA.trans st5) s5) (fun c fs z => by cases z)
      · rename_i n1 n2 n3
        refine qb ph am3 σ' H3 δ3 _ ans δ' s3 el (fun fl z => ?_) (fun c fs z => (kx c fs z).step stA)
        subst z
        cases fl with
        | nx => exact (n1 _ el).elim
        | ct => exact (n2 _ el).elim
        | bk => exact (n3 _ el).elim
        | rt d => exact fun am5 σ5 v H5 st5 s5 d5 => k _ rfl am5 σ5 v H5 (stA.trans st5) s5 d5
        | rf ds => exact fun am5 σ5 p vs H5 m1 m2 st5 s5 d5 => k _ rfl am5 σ5 p vs H5 (stA.none m1) m2 (stA.trans st5) s5 d5
        | ro ds => exact fun am5 σ5 i p vs H5 st5 s5 d5 => k _ rfl am5 σ5 i p vs H5 (stA.trans st5) s5 d5
    · cases el
end PD
end

section
set_option Elab.async false
set_option linter.all false
set_option maxRecDepth 100000
set_option maxHeartbeats 1000000
namespace PD
open PySem PySem.Spec PyProof.Rows L2
variable {X : Cx} {W : WX} {pos : Pos} {e e1 e2 e3 : Expr} {es : List Expr} {f g h : M PyData} {fs gs : M (List PyData)} {fb gb : M Bool}
variable {K : PySem.W.Frag} {ph : Fx} {am am' am1 : Am} {H H' H1 : Hp} {σ σ' : L2.St} {δ δ' δ1 : Sg} {a p p1 p2 : Addr} {v : V} {vs : List V} {d : PyData} {ds : List PyData} {i : Nat}

/-! ### max(xs), min(xs, default=d), max(xs, default=d), xs a list of ints -/
theorem ints_reads {h : Heap} : ∀ {ns : List Int} {us : List Value}, Vals (ns.map V.int) us → ∃ as, ReadsAll h us (ns.map .int) as
  | [], _, r => by cases r; exact ⟨_, .nil⟩
  | n :: ns, _, r => by
    cases r with
    | cons r1 r2 =>
      obtain ⟨as, h2⟩ := ints_reads r2
      obtain ⟨t, rfl⟩ := r1
      exact ⟨_, .cons (.int n t) h2⟩
theorem alike_all_ints (ns : List Int) : PySem.W.AlikeAll (ns.map .int) := by
  refine ⟨fun x hx y hy => ?_, fun x hx z => ?_⟩
  · obtain ⟨i, _, rfl⟩ := List.mem_map.mp hx
    obtain ⟨j, _, rfl⟩ := List.mem_map.mp hy
    simp [PySem.W.alike]
  · obtain ⟨i, _, rfl⟩ := List.mem_map.mp hx
    cases z
def bestI (mx : Bool) (n : Int) (ns : List Int) : Int := ns.foldl (if mx then max else min) n
theorem bestI_max (n : Int) (ns : List Int) : PySem.W.maxD (.int n) (ns.map .int) = .int (bestI true n ns) := PySem.W.maxD_ints n ns
theorem bestI_min (n : Int) (ns : List Int) : PySem.W.minD (.int n) (ns.map .int) = .int (bestI false n ns) := PySem.W.minD_ints n ns
/-- max(xs) -/
def rMaxL (K : PySem.W.Frag) : List V → Hp → VK → Prop := fun xs H Q => ∃ a n ns, xs = [.ref a] ∧ SqL K H a ((n :: ns).map V.int) ∧ Q (.int (bestI true n ns)) H
theorem cr_maxL (hc : X.calm = true) (hu : X.A.units + 65 < cLine) : CallR X (.builtin "max") (rMaxL X.K) := by
  intro pins s σ H vs us Q I r h
  obtain ⟨a, n, ns, rfl, hs, q⟩ := h
  obtain ⟨its, rv, hl, _⟩ := I.list hs
  rw [Vals.ref1 r]
  obtain ⟨as, hr⟩ := ints_reads (h := s.heap) rv
  refine PySem.W.max_list_data (x := .int n) (xs := ns.map .int) (I.ok.hd hc) hl.isList (by simpa using hr) (alike_all_ints (n :: ns)) (by
    have := PySem.W.depth_ints (n :: ns)
    rw [List.map_cons] at this
    rw [this]; omega) fun i v h' tk bs hv hrd hk => ?_
  rw [bestI_max] at hrd
  cases hrd
  exact ⟨.int _, H, I.kept hk, ⟨_, rfl⟩, q⟩
def maxLD : List PyData → Option PyData
  | [.list xs] => match ints? xs with
    | some (n :: ns) => some (.int (bestI true n ns))
    | _ => none
  | _ => none
theorem calld_maxL : CallD X (rMaxL X.K) maxLD := one_list (R := fun xs c => ∃ n ns, ints? xs = some (n :: ns) ∧ c = .int (bestI true n ns)) (fun ds c h => by
    unfold maxLD at h
    split at h
    · rename_i xs
      split at h
      · rename_i n ns e
        cases h; exact ⟨xs, rfl, n, ns, e, rfl⟩
      · cases h
    · cases h) fun a vs xs c H ph am Q h1 a1 ⟨n, ns, hb, e⟩ k => by
      subst e
      have := ints_vs a1 hb
      subst this
      exact ⟨a, n, ns, rfl, h1, k _ (.int _)⟩
theorem de_maxL {pf : Pos} (hu : X.A.units + 65 < cLine) (hd : DA X W [e] fs) (hm : X.mg "max" = none) (hc : X.calm = true := by rfl) (hg : Gl X "max" := by rfl) (he : starEach [e] X.env = (false, eval e X.env) :: starEach [] X.env := by rfl) (hpl : (backTo pos (starEach [] X.env)).any (·.1) = false := by rfl) : DE X W (.Call (.Name "max" pf) [e] [] pos) (xCall maxLD fs) :=
  de_callB calld_maxL (cr_maxL hc hu) hm bb_max hd hg (by decide) (by decide) he hpl
/-- with default=d -/
def rBest (K : PySem.W.Frag) (mx : Bool) : List V → List V → Hp → VK → Prop := fun xs zs H Q => ∃ a ns z, xs = [.ref a] ∧ zs = [z] ∧ SqL K H a (ns.map V.int) ∧ (ns = [] → Q z H) ∧ ∀ n r, ns = n :: r → Q (.int (bestI mx n r)) H
theorem cr_bestMin (hc : X.calm = true) (hu : X.A.units + 65 < cLine) : CallRK X (.builtin "min") [Str.ofString "default"] (rBest X.K false) := by
  intro pins s σ H xs zs us ws Q I r rz h
  obtain ⟨a, ns, z, rfl, rfl, hs, q0, q1⟩ := h
  obtain ⟨its, rv, hl, _⟩ := I.list hs
  rw [Vals.ref1 r]
  obtain ⟨wz, rfl, rwz⟩ := rz.one
  obtain ⟨as, hr⟩ := ints_reads (h := s.heap) rv
  refine PySem.W.min_list_default (xs := ns.map .int) (I.ok.hd hc) hl.isList (by simpa using hr) (alike_all_ints ns) (by rw [PySem.W.depth_ints]; omega) (fun e h' tk hk => ?_) fun y ys i v h' tk bs e hv hrd hk => ?_
  · exact ⟨z, H, I.kept hk, rwz, q0 (by simpa using e)⟩
  · cases ns with
    | nil => cases e
    | cons n r =>
      cases e
      rw [bestI_min] at hrd
      cases hrd
      exact ⟨.int _, H, I.kept hk, ⟨_, rfl⟩, q1 n r rfl⟩
theorem cr_bestMax (hc : X.calm = true) (hu : X.A.units + 65 < cLine) : CallRK X (.builtin "max") [Str.ofString "default"] (rBest X.K true) := by
  intro pins s σ H xs zs us ws Q I r rz h
  obtain ⟨a, ns, z, rfl, rfl, hs, q0, q1⟩ := h
  obtain ⟨its, rv, hl, _⟩ := I.list hs
  rw [Vals.ref1 r]
  obtain ⟨wz, rfl, rwz⟩ := rz.one
  obtain ⟨as, hr⟩ := ints_reads (h := s.heap) rv
  refine PySem.W.max_list_default (xs := ns.map .int) (I.ok.hd hc) hl.isList (by simpa using hr) (alike_all_ints ns) (by rw [PySem.W.depth_ints]; omega) (fun e h' tk hk => ?_) fun y ys i v h' tk bs e hv hrd hk => ?_
  · exact ⟨z, H, I.kept hk, rwz, q0 (by simpa using e)⟩
  · cases ns with
    | nil => cases e
    | cons n r =>
      cases e
      rw [bestI_max] at hrd
      cases hrd
      exact ⟨.int _, H, I.kept hk, ⟨_, rfl⟩, q1 n r rfl⟩
def bestD (mx : Bool) (ds zs : List PyData) : Option PyData := match ds, zs with
  | [.list xs], [z] => match ints? xs with
    | some [] => some z
    | some (n :: ns) => some (.int (bestI mx n ns))
    | none => none
  | _, _ => none
def xCallK (F : List PyData → List PyData → Option PyData) (fs gs : M (List PyData)) : M PyData := bnd fs fun ds => bnd gs fun zs => lif (F ds zs)
theorem best_read {mx : Bool} {t tk : TA} (qa : ReadA X W t fs) (qb : ReadA X W tk gs) : ReadE X W (tCKw (rBest X.K mx) t tk) (xCallK (bestD mx) fs gs) := by
  intro ph am σ H δ Q ans δ' s q k kx
  rcases bnd_some q with ⟨a, δ1, e1, q1⟩ | ⟨c, fs, e1, q1⟩
  · refine qa ph am σ H δ _ _ _ s e1 (fun ds ed am1 xs H1 st1 s1 d1 => ?_) (fun c fs z => by cases z)
    cases ed
    rcases bnd_some q1 with ⟨b, δ2, e2, q2⟩ | ⟨c, fs, e2, q2⟩
    · refine qb ph am1 σ H1 δ1 _ _ _ s1 e2 (fun zs ed am2 ys H2 st2 s2 d2 => ?_) (fun c fs z => by cases z)
      cases ed
      obtain ⟨c, ec, rfl, rfl⟩ := lif_some q2
      have d1' := dps_mono st2.hid d1
      unfold bestD at ec
      split at ec
      · rename_i xs0 z0
        cases d1' with
        | cons h1 t1 =>
          cases t1
          cases d2 with
          | cons g1 t2 =>
            cases t2
            rename_i v1 _ v2
            cases h1 with
            | lst l1 l2 =>
              have fin : ∀ w, Dq X.K (hid ph am2 H2) w c → Q w H2 := fun w dw => k _ rfl am2 w H2 (st1.trans st2) s2 dw
              split at ec
              · rename_i hi
                cases ec
                have hv := ints_vs l2 hi
                subst hv
                exact ⟨_, [], _, rfl, rfl, rd_hid l1, fun _ => fin _ g1, fun n r z => by cases z⟩
              · rename_i n ns hi
                cases ec
                have hv := ints_vs l2 hi
                subst hv
                exact ⟨_, n :: ns, _, rfl, rfl, rd_hid l1, fun z => (by cases z), fun n' r z => by cases z; exact fin _ (.int _)⟩
              · cases ec
      · cases ec
    · subst q2
      exact qb ph am1 σ H1 δ1 _ _ _ s1 e2 (fun d ed => by cases ed) (fun c' fs' z => by cases z; exact (kx _ _ rfl).step st1)
  · subst q1
    exact qa ph am σ H δ _ _ _ s e1 (fun d ed => by cases ed) (fun c' fs' z => by cases z; exact kx _ _ rfl)
theorem de_minK {pf : Pos} {kws : List Keyword} (hu : X.A.units + 65 < cLine) (ha : DA X W [e] fs) (hk : DK X W kws gs) (hm : X.mg "min" = none) (hc : X.calm = true := by rfl) (hg : Gl X "min" := by rfl)
    (he : backTo pos (starEach [e] X.env) = (false, eval e X.env) :: backTo pos (starEach [] X.env) := by rfl) (hpl : (backTo pos (starEach [e] X.env)).any (·.1) = false := by rfl)
    (hall : (backToKw pos (keywordEach kws X.env)).all (·.1.isSome) = true := by rfl) (hnone : (backToKw pos (keywordEach kws X.env)).any (·.1.isNone) = false := by rfl) (hks : (backToKw pos (keywordEach kws X.env)).filterMap (·.1) = [Str.ofString "default"] := by rfl) :
    DE X W (.Call (.Name "min" pf) [e] kws pos) (xCallK (bestD false) fs gs) := by
  obtain ⟨ta, pa, qa⟩ := ha.ex
  obtain ⟨tb, pb, qb⟩ := hk.ex
  exact ⟨⟨_, pe_callBK (cr_bestMin hc hu) hg hm bb_min pa pb (by decide) (by decide) he hpl hall hnone hks, best_read qa qb⟩⟩
theorem de_maxK {pf : Pos} {kws : List Keyword} (hu : X.A.units + 65 < cLine) (ha : DA X W [e] fs) (hk : DK X W kws gs) (hm : X.mg "max" = none) (hc : X.calm = true := by rfl) (hg : Gl X "max" := by rfl)
    (he : backTo pos (starEach [e] X.env) = (false, eval e X.env) :: backTo pos (starEach [] X.env) := by rfl) (hpl : (backTo pos (starEach [e] X.env)).any (·.1) = false := by rfl)
    (hall : (backToKw pos (keywordEach kws X.env)).all (·.1.isSome) = true := by rfl) (hnone : (backToKw pos (keywordEach kws X.env)).any (·.1.isNone) = false := by rfl) (hks : (backToKw pos (keywordEach kws X.env)).filterMap (·.1) = [Str.ofString "default"] := by rfl) :
    DE X W (.Call (.Name "max" pf) [e] kws pos) (xCallK (bestD true) fs gs) := by
  obtain ⟨ta, pa, qa⟩ := ha.ex
  obtain ⟨tb, pb, qb⟩ := hk.ex
  exact ⟨⟨_, pe_callBK (cr_bestMax hc hu) hg hm bb_max pa pb (by decide) (by decide) he hpl hall hnone hks, best_read qa qb⟩⟩
end PD
end

section
set_option Elab.async false
set_option linter.all false
set_option maxRecDepth 100000
set_option maxHeartbeats 2000000
namespace PD
open PySem PySem.Spec PyProof.Rows L2
variable {X : Cx} {W : WX} {pos : Pos} {e e1 e2 e3 : Expr} {es : List Expr} {f g h : M PyData} {fs gs : M (List PyData)} {fb gb : M Bool}
variable {K : PySem.W.Frag} {ph : Fx} {am am' am1 : Am} {H H' H1 : Hp} {σ σ' : L2.St} {δ δ' δ1 : Sg} {a p p1 p2 : Addr} {v : V} {vs : List V} {d : PyData} {ds : List PyData} {i : Nat}

/-! ### sorted(set(xs)): xs a list or a tuple of ints, or a list of pairs of small numbers -/
def pairsOf : List PyData → Option (List (Int × Int))
  | [] => some []
  | .tuple [.int x, .int y] :: ds => if 0 ≤ x ∧ x < 64 ∧ 0 ≤ y ∧ y < 64 then (pairsOf ds).map ((x, y) :: ·) else none
  | _ => none
def codeP (q : Int × Int) : Int := q.1 * 64 + q.2
def decP (c : Int) : PyData := .tuple [.int (c / 64), .int (c % 64)]
def sortSetX : List PyData → Option (List PyData)
  | [.list ds] => match intsOf ds with
    | some ns => if ns.length < 64 then some ((setI ns).map .int) else none
    | none => match pairsOf ds with
      | some ps => if ps.length < 64 then some ((setI (ps.map codeP)).map decP) else none
      | none => none
  | [.tuple ds] => match intsOf ds with
    | some ns => if ns.length < 64 then some ((setI ns).map .int) else none
    | none => none
  | _ => none
def rSetTp (K : PySem.W.Frag) (w : World) : List V → Hp → VK → Prop := fun xs H Q => ∃ (l : Addr) (ns : List Int), xs = [V.ref l] ∧ SqT K H l (ns.map V.int) ∧ ns.length < 64 ∧
  ∀ a c, H a = none → c ≤ ns.length → Q (.ref a) (upd H a (SetO w a (fun j => decide (j ∈ ns)) c))
theorem cr_setTp (hc : X.calm = true) : CallR X (.type "set") (rSetTp X.K X.w) := by
  intro pins s σ H xs us Q I r h
  obtain ⟨l, ns, rfl, hl, hf, q⟩ := h
  rw [Vals.ref1 r]
  obtain ⟨its, rv, pl, hz⟩ := I.tuple hl
  obtain ⟨o, ho, hcl, n, hd⟩ := pl
  refine call_set_tupI ns (I.ok.hd hc) ⟨o, ho, hcl, n, hd⟩ (by simpa using rv.ints) (by unfold scanBound; omega) fun h' tk c R hle k => ?_
  exact ⟨.ref s.heap.objs.size, upd H s.heap.objs.size (SetO X.w s.heap.objs.size _ c), I.laid (t' := tk) k (Nat.le_refl _) (setO_new R), rfl, q _ c (I.hok.fresh (Nat.le_refl _)) hle⟩
def rSetX (K : PySem.W.Frag) (P : Program) (w : World) : List V → Hp → VK → Prop := fun xs H Q => rSetI K w xs H Q ∨ rSetTp K w xs H Q ∨ rSetOfT K P w xs H Q
theorem cr_setX (hc : X.calm = true) (hu : X.A.units + 65 < cLine) : CallR X (.type "set") (rSetX X.K X.prog X.w) := by
  intro pins s σ H xs us Q I r h
  rcases h with h | h | h
  · exact cr_setI hc pins s σ H xs us Q I r h
  · exact cr_setTp hc pins s σ H xs us Q I r h
  · exact cr_setOfT hc (by omega) pins s σ H xs us Q I r h
def rSortX (K : PySem.W.Frag) (P : Program) (w : World) : List V → Hp → VK → Prop := fun xs H Q => rSortedSet w xs H Q ∨ rSortedT K P w xs H Q
theorem cr_sortX (hc : X.calm = true) : CallR X (.builtin "sorted") (rSortX X.K X.prog X.w) := by
  intro pins s σ H xs us Q I r h
  rcases h with h | h
  · exact cr_sortedSet hc pins s σ H xs us Q I r h
  · exact cr_sortedT hc pins s σ H xs us Q I r h
theorem pairs_q : ∀ {vs : List V} {ds : List PyData} {ps : List (Int × Int)}, DqAll K H vs ds → pairsOf ds = some ps → ∃ ks : List (Addr × List Int), vs = (ks.map fun p => V.ref p.1) ∧ (∀ q ∈ ks, H q.1 = some (.tup (q.2.map V.int))) ∧ ks.map (·.2) = ps.map (fun q => [q.1, q.2]) ∧ ∀ q ∈ ps, 0 ≤ q.1 ∧ q.1 < 64 ∧ 0 ≤ q.2 ∧ q.2 < 64
  | _, _, _, .nil, e => by cases e; exact ⟨[], rfl, (fun _ h => by cases h), rfl, (fun _ h => by cases h)⟩
  | _, _, _, .cons h t, e => by
    cases h with
    | tup h1 h2 =>
      rename_i a xs ds0
      cases h2 with
      | nil => cases e
      | cons g1 t1 =>
        cases t1 with
        | nil => cases g1 <;> cases e
        | cons g2 t2 =>
          cases t2 with
          | cons _ _ => cases g1 <;> cases g2 <;> cases e
          | nil =>
            cases g1 with
            | int x =>
              cases g2 with
              | int y =>
                unfold pairsOf at e
                split at e
                · rename_i hb
                  obtain ⟨ps, e1, rfl⟩ := Option.map_eq_some_iff.mp e
                  obtain ⟨ks, k1, k2, k3, k4⟩ := pairs_q t e1
                  refine ⟨(a, [x, y]) :: ks, by rw [k1]; rfl, fun q hq => ?_, by rw [List.map_cons, List.map_cons, k3], fun q hq => ?_⟩
                  · rcases List.mem_cons.mp hq with rfl | hq
                    · exact h1
                    · exact k2 q hq
                  · rcases List.mem_cons.mp hq with rfl | hq
                    · exact hb
                    · exact k4 q hq
                · cases e
              | _ => cases e
            | _ => cases e
    | _ => cases e
theorem dec_code {x y : Int} (h : 0 ≤ x ∧ x < 64 ∧ 0 ≤ y ∧ y < 64) : decP (TS.code 64 [x, y]) = .tuple [.int x, .int y] := by
  unfold decP
  rw [code_pair]
  have e1 : (x * 64 + y) / 64 = x := by omega
  have e2 : (x * 64 + y) % 64 = y := by omega
  rw [e1, e2]
theorem code_eq {x y x' y' : Int} (h : 0 ≤ x ∧ x < 64 ∧ 0 ≤ y ∧ y < 64) (h' : 0 ≤ x' ∧ x' < 64 ∧ 0 ≤ y' ∧ y' < 64) (e : TS.code 64 [x, y] = TS.code 64 [x', y']) : ([x, y] : List Int) = [x', y'] := by
  rw [code_pair, code_pair] at e
  have e1 : x = x' := by omega
  have e2 : y = y' := by omega
  rw [e1, e2]
/-- what comes out of a sorted set of pairs -/
theorem pairs_out {ps : List (Int × Int)} {rows : List (List Int)} (hb : ∀ q ∈ ps, 0 ≤ q.1 ∧ q.1 < 64 ∧ 0 ≤ q.2 ∧ q.2 < 64) (hm : ∀ r, r ∈ rows ↔ r ∈ ps.map (fun q => [q.1, q.2])) (nd : rows.Nodup) (pw : rows.Pairwise fun q r => TS.code 64 q ≤ TS.code 64 r) :
    rows.map (fun r => PyData.tuple (r.map .int)) = (setI (ps.map codeP)).map decP := by
  have hrow : ∀ r ∈ rows, ∃ q ∈ ps, r = [q.1, q.2] := fun r hr => by
    obtain ⟨q, h1, h2⟩ := List.mem_map.mp ((hm r).mp hr)
    exact ⟨q, h1, h2.symm⟩
  have hc : rows.map (TS.code 64) = setI (ps.map codeP) := by
    refine lt_unique ?_ (setI_sorted _) fun y => ?_
    · rw [List.pairwise_map]
      refine (pw.and nd).imp_of_mem fun {q r} hq hr h => ?_
      obtain ⟨h1, h2⟩ := h
      refine Int.lt_iff_le_and_ne.mpr ⟨h1, fun z => h2 ?_⟩
      obtain ⟨a, ha, rfl⟩ := hrow q hq
      obtain ⟨b, hb', rfl⟩ := hrow r hr
      exact code_eq (hb a ha) (hb b hb') z
    · rw [setI_mem, List.mem_map, List.mem_map]
      constructor
      · rintro ⟨r, hr, rfl⟩
        obtain ⟨q, hq, rfl⟩ := hrow r hr
        exact ⟨q, hq, by unfold codeP; rw [code_pair]⟩
      · rintro ⟨q, hq, rfl⟩
        exact ⟨[q.1, q.2], (hm _).mpr (List.mem_map.mpr ⟨q, hq, rfl⟩), by unfold codeP; rw [code_pair]⟩
  rw [← hc, List.map_map]
  refine List.map_congr_left fun r hr => ?_
  obtain ⟨q, hq, rfl⟩ := hrow r hr
  exact (dec_code (hb q hq)).symm
theorem refs_q {L : List (Addr × List Int)} (h : ∀ q ∈ L, H q.1 = some (.tup (q.2.map V.int))) : DqAll K H (L.map fun q => V.ref q.1) ((L.map (·.2)).map fun r => PyData.tuple (r.map .int)) := by
  induction L with
  | nil => exact .nil
  | cons q L ih => exact .cons (.tup (h q (List.mem_cons_self ..)) (ints_q _)) (ih fun r hr => h r (List.mem_cons_of_mem _ hr))
theorem df_sortSetX {pf ps p2 : Pos} (hc : X.calm = true) (hu : X.A.units + 65 < cLine) (hm : X.mg "sorted" = none) (hm2 : X.mg "set" = none) (h : DA X W [e] fs) (hg : Gl X "sorted" := by rfl) (hg2 : Gl X "set" := by rfl)
    (he : starEach [e] X.env = (false, eval e X.env) :: starEach [] X.env := by rfl) (hpl : (backTo p2 (starEach [] X.env)).any (·.1) = false := by rfl)
    (he2 : starEach [.Call (.Name "set" ps) [e] [] p2] X.env = (false, eval (.Call (.Name "set" ps) [e] [] p2) X.env) :: starEach [] X.env := by rfl) (hpl2 : (backTo pos (starEach [] X.env)).any (·.1) = false := by rfl) :
    DF X W (.Call (.Name "sorted" pf) [.Call (.Name "set" ps) [e] [] p2] [] pos) (xCallF sortSetX fs) := by
  obtain ⟨t, pt, qt⟩ := h.ex
  refine ⟨⟨_, pe_callB (cr_sortX hc) hg hm (by decide +kernel) (pa_cons (pe_callTy (cr_setX hc hu) hg2 hm2 (by decide +kernel) pt (by decide) (by decide) he hpl) pa_nil he2) (by decide) (by decide) he2 hpl2, fun ph am σ H δ Q ans δ' s z k kx => ?_⟩⟩
  rcases bnd_some z with ⟨xs, δ1, e1, e2⟩ | ⟨c, fs, e1, e2⟩
  · refine qt ph am σ H δ _ _ _ s e1 (fun d' ed am1 us H1 st1 s1 dv => ?_) (fun c fs z => by cases z)
    cases ed
    obtain ⟨rs, e3, rfl, rfl⟩ := lif_some e2
    have fin : ∀ ns : List Int, ∀ (a : Addr) (c : Nat), H1 a = none → c ≤ ns.length → ns.length < 64 → rs = (setI ns).map .int → rSortX X.K X.prog X.w [V.ref a] (upd H1 a (SetO X.w a (fun j => decide (j ∈ ns)) c)) Q := fun ns a c na hle hz er => by
      have sm : Same H1 (upd H1 a (SetO X.w a (fun j => decide (j ∈ ns)) c)) := same_new na
      refine .inl ⟨a, _, c, rfl, upd_same, by omega, fun ms p hs hms hl np => ?_⟩
      have em : ms = setI ns := lt_unique hs (setI_sorted ns) fun y => by rw [hms y, setI_mem]; simp
      subst em
      have st := st1.trans (Step.of (am := am1) sm)
      subst er
      exact k _ rfl am1 p _ _ (st.none np) np st (s1.same sm) (ints_q _) (by rw [List.length_map, sizeLine_eq]; have := setI_length ns; omega)
    cases dv with
    | nil => cases e3
    | cons g t =>
      cases t with
      | cons _ _ => cases g <;> cases e3
      | nil =>
        cases g with
        | lst h1 a1 =>
          unfold sortSetX at e3
          simp only at e3
          split at e3
          · rename_i ns e4
            obtain ⟨hz, rfl⟩ := if_some e3
            have ev := intsOf_q a1 e4
            subst ev
            exact .inl ⟨_, ns, rfl, rd_hid h1, hz, fun a c na hle => fin ns a c na hle hz rfl⟩
          · split at e3
            · rename_i qs e4
              obtain ⟨hz, rfl⟩ := if_some e3
              obtain ⟨ks, k1, k2, k3, k4⟩ := pairs_q a1 e4
              subst k1
              have hkl : ks.length = qs.length := by
                have := congrArg List.length k3
                simpa using this
              refine .inr (.inr ⟨_, ks, rfl, rd_hid h1, fun q hq => .inl (.inl (hid_sub _ _ (k2 q hq))), by omega, fun a L na hL hA => ?_⟩)
              have sm : Same H1 (upd H1 a (SetTO X.prog X.w a L)) := same_new na
              have hmem : ∀ r, r ∈ L.map (·.2) ↔ r ∈ qs.map (fun q => [q.1, q.2]) := fun r => by
                rw [← k3]
                constructor
                · intro h
                  obtain ⟨q, hq, rfl⟩ := List.mem_map.mp h
                  exact List.mem_map.mpr ⟨q, hL q hq, rfl⟩
                · intro h
                  obtain ⟨q, hq, rfl⟩ := List.mem_map.mp h
                  exact hA q hq
              refine .inr ⟨a, L, 2, 64, rfl, upd_same, fun q hq => .inl (.inl (sm _ _ (hid_sub _ _ (k2 q (hL q hq))))), by omega, fun q hq => ?_, fun L' p pm nd hl pw np => ?_⟩
              · obtain ⟨b, hb, e⟩ := List.mem_map.mp ((hmem q.2).mp (List.mem_map.mpr ⟨q, hq, rfl⟩))
                rw [← e]
                obtain ⟨b1, b2, b3, b4⟩ := k4 b hb
                refine ⟨rfl, fun m hm => ?_⟩
                simp only [List.mem_cons, List.not_mem_nil, or_false] at hm
                rcases hm with rfl | rfl
                · exact ⟨b1, b2⟩
                · exact ⟨b3, b4⟩
              · have st := st1.trans (Step.of (am := am1) sm)
                have hs2 := s1.same sm
                have hq := refs_q (K := X.K) (H := hid ph am1 (upd H1 a (SetTO X.prog X.w a L))) (L := L') fun q hq => hid_same sm _ _ (k2 q (hL q (pm.mem_iff.mp hq)))
                rw [pairs_out k4 (fun r => by rw [(pm.map (·.2)).mem_iff]; exact hmem r) nd (by rw [List.pairwise_map]; exact pw)] at hq
                exact k _ rfl am1 p _ _ (st.none np) np st hs2 hq (by rw [List.length_map, sizeLine_eq]; omega)
            · cases e3
        | tup h1 a1 =>
          unfold sortSetX at e3
          simp only at e3
          split at e3
          · rename_i ns e4
            obtain ⟨hz, rfl⟩ := if_some e3
            have ev := intsOf_q a1 e4
            subst ev
            exact .inr (.inl ⟨_, ns, rfl, .inl (.inl (hid_sub _ _ h1)), hz, fun a c na hle => fin ns a c na hle hz rfl⟩)
          · cases e3
        | _ => cases e3
  · subst e2
    exact qt ph am σ H δ _ _ _ s e1 (fun d ed => by cases ed) (fun c' fs' z => by cases z; exact kx _ _ rfl)
end PD
end

section
set_option Elab.async false
set_option linter.all false
set_option maxRecDepth 100000
set_option maxHeartbeats 2000000
namespace PD
open PySem PySem.Spec PyProof.Rows L2
variable {X : Cx} {W : WX} {pos : Pos} {e e1 e2 e3 : Expr} {es : List Expr} {f g h : M PyData} {fs gs : M (List PyData)} {fb gb : M Bool}
variable {K : PySem.W.Frag} {ph : Fx} {am am' am1 : Am} {H H' H1 : Hp} {σ σ' : L2.St} {δ δ' δ1 : Sg} {a p p1 p2 : Addr} {v : V} {vs : List V} {d : PyData} {ds : List PyData} {i : Nat}

/-! ### len(set(xs)), xs a list of ints -/
def lenSetD (d : PyData) : Option PyData := match d with
  | .list ds => match intsOf ds with
    | some ns => if ns.length ≤ 4000 then some (.int ((PyProof.Rows.firstMet (fun i => ns.getD i 0) ns.length).length : Nat)) else none
    | none => none
  | _ => none
def tLenSetX (K : PySem.W.Frag) (ta : TE) : TE := fun σ H Q => ta σ H fun x H1 => ∃ (l : Addr) (ns : List Int), x = V.ref l ∧ SqL K H1 l (ns.map V.int) ∧ ns.length ≤ 4000 ∧ Q (.int ((PyProof.Rows.firstMet (fun i => ns.getD i 0) ns.length).length : Nat)) H1
theorem pe_lenSetX {ta : TE} {p p2 q pos : Pos} (hg : Gl X "len") (hm : X.mg "len" = none) (hg2 : Gl X "set") (hm2 : X.mg "set" = none) (ha : PE X e ta) (hc : X.calm = true)
    (na : starEach [e] X.env = (false, eval e X.env) :: starEach [] X.env) : PE X (.Call (.Name "len" p) [.Call (.Name "set" p2) [e] [] q] [] pos) (tLenSetX X.K ta) := by
  refine ⟨fun pins s σ H Q I h => ?_⟩
  refine Call_ (ld_blt I hg hm boot_len ?_)
  refine PyProof.Rows.callWith_builtin1 (PyProof.Rows.args_cons ?_ rfl) rfl rfl
  refine Call_ (ld_blt I hg2 hm2 boot_set ?_)
  refine PyProof.Rows.callWith_type1 (PyProof.Rows.args_cons (thn (ha.run pins s σ H _ I h) fun v s1 ⟨x, H1, I1, r1, q1⟩ => PyProof.Rows.args_nil ?_) na) na rfl
  obtain ⟨l, ns, rfl, hq, hl, q1⟩ := q1
  cases r1
  obtain ⟨its, r, pl, hz⟩ := I1.list hq
  have hlen : its.toArray.size = ns.length := by rw [List.size_toArray, ← r.length, List.length_map]
  refine call_set_list (I1.ok.hd hc) pl.isList (ns := ns) (by simpa using r.ints) (by rw [hlen]; unfold scanBound; omega) fun h' tk hS hk => ?_
  refine PyProof.Rows.args_nil ?_
  rw [hlen] at hS
  obtain ⟨o, es, ep, t, ho, hex, hd, _, _, _, hf, hn⟩ := hS
  have I2 : Inv X pins σ H1 { s1 with heap := h', toks := tk } := I1.kept fun b o e => hk b o (Heap.lt_size e) e
  have hle := PyProof.Rows.firstMet_length_le (fun i => ns.getD i 0) ns.length
  exact call_len_set ho hex hd hf (by rw [hn] <;> omega) ⟨.int _, H1, I2.tok _, ⟨_, by rw [hn]⟩, q1⟩
theorem de_lenSet {p p2 q : Pos} (hc : X.calm = true) (hm : X.mg "len" = none) (hm2 : X.mg "set" = none) (ha : DE X W e f) (hg : Gl X "len" := by rfl) (hg2 : Gl X "set" := by rfl) (na : starEach [e] X.env = (false, eval e X.env) :: starEach [] X.env := by rfl) :
    DE X W (.Call (.Name "len" p) [.Call (.Name "set" p2) [e] [] q] [] pos) (xUn lenSetD f) := by
  obtain ⟨ta, pa, qa⟩ := ha.ex
  refine ⟨⟨_, pe_lenSetX hg hm hg2 hm2 pa hc na, fun ph am σ H δ Q ans δ' s z k kx => ?_⟩⟩
  rcases bnd_some z with ⟨a, δ1, e1, q1⟩ | ⟨c, fs, e1, q1⟩
  · refine qa ph am σ H δ _ _ _ s e1 (fun d ed am1 x H1 st1 s1 d1 => ?_) (fun c fs z => by cases z)
    cases ed
    obtain ⟨z, e3, rfl, rfl⟩ := lif_some q1
    cases d1 with
    | lst h1 a1 =>
      unfold lenSetD at e3
      simp only at e3
      split at e3
      · rename_i ns e4
        obtain ⟨hz, rfl⟩ := if_some e3
        have ev := intsOf_q a1 e4
        subst ev
        exact ⟨_, ns, rfl, rd_hid h1, hz, k _ rfl am1 _ H1 st1 s1 (.int _)⟩
      · cases e3
    | _ => cases e3
  · subst q1
    exact qa ph am σ H δ _ _ _ s e1 (fun d ed => by cases ed) (fun c' fs' z => by cases z; exact kx _ _ rfl)
/-! ### tuple(range(e)) -/
def tupRgD (d : PyData) : Option PyData := match d with
  | .int n => if 0 ≤ n ∧ n ≤ 100000 then some (.tuple (rangeL 0 n.toNat)) else none
  | _ => none
theorem de_tupRg {p p2 q : Pos} (hc : X.calm = true) (hm : X.mg "tuple" = none) (hm2 : X.mg "range" = none) (ha : DE X W e f) (hg : Gl X "tuple" := by rfl) (hg2 : Gl X "range" := by rfl) (na : starEach [e] X.env = (false, eval e X.env) :: starEach [] X.env := by rfl)
    (na2 : starEach [.Call (.Name "range" p2) [e] [] q] X.env = (false, eval (.Call (.Name "range" p2) [e] [] q) X.env) :: starEach [] X.env := by rfl) :
    DE X W (.Call (.Name "tuple" p) [.Call (.Name "range" p2) [e] [] q] [] pos) (xUn tupRgD f) := by
  obtain ⟨ta, pa, qa⟩ := ha.ex
  refine ⟨⟨_, pe_tupRg hc hg hm (prg_1 hg2 hm2 pa na) na2, fun ph am σ H δ Q ans δ' s z k kx => ?_⟩⟩
  rcases bnd_some z with ⟨a, δ1, e1, q1⟩ | ⟨c, fs, e1, q1⟩
  · refine qa ph am σ H δ _ _ _ s e1 (fun d ed am1 x H1 st1 s1 d1 => ?_) (fun c fs z => by cases z)
    cases ed
    obtain ⟨z, e3, rfl, rfl⟩ := lif_some q1
    cases d1 with
    | int n =>
      unfold tupRgD at e3
      simp only at e3
      obtain ⟨hz, rfl⟩ := if_some e3
      refine ⟨n, rfl, ?_, fun q nq => ?_⟩
      · exact RgOk.of_le (by omega) (by omega) (by omega) (by omega)
      · have sm : Same H1 (upd H1 q (.tup (rgV 0 n))) := same_new nq
        have hd : DqAll X.K (hid ph am1 H1) (rgV 0 n) (rangeL 0 n.toNat) := by
          have e1 : rgV 0 n = ((List.range n.toNat).map fun i : Nat => (0 : Int) + (i : Nat)).map V.int := by
            unfold rgV
            rw [Int.sub_zero, List.map_map]
            rfl
          have e2 : rangeL 0 n.toNat = ((List.range n.toNat).map fun i : Nat => (0 : Int) + (i : Nat)).map .int := by
            unfold rangeL
            rw [List.map_map]
            rfl
          rw [e1, e2]
          exact ints_q _
        exact k _ rfl am1 _ _ (st1.trans (Step.of sm)) (s1.same sm) (new_tup (fun b h => s1.hidden h) nq hd)
    | _ => cases e3
  · subst q1
    exact qa ph am σ H δ _ _ _ s e1 (fun d ed => by cases ed) (fun c' fs' z => by cases z; exact kx _ _ rfl)
end PD
end

section
set_option Elab.async false
set_option linter.all false
set_option maxRecDepth 100000
set_option maxHeartbeats 2000000
namespace PD
open PySem PySem.Spec PyProof.Rows L2
variable {X : Cx} {W : WX} {pos : Pos} {e e1 e2 e3 : Expr} {es : List Expr} {f g h : M PyData} {fs gs : M (List PyData)} {fb gb : M Bool}
variable {K : PySem.W.Frag} {ph : Fx} {am am' am1 : Am} {H H' H1 : Hp} {σ σ' : L2.St} {δ δ' δ1 : Sg} {a p p1 p2 : Addr} {v : V} {vs : List V} {d : PyData} {ds : List PyData} {i : Nat}

/-! ### a module's constants -/
theorem de_gint {x : Str} {n : Int} {t : Tok} (hm : X.mg x = some (.int n t)) (hg : Gl X x := by rfl) (hd : (x == ("__debug__" : Str)) = false := by decide) : DE X W (.Name x pos) (ret (.int n)) :=
  ⟨⟨_, pe_glob (v := .int n) hg hm ⟨t, rfl⟩ hd, fun ph am σ H δ Q ans δ' s q k _ => by
    cases q
    exact k _ rfl am (.int n) H Step.refl s (.int n)⟩⟩
/-- a constant tuple of texts at a -/
def GTup (K : PySem.W.Frag) (a : Addr) (ws : List Str) : Prop := ∃ (o : Obj) (its : Array Value) (n : Nat), K.lookup a = some o ∧ o.cls = .type "tuple" ∧ o.data = .seq its n ∧ its.size ≤ sizeLine ∧ Vals (ws.map V.str) its.toList
def flatOf : PyData → Option V
  | .none => some .non
  | .bool b => some (.bl b)
  | .int i => some (.int i)
  | .str s => some (.str s)
  | _ => none
theorem flatOf_eq {x : V} (h : Dq K H v d) (e : flatOf d = some x) : v = x ∧ flatV x = true := by
  cases h <;> cases e <;> exact ⟨rfl, rfl⟩
def inG (ws : List Str) (d : PyData) : Option PyData := (flatOf d).map fun x => .bool (inV x (ws.map V.str))
theorem flat_strs (ws : List Str) : (ws.map V.str).all flatV = true := by
  rw [List.all_eq_true]
  intro v hv
  obtain ⟨w, _, rfl⟩ := List.mem_map.mp hv
  rfl
theorem de_inG {x : Str} {pn : Pos} {a : Addr} {ws : List Str} (hm : X.mg x = some (.ref a)) (hw : GTup X.K a ws) (ha : DE X W e1 f) (hg : Gl X x := by rfl) (hd : (x == ("__debug__" : Str)) = false := by decide) (hmk : behindInMarks .In (.Name x pn) = false := by rfl) : DE X W (.Compare e1 [.In] [.Name x pn] pos) (xUn (inG ws) f) := by
  obtain ⟨ta, pa, qa⟩ := ha.ex
  refine ⟨⟨_, pe_cmpR op_in_seq pa (pe_glob (v := .ref a) hg hm rfl hd) hmk, fun ph am σ H δ Q ans δ' s q k kx => ?_⟩⟩
  rcases bnd_some q with ⟨b, δ1, e1, q1⟩ | ⟨c, fs, e1, q1⟩
  · refine qa ph am σ H δ _ _ _ s e1 (fun d ed am1 x H1 st1 s1 d1 => ?_) (fun c fs z => by cases z)
    cases ed
    obtain ⟨z, e3, rfl, rfl⟩ := lif_some q1
    obtain ⟨y, e4, rfl⟩ := Option.map_eq_some_iff.mp e3
    obtain ⟨rfl, hf⟩ := flatOf_eq d1 e4
    exact ⟨a, ws.map V.str, rfl, .inr (.inr hw), hf, flat_strs ws, k _ rfl am1 _ H1 st1 s1 (.bl _)⟩
  · subst q1
    exact qa ph am σ H δ _ _ _ s e1 (fun d ed => by cases ed) (fun c' fs' z => by cases z; exact kx _ _ rfl)
/-! ### not e as a value, by truth -/
def notTD (d : PyData) : Option PyData := (truthD d).map fun b => .bool (!b)
theorem de_notT (ha : DE X W e f) : DE X W (.UnaryOp .Not e pos) (xUn notTD f) := by
  obtain ⟨ta, pa, qa⟩ := ha.ex
  refine ⟨⟨_, pe_notT pa, fun ph am σ H δ Q ans δ' s q k kx => ?_⟩⟩
  rcases bnd_some q with ⟨a, δ1, e1, q1⟩ | ⟨c, fs, e1, q1⟩
  · refine qa ph am σ H δ _ _ _ s e1 (fun d ed am1 x H1 st1 s1 d1 => ?_) (fun c fs z => by cases z)
    cases ed
    obtain ⟨z, e3, rfl, rfl⟩ := lif_some q1
    obtain ⟨b, e4, rfl⟩ := Option.map_eq_some_iff.mp e3
    exact ⟨b, tru_of d1 e4, k _ rfl am1 _ H1 st1 s1 (.bl _)⟩
  · subst q1
    exact qa ph am σ H δ _ _ _ s e1 (fun d ed => by cases ed) (fun c' fs' z => by cases z; exact kx _ _ rfl)

/-! ### isinstance(x, T), x a list of one's own -/
def xIsiO (Tn : String) (i : Nat) : M PyData := fun δ => match δ[i]? with
  | some (.ow _ _) => some (.ok (.bool (isSub "list" Tn)), δ)
  | _ => none
theorem de_isiO {i : Nat} {x T : Str} {pn pT pf : Pos} (Tn : String) (hT : Tn ∈ ["int", "bool", "str", "list", "tuple"]) (hm : X.mg "isinstance" = none) (hmT : X.mg T = none) (hvT : bootBuiltins T = some (.type Tn)) (hN : X.N[i]? = some x := by rfl) (hv : Vis X.env.scope x := by first | exact Or.inl rfl | exact Or.inr (Or.inl rfl) | exact Or.inr (Or.inr rfl)) (hd : (x == ("__debug__" : Str)) = false := by decide) (hcd : (x == ("__classdict__" : Str)) = false := by decide)
    (hg : Gl X "isinstance" := by rfl) (hgT : Gl X T := by rfl) (hn : T ≠ "__name__" := by decide) (hdT : (T == ("__debug__" : Str)) = false := by decide)
    (hs1 : starEach [.Name T pT] X.env = (false, eval (.Name T pT) X.env) :: starEach [] X.env := by rfl)
    (hs : starEach [.Name x pn, .Name T pT] X.env = (false, eval (.Name x pn) X.env) :: starEach [.Name T pT] X.env := by rfl) (hpl : (backTo pos (starEach [.Name T pT] X.env)).any (·.1) = false := by rfl) :
    DE X W (.Call (.Name "isinstance" pf) [.Name x pn, .Name T pT] [] pos) (xIsiO Tn i) := by
  refine ⟨⟨_, pe_callB call_isi hg hm boot_isinstance (pa_cons (pe_var hN hv hd hcd) (pa_cons (pe_bltn (v := .ty Tn) hgT hmT hvT rfl hn hdT) pa_nil hs1) hs) (by decide) (by decide) hs hpl, fun ph am σ H δ Q ans δ' sr z k kx => ?_⟩⟩
  unfold xIsiO at z
  split at z
  · rename_i b0 ds0 e3
    cases z
    obtain ⟨a0, vs0, o1, o2, o3, o4, _, _⟩ := sr.ow i b0 ds0 e3
    have dq : Dq X.K H (.ref a0) (.list ds0) := .lst (.inl (.inl o3)) (dps_mono hid_sub o4)
    refine ⟨.ref a0, o2, .ref a0, .ty Tn, .type "list", .type Tn, isSub "list" Tn, rfl, .ty Tn, ?_, kit_ty (kit_tab _ (tyOf_mem (.list ds0)) _ hT), k _ rfl am _ H Step.refl sr (.bl _)⟩
    exact tyx_of (ph := ⟨fun _ => False, fun _ => none⟩) (am := fun _ => none) (dp_mono (fun b o h => hid_some.mpr (And.intro (fun z => z.elim (fun z => z) (fun ⟨_, z⟩ => by cases z)) h)) dq)
  · cases z
/-! ### a call with keywords alone of a def that hands back a new list -/
def xDefKF (G : Sg → Option (Ans (List PyData) × Sg)) (perm : List Nat) (fs : M (List PyData)) : M (List PyData) := bnd fs fun ds => if ds.length = perm.length then xDefF G (ret (pick perm ds)) else lif none
theorem df_callK0 {n k : Nat} {x : Str} {pf : Pos} {fa : Addr} {fd : FuncData} {ps : List Str} {kws : List Keyword} {ks : List Str} {perm : List Nat} {G : Sg → Option (Ans (List PyData) × Sg)} (F : FnOk X.prog X.w X.K X.mg X.base (L2.CX X.prog X.w) k fa fd ps (spF X.K X.mg n G)) (hr : Room k X.A) (hm : X.mg x = some (.ref fa)) (hk : PySem.W.keepIn X.K (.ref fa) = true)
    (hb : ∀ ws : List Value, ws.length = perm.length → bindArgs fd ⟨[], ks.zip ws⟩ = pure (ps.zip (pick perm ws))) (hx : ∀ σ, PassesAt (L2.CX X.prog X.w) X σ (WE W σ)) (hkw : DK X W kws fs) (hn : ∀ ds : List PyData, ds.length = perm.length → (pick perm ds).length = n)
    (hg : Gl X x := by rfl) (hall : (backToKw pos (keywordEach kws X.env)).all (·.1.isSome) = true := by rfl) (hks : (backToKw pos (keywordEach kws X.env)).filterMap (·.1) = ks := by rfl)
    (hdb : (x == ("__debug__" : Str)) = false := by decide) (hpl : ((backTo pos (starEach [] X.env)).any (·.1) || (backToKw pos (keywordEach kws X.env)).any (·.1.isNone)) = false := by rfl) : DF X W (.Call (.Name x pf) [] kws pos) (xDefKF G perm fs) := by
  obtain ⟨t, p, q⟩ := hkw.ex
  refine ⟨⟨_, pe_callK0 F hr hg hm hk hb hx p hall hks hdb hpl, fun ph am σ H δ Q ans δ' s z k kx => ?_⟩⟩
  rcases bnd_some z with ⟨ds, δ1, e1, e2⟩ | ⟨c, fs, e1, e2⟩
  · refine q ph am σ H δ _ _ _ s e1 (fun d' ed am1 vs H1 st1 s1 dv => ?_) (fun c fs z => by cases z)
    cases ed
    split at e2
    · rename_i hl
      refine ⟨by rw [dv.length]; exact hl, ?_⟩
      have s2 := s1.under (dqs_pick (perm := perm) dv)
      rcases bnd_some e2 with ⟨ds2, δ2, e3, e4⟩ | ⟨c, fs, e3, e4⟩
      · cases e3
        refine ⟨by rw [(dqs_pick (perm := perm) dv).length]; exact hn ds hl, ph.under am1, (pick perm ds).map .fz, ?_⟩
        split at e4
        · rename_i d cells e5
          cases e4
          refine ⟨_, _, s2, e5, fun d ed p us H' n0 n1 st' _ dv' hz => ?_, fun c fs z => by cases z⟩
          cases ed
          have sm : Same H1 H' := fun b o h => st'.keep b o h fun i z => by cases z
          rw [show (ph.under am1).ba = fun _ => none from rfl, hid_under] at dv'
          exact k _ rfl am1 p us H' (st1.none n0) n1 (st1.trans (Step.of sm)) (s1.same sm) dv' hz
        · rename_i c es cells e5
          cases e4
          refine ⟨_, _, s2, e5, fun d ed => (by cases ed), fun c fs z => ?_⟩
          cases z
          exact XP.of_under s1 ((kx _ _ rfl).step st1)
        · cases e4
      · cases e3
    · exact (lif_none e2).elim
  · subst e2
    exact q ph am σ H δ _ _ _ s e1 (fun d ed => by cases ed) (fun c' fs' z => by cases z; exact kx _ _ rfl)
theorem fn_noneK {P : Program} {w : World} {mg : Str → Option Value} {base : Heap} {k : Nat} {fa : Addr} {fd : FuncData} {ps : List Str} {G : Sg → Option (Ans PyData × Sg)} (hG : ∀ c, G c = none) : FnOk P w K mg base (L2.CX P w) k fa fd ps (spD K mg ps.length G) :=
  ⟨fun vs H Q E h => h.1, fun A outer s H args us vs Q E _ _ _ _ h => by
    obtain ⟨_, ph, cells, ans, cells', _, q, _⟩ := h
    rw [hG] at q
    cases q⟩
theorem fn_noneF {P : Program} {w : World} {mg : Str → Option Value} {base : Heap} {k : Nat} {fa : Addr} {fd : FuncData} {ps : List Str} {G : Sg → Option (Ans (List PyData) × Sg)} (hG : ∀ c, G c = none) : FnOk P w K mg base (L2.CX P w) k fa fd ps (spF K mg ps.length G) :=
  ⟨fun vs H Q E h => h.1, fun A outer s H args us vs Q E _ _ _ _ h => by
    obtain ⟨_, ph, cells, ans, cells', _, q, _⟩ := h
    rw [hG] at q
    cases q⟩
end PD
end

section
set_option Elab.async false
set_option linter.all false
set_option maxRecDepth 100000
set_option maxHeartbeats 2000000
namespace PD
open PySem PySem.Spec PyProof.Rows L2
variable {X : Cx} {W : WX} {pos : Pos} {e e1 e2 e3 : Expr} {es : List Expr} {f g h : M PyData} {fs gs : M (List PyData)} {fb gb : M Bool}
variable {K : PySem.W.Frag} {ph : Fx} {am am' am1 : Am} {H H' H1 : Hp} {σ σ' : L2.St} {δ δ' δ1 : Sg} {a p p1 p2 : Addr} {v : V} {vs : List V} {d : PyData} {ds : List PyData} {i : Nat}

/-! ### classes of one's own below LookupError, whose __init__ keeps what it is given -/
abbrev bmLE : List Value := [.type "LookupError", .type "Exception", .type "BaseException", .type "object"]
structure OexL (K : PySem.W.Frag) (C : Addr) : Prop where
  q : PySem.W.excInitIn K C bmLE "LookupError.__new__" = true
  ov : PySem.W.excOver K C bmLE = true
  dict : PySem.W.hasDictIn K C = true
  sa : PySem.W.findIn K (.ref C) "__setattr__" = some (some (.builtin "object.__setattr__"))
  exC : PySem.W.subIn K (.ref C) (.type "BaseException") = some true
  tyC : PySem.W.typeIn K (.ref C) = some (.type "type")
  kC : PySem.W.keepIn K (.ref C) = true
section
open PySem.W PySem.Calls PySem.HandSPX Builtin Builtin.ObjectAttr
variable {prog : Program} {w : World} {A : Around} {E : Value → Shared → Prop} {R : Result → Shared → Prop} {hp : Heap} {g : Array GenState} {d : Drawn} {t : Nat} {os : OsState}
theorem leExc_osa {K : Frag} {name : Str} {tk : Tok} {v : Value} {x C : Addr} {fv : Array Value}
    (T : OexL K C) (X : K.In hp) (hx : hp.get? x = some { cls := .ref C, data := .fields fv }) (ha : takerIn K C name = some none)
    (hq : ∀ h' tk' dx, (∀ b o, b ≠ x → hp.get? b = some o → h'.get? b = some o) → hp.objs.size ≤ dx → dx ≠ x → h'.get? x = some { cls := .ref C, dict := some dx, data := .fields fv } →
      h'.Ns1 dx (fun y => if y = name then some v else none) → R (.ok (.ret .none)) ⟨h', g, d, tk', os⟩) :
    codeAny (model prog w) A (.call (.builtin "object.__setattr__") ⟨[.ref x, .str name tk, v], []⟩) R ⟨hp, g, d, t, os⟩ := by
  have I : InstAt hp x { cls := .ref C, data := .fields fv } C none := ⟨hx, rfl, rfl, trivial⟩
  have hxs : x ≠ hp.objs.size := Nat.ne_of_lt (Heap.lt_size hx)
  refine osa_openX (s := ⟨hp, g, d, t, os⟩) PySem.F.store_LookupError X I T.ov ha fun b => ?_
  obtain ⟨cd, hcd, hh⟩ : ∃ cd, clsIn K C = some cd ∧ cd.hasDict = true := by
    have := T.dict
    unfold hasDictIn at this
    cases e : clsIn K C with
    | none => rw [e] at this; cases this
    | some cd => rw [e] at this; exact ⟨cd, rfl, this⟩
  have hcls : Looks (model prog w) hp (classData C) cd := looks_clsIn X hcd
  obtain ⟨nm, bs, mro, ns, qn, hd, sn, sb, ab, col, del⟩ := cd
  dsimp only at hh
  subst hh
  unfold storeInOwnDict ownDictForStores
  repeat (first | with_reducible refine store_in_new ?_ ?_ | with_reducible refine wpAny_loadPart_at hx ?_ | with_reducible refine hcls.at ?_ | wp_step)
  · exact ⟨_, #[], _, (Heap.get?_update_ne _ _ _ _ hxs.symm).trans (Heap.get?_push_at rfl rfl), rfl, fun e he => absurd he (by simp), fun _ => rfl⟩
  · intro h' tk' hn' hs
    have hx₁ : (hp.push { cls := .type "dict", data := .dict #[] }).get? x = some { cls := .ref C, data := .fields fv } := Heap.get?_push_of_some _ hx
    refine hq h' tk' hp.objs.size (fun b o hb ho => ?_) (Nat.le_refl _) hxs.symm ?_ hn'
    · exact (hs.2 b (Nat.ne_of_lt (Heap.lt_size ho))).trans ((Heap.get?_update_ne _ _ _ _ hb).trans (Heap.get?_push_of_some _ ho))
    · exact (hs.2 x hxs).trans (Heap.get?_update_self _ hx₁ rfl)
end
/-- self.f = y -/
theorem leOst {pins : List (Addr × Obj)} {s : Shared} {C : Addr} {fld : Str} {y : V} {u : Value} {Q : Unit → Shared → Prop} {E : Value → Shared → Prop} {A : Around} (T : OexL X.K C) (I : Inv X pins σ H s) (e : H a = some (exo a C none)) (hno : PySem.W.findIn X.K (.ref C) fld = some none) (ry : RelV y u)
    (h : ∀ dx s', H dx = none → dx ≠ a → Inv X pins σ (upd (upd H dx (exd dx [(fld, y)])) a (exo a C (some dx))) s' → Q () s') : wpAny (model X.prog X.w) A (setAttr (.ref a) fld u) Q E s := by
  obtain ⟨t1, ho⟩ := exo_at I.hok e
  obtain ⟨hp, g, d, t, os⟩ := s
  refine PySem.W.set_plain I.kIn (ox := { cls := .ref C, dict := none, data := .fields #[.ref t1, .none, .none, .none, .bool false, .none] }) (od := none) ⟨ho, rfl, rfl, trivial⟩ T.sa ?_
  refine leExc_osa T I.kIn ho (by unfold PySem.W.takerIn; rw [hno]; rfl) (fun h' tk' dx k dn dne hx hn => ?_)
  have hnd : H dx = none := I.hok.fresh dn
  have nd : ∀ {b : Addr} {o : Obj}, hp.get? b = some o → b ≠ dx := fun {b o} q => Nat.ne_of_lt (Nat.lt_of_lt_of_le (Heap.lt_size q) dn)
  have na : ∀ {b : Addr}, H b = none → b ≠ a := fun {b} n z => by
    rw [z, e] at n
    cases n
  have Un1 : Un X.fs [] H (upd (upd H dx (exd dx [(fld, y)])) a (exo a C (some dx))) hp h' := {
    keep := fun b o q n _ _ => k b o (na n) q
    slot := fun b o q n _ _ => ⟨o.slots, k b o (na n) q⟩
    free := fun b o q n _ => by rw [upd_ne (na n), upd_ne (nd q)]; exact n
    there := fun b o q _ => by
      by_cases hb : b = a
      · exact ⟨_, by rw [hb]; exact hx⟩
      · exact ⟨o, k b o hb q⟩
    tups := fun b xs q => by rw [upd_ne (at_ne e q exo_tup), upd_ne (ne_of_none q hnd)]; exact q
    frzs := fun b o v q => by rw [upd_ne (at_ne e q exo_frz), upd_ne (ne_of_none q hnd)]; exact q
    tbls := fun b ps q => ⟨#[], by rw [upd_ne (at_ne e q exo_tbl), upd_ne (ne_of_none q hnd), q]; simp⟩ }
  refine h dx _ hnd dne (I.un (t' := tk') Un1 fun b o q => ?_)
  by_cases hb : b = a
  · subst hb
    rw [upd_same] at q
    cases q
    exact exo_ok hx
  · rw [upd_ne hb] at q
    by_cases hd : b = dx
    · subst hd
      rw [upd_same] at q
      cases q
      exact exd_ok hn (relO_put (fs := []) ry fun g => True.intro)
    · rw [upd_ne hd] at q
      exact (I.hok b o q).stay (fun c v hc z => k c v (by
          rcases hc with hc | hc
          · rw [hc]
            exact hb
          · exact at_ne e hc exo_own) z)
        (fun c hc => by rw [upd_ne (at_ne e hc exo_own), upd_ne (ne_of_none hc hnd)]; exact hc) (fun c xs hc => by rw [upd_ne (at_ne e hc exo_tup), upd_ne (ne_of_none hc hnd)]; exact hc)
def tLeOst (K : PySem.W.Frag) (C : Addr) (fld : Str) (to te : TE) : TS := fun D σ H => te σ H fun y H1 => to σ H1 fun x H2 => ∃ a : Addr, x = .ref a ∧ H2 a = some (exo a C none) ∧ ∀ dx, H2 dx = none → dx ≠ a → D.nx σ (upd (upd H2 dx (exd dx [(fld, y)])) a (exo a C (some dx)))
theorem ps_leOst {o e : Expr} {to te : TE} {C : Addr} {fld : Str} {p' : Pos} (T : OexL X.K C) (hno : PySem.W.findIn X.K (.ref C) fld = some none) (ho : PE X o to) (he : PE X e te) (hs : swapsWith e (some (.Attribute o fld p')) pos.line X.env = pure false := by rfl) : PS X (.Assign [.Attribute o fld p'] e pos) (tLeOst X.K C fld to te) := by
  refine ⟨fun pins s σ H D I h => ?_⟩
  refine plainObj_wpAny_Assign_Attribute (thn (he.run pins s σ H _ I h) fun v s1 ⟨y, H1, I1, r1, q1⟩ => thn (ho.run pins s1 σ H1 _ I1 q1) fun u s2 ⟨x, H2, I2, r2, a, ex, ea, q⟩ => ?_) hs
  subst ex
  obtain rfl : u = Value.ref a := r2
  exact leOst T I2 ea hno r1 fun dx s' n ne J => ⟨σ, _, J, q dx n ne⟩
/-- what __init__(self, x): self.f = x keeps -/
def spLe (C : Addr) (fld : Str) : Sp := fun vs H Q E => ∃ (a : Addr) (y : V), vs = [.ref a, y] ∧ H a = some (exo a C none) ∧ ∀ dx, H dx = none → dx ≠ a → Q .non (upd (upd H dx (exd dx [(fld, y)])) a (exo a C (some dx)))
theorem fn_le {P : Program} {w : World} {mg : Str → Option Value} {base : Heap} {k : Nat} {C fI : Addr} {fd : FuncData} {N : List Str} {x qual sn vn fld : Str} {st : Stmt} {p1 p2 p3 p4 : Pos} (T : OexL K C) (hno : PySem.W.findIn K (.ref C) fld = some none) (F : Fun K x qual st fI fd) (S : FnScope N [sn, vn] (defScope st)) (hN : N = [sn, vn])
    (hb : defBody st = [.Assign [.Attribute (.Name sn p1) fld p2] (.Name vn p3) p4])
    (hv1 : Vis (defScope st) sn) (hv2 : Vis (defScope st) vn) (hd1 : (sn == ("__debug__" : Str)) = false) (hd2 : (vn == ("__debug__" : Str)) = false) (hc1 : (sn == ("__classdict__" : Str)) = false) (hc2 : (vn == ("__classdict__" : Str)) = false)
    (hs : ∀ env : PySem.Env, swapsWith (.Name vn p3) (some (.Attribute (.Name sn p1) fld p2)) p4.line env = pure false) :
    FnOk P w K mg base (L2.CX P w) (k + 1) fI fd [sn, vn] (spLe C fld) := by
  subst hN
  refine F.okX S (fun vs H Q E h => by obtain ⟨_, _, rfl, _⟩ := h; rfl) (fun cdv A outer s H vs Q E hr h => ?_)
  obtain ⟨a, y, rfl, ha, q⟩ := h
  rw [hb]
  refine ⟨_, pss_one (ps_leOst T hno (pe_var (i := 0) rfl hv1 hd1 hc1) (pe_var (i := 1) rfl hv2 hd2 hc2) (hs _)), ?_⟩
  exact ⟨y, rfl, .ref a, rfl, a, rfl, ha, fun dx n ne => q dx n ne⟩
def tMkLe (C : Addr) (fld : Str) (ta : TE) : L2.St → Hp → XK → Prop := fun σ H Q => ta σ H fun y H1 => ∀ d, H1 d = none → Q (.ref C) (some d) (upd H1 d (.xd [(fld, y)]))
theorem pmk_le {x : Str} {C fI : Addr} {k : Nat} {fd : FuncData} {ps : List Str} {fld : Str} {ta : TE} {p : Pos} (T : OexL X.K C) (iC : PySem.W.findIn X.K (.ref C) "__init__" = some (some (.ref fI))) (tI : PySem.W.typeIn X.K (.ref fI) = some (.type "function"))
    (F1 : FnOk X.prog X.w X.K X.mg X.base (L2.CX X.prog X.w) k fI fd ps (spLe C fld)) (hr : Room (k + 1) X.A) (hb : Binds X.K fd ps []) (hx : Passes (L2.CX X.prog X.w) X (fun _ _ _ => False)) (hg : Gl X x) (hm : X.mg x = some (.ref C)) (ha : PE X e ta)
    (hdb : (x == ("__debug__" : Str)) = false := by decide) (he : starEach [e] X.env = (false, eval e X.env) :: starEach [] X.env := by rfl) (hpl : (backTo pos (starEach [] X.env)).any (·.1) = false := by rfl) :
    PMk X (.Call (.Name x p) [e] [] pos) (tMkLe C fld ta) := by
  intro pins s σ H Q I h
  refine wpAny_Call_Name_kw (ld_glob I hg hm ?_ hdb)
  refine PySem.W.callWith_K (h₀ := X.base) I.ok.mod.kin T.kC (thn ((pa_cons ha pa_nil he).run pos pins s σ H (fun vs H1 => match vs with | [y] => ∀ d, H1 d = none → Q (.ref C) (some d) (upd H1 d (.xd [(fld, y)])) | _ => False) I h) fun us s1 ⟨vs, H1, I1, r1, q1⟩ => ⟨I1.kIn, ?_⟩) he hpl
  show wpAny _ _ (call (.ref C) us) _ _ _
  obtain ⟨hp, g, dr, tk, os⟩ := s1
  obtain ⟨nm, N, qn, bs, bm, hdct, sn, sub, ab, col, dd, k0, k1, k2, k3, k5, hC, hT⟩ := PySem.W.excInit_of I1.kIn T.q
  match vs, r1, q1 with
  | [y], r1, q1 =>
  have hsz : hp.objs.size ≤ hp.objs.size + 1 := Nat.le_succ _
  have hn : H1 (hp.objs.size + 1) = none := I1.hok.fresh hsz
  have kk : ∀ b o, hp.get? b = some o → ((hp.push (PySem.W.kdv_tup us)).push (PySem.HandSPX.excO C hp.objs.size)).get? b = some o := fun b o e => Heap.get?_push_of_some _ (Heap.get?_push_of_some _ e)
  have hget : ((hp.push (PySem.W.kdv_tup us)).push (PySem.HandSPX.excO C hp.objs.size)).get? (hp.objs.size + 1) = some (PySem.HandSPX.excO C hp.objs.size) := by heap_get
  have I2 : Inv X pins σ (upd H1 (hp.objs.size + 1) (exo (hp.objs.size + 1) C none)) ⟨(hp.push (PySem.W.kdv_tup us)).push (PySem.HandSPX.excO C hp.objs.size), g, dr, tk, os⟩ :=
    I1.laid (t' := tk) (a := hp.objs.size + 1) (o := exo (hp.objs.size + 1) C none) (h' := (hp.push (PySem.W.kdv_tup us)).push (PySem.HandSPX.excO C hp.objs.size)) kk hsz (exo_ok hget)
  have r2 : Vals [V.ref (hp.objs.size + 1), y] (Value.ref (hp.objs.size + 1) :: us) := .cons rfl r1
  have hq : spLe C fld [V.ref (hp.objs.size + 1), y] (upd H1 (hp.objs.size + 1) (exo (hp.objs.size + 1) C none)) (fun v H2 => v = .non ∧ ∃ (d : Addr) (fs : List (Str × V)), H2 (hp.objs.size + 1) = some (exo (hp.objs.size + 1) C (some d)) ∧ H2 d = some (exd d fs) ∧ H1 d = none ∧ Q (.ref C) (some d) (upd (L2.del H2 (hp.objs.size + 1)) d (.xd fs))) (fun _ _ _ => False) := by
    refine ⟨_, y, rfl, upd_same, fun dx n ne => ⟨rfl, dx, [(fld, y)], upd_same, ?_, ?_, ?_⟩⟩
    · rw [upd_ne ne]; exact upd_same
    · rw [upd_ne ne] at n; exact n
    · have n1 : H1 dx = none := by rw [upd_ne ne] at n; exact n
      have eH : upd (L2.del (upd (upd (upd H1 (hp.objs.size + 1) (exo (hp.objs.size + 1) C none)) dx (exd dx [(fld, y)])) (hp.objs.size + 1) (exo (hp.objs.size + 1) C (some dx))) (hp.objs.size + 1)) dx (.xd [(fld, y)]) = upd H1 dx (.xd [(fld, y)]) := by
        funext b
        by_cases hb : b = dx
        · rw [hb, upd_same, upd_same]
        · rw [upd_ne hb, upd_ne hb]
          by_cases hb2 : b = hp.objs.size + 1
          · rw [hb2, L2.del_same, hn]
          · rw [L2.del_ne hb2, upd_ne hb2, upd_ne hb, upd_ne hb2]
      rw [eH]
      exact q1 dx n1
  have hl : (Value.ref (hp.objs.size + 1) :: us).length = ps.length := by
    have e := r2.length
    rw [F1.len _ _ _ _ hq] at e
    exact e.symm
  have hus : us.length ≤ sizeLine := by
    rw [← Paired.length r1, sizeLine_eq]
    simp
  refine wpAny_call (PySem.HandSPX.call_own PySem.F.excBase_LookupError hT hC (PySem.W.looks_findIn I1.kIn iC) (fun self => PySem.W.bind_fn I1.kIn self tI) hus
    (codeAny_mono (F1.run _ X.stack _ _ ⟨Value.ref (hp.objs.size + 1) :: us, []⟩ (Value.ref (hp.objs.size + 1) :: us) _ _ (fun _ _ _ => False) (hr.make C us []) (I2.env0.make C us []) (by have := hb _ (Value.ref (hp.objs.size + 1) :: us) I2.kIn (by simpa using hl); simpa using this) r2 hq) fun r s' hq' => ?_))
  cases r with
  | error er => exact hx pins σ _ _ er s' I2 hq'
  | ok fl =>
    cases fl with
    | ret u =>
      obtain ⟨v, H2, os2, bare2, un2, hok2, rv, ev, d, fs, ea, ed, hd1, q2⟩ := hq'
      subst ev
      obtain ⟨h2, g2, d2, t2, os'⟩ := s'
      exact ⟨rv, mk_end (raises_own T.exC T.tyC) I1 hsz kk un2 hok2 os2 bare2 ea ed hd1 q2⟩
    | next => exact False.elim hq'
    | brk => exact False.elim hq'
    | cont => exact False.elim hq'
/-! ### raise C(e) -/
theorem passes0 : Passes (L2.CX X.prog X.w) X (fun _ _ _ => False) := fun pins σ H s e s' I h => pass0 σ pins H s e s' I h
def sRaiseA (c fld : Str) (f : M PyData) : MS := bnd f fun d => fun δ => some (.ex c [(fld, d)], δ)
/-- all that is known of such a class -/
structure ExcA (P : Program) (w : World) (K : PySem.W.Frag) (mg : Str → Option Value) (base : Heap) (x : Str) (C fI : Addr) (fd : FuncData) (ps : List Str) (fld : Str) : Prop where
  T : OexL K C
  g : mg x = some (.ref C)
  i : PySem.W.findIn K (.ref C) "__init__" = some (some (.ref fI))
  t : PySem.W.typeIn K (.ref fI) = some (.type "function")
  F : FnOk P w K mg base (L2.CX P w) 1 fI fd ps (spLe C fld)
  b : Binds K fd ps []
theorem ds_raiseA {x fld : Str} {C fI : Addr} {fd : FuncData} {ps : List Str} {p rp : Pos} (T : ExcA X.prog X.w X.K X.mg X.base x C fI fd ps fld) (hr : Room 2 X.A) (hc : X.calm = true) (tk : Takes X W) (ha : DE X W e f) (hg : Gl X x := by rfl) (hdb : (x == ("__debug__" : Str)) = false := by decide) (he : starEach [e] X.env = (false, eval e X.env) :: starEach [] X.env := by rfl) (hpl : (backTo pos (starEach [] X.env)).any (·.1) = false := by rfl) :
    DS X W (.Raise (some (.Call (.Name x p) [e] [] pos)) none rp) (sRaiseA x fld f) := by
  obtain ⟨ta, pa, qa⟩ := ha.ex
  refine ⟨⟨_, ps_raise hc tk (pmk_le T.T T.i T.t T.F hr T.b passes0 hg T.g pa hdb he hpl), fun ph am σ H δ D ans δ' s q _ kx => ?_⟩⟩
  rcases bnd_some q with ⟨b, δ1, e1, q1⟩ | ⟨c, fs, e1, q1⟩
  · refine qa ph am σ H δ _ _ _ s e1 (fun d ed am1 y H1 st1 s1 d1 => ?_) (fun c fs z => by cases z)
    cases ed
    cases q1
    intro dx nx
    have sm : Same H1 (upd H1 dx (.xd [(fld, y)])) := same_new nx
    exact kx _ _ rfl C (some dx) am1 σ _ T.g (st1.trans (Step.of sm)) (s1.same sm) (.inr ⟨dx, [(fld, y)], rfl, by simp, upd_same, rfl, .cons (dp_mono (hid_same sm) d1) .nil⟩)
  · subst q1
    exact qa ph am σ H δ _ _ _ s e1 (fun d ed => by cases ed) (fun c' fs' z => by cases z; exact (kx _ _ rfl).at)
end PD
end

section
set_option Elab.async false
set_option linter.all false
set_option maxRecDepth 100000
set_option maxHeartbeats 2000000
/-! several except clauses, each 'except x as n' with one name n -/
namespace PD
open PySem PySem.Spec PyProof.Rows L2
/-- what the clauses wish of an exception of the body, one after the other; slot i is n's -/
def wManyAs (K : PySem.W.Frag) (i : Nat) (Wout : WX) (D : Ends) : List (Value × (Addr → Value → Option Addr → TS)) → WX
  | [] => Wout
  | (c, ts) :: r => fun cls d σ H => ∃ b, PySem.W.exmOne K cls c = some b ∧
      (b = true → ∀ a, H a = none → ts a cls d { nx := fun σ' H' => D.nx (σ'.set i none) H', rt := D.rt, bk := fun σ' H' => D.bk (σ'.set i none) H', ct := fun σ' H' => D.ct (σ'.set i none) H' } (σ.set i (some (.ref a))) H) ∧
      (b = false → wManyAs K i Wout D r cls d σ H)
inductive HdsAs (X : Cx) (n : Str) : List ExceptHandler → List (Value × (Addr → Value → Option Addr → TS)) → Prop
  | nil : HdsAs X n [] []
  | cons {x : Str} {c : Value} {ts : Addr → Value → Option Addr → TS} {b₀ : Stmt} {suite : List Stmt} {np pos' : Pos} {hds : List ExceptHandler} {l : List (Value × (Addr → Value → Option Addr → TS))} (hc : Names X x c)
      (hsu : ∀ (a : Addr) (oe : Obj) (cls : Value) (d : Option Addr) (pn : List (Addr × Obj)), Zc cls d oe → (∃ vs, oe.data = .fields vs) → PSs (X.suite a ((a, oe) :: pn)) (b₀ :: suite) (ts a cls d)) (r : HdsAs X n hds l) :
      HdsAs X n (.ExceptHandler (some (.Name x np)) (some n) (b₀ :: suite) pos' :: hds) ((c, ts) :: l)
section
variable {X : Cx} {n : Str} {i : Nat} {body : List Stmt} {h₀ : ExceptHandler} {hds : List ExceptHandler} {l : List (Value × (Addr → Value → Option Addr → TS))} {pos : Pos} {tb : WX → TS} {Wout : WX}
theorem ps_try_manyAs (hs : X.stack = X.env :: X.outer) (hf : X.env.frame = some X.env.locals) (hN : X.N.Nodup) (hi : X.N[i]? = some n) (hln : X.env.kindOf n = some .local) (tk : Takes X Wout)
    (hb : ∀ (W : WX) (pn : List (Addr × Obj)) (xe : Value → Shared → Prop), Takes (X.tr pn xe) W → PassesOwn (model X.prog X.w) X.A X.env xe → PSs (X.tr pn xe) body (tb W))
    (hh : HdsAs X n (h₀ :: hds) l) : PS X (.Try body (h₀ :: hds) [] [] pos) (fun D σ H => tb (wManyAs X.K i Wout D l) D σ H) := by
  refine ⟨fun pins s σ H D I h => ?_⟩
  have ok := I.ok
  have hfr : X.A.frames = some (X.env :: X.outer) := by rw [ok.frames, hs]
  have hloc : Loc X.env.scope n := .inl hln
  refine wpAny_Try_except ?_
  refine wpAny_mono ((hb (wManyAs X.K i Wout D l) (X.pn ++ pins) (fun e s₁ => wpAny (model X.prog X.w) X.A (noteFrame e X.env) (fun _ s₂ => wpAny (model X.prog X.w) X.A (setFlight e none) (fun _ s₃ =>
    wpAny (model X.prog X.w) X.A (handleBy e X.env (h₀ :: hds)) (SP X pins D) X.xe s₃) X.xe s₂) X.xe s₁) (fun u s' xx => ?_) PassesOwn.looking).run [] s σ H D (I.toTry _) h) (fun f s1 hsp => ?_) (fun e s1 he => he)
  · obtain ⟨a, B, sI, pins', σ', H', cls, d, rfl, J', nb, up, sky, na, os, ag, w⟩ := xx
    have J : Inv X pins σ' H' sI := J'.ofTry ok
    have sky' : Sky B (X.env :: X.outer) a (Zc cls d) X.env.locals s'.heap := by rw [← hs]; exact sky
    show wpAny (model X.prog X.w) X.A (noteFrame (.ref a) X.env) _ _ _
    refine Sky.land Zc.steady hfr hf sky' fun h3 fl3 up3 => ?_
    have J3 : Inv X pins σ' H' { s' with heap := h3 } := J.landed nb fl3.1 (up.trans up3) os ag
    obtain ⟨oe3, vs3, he3, hz3, hd3⟩ := fl3.there
    have notFr : ∀ {h : Heap} {o : Obj} {vs : Array Value}, h.FunFrames B (X.env :: X.outer) → h.get? a = some o → o.data = .fields vs → a ∉ frs (X.env :: X.outer) := fun {h o vs} ff e dd hm => by
      obtain ⟨_, o', e', hnf⟩ := ff.mem hm
      rw [e] at e'; cases e'
      exact hnf _ dd
    have nfr := notFr fl3.2.2.1 he3 hd3
    have nL : a ≠ X.env.locals := fun z => nfr (List.mem_filterMap.mpr ⟨X.env, List.mem_cons_self, by rw [hf, z]⟩)
    have nF : a ∉ X.fs := fun hm => by
      obtain ⟨e, he, q⟩ := List.mem_filterMap.mp hm
      exact nfr (List.mem_filterMap.mpr ⟨e, List.mem_cons_of_mem _ he, q⟩)
    have S3 := J3.suite he3 hd3 na nL nF
    have go : ∀ {hds' : List ExceptHandler} {l' : List (Value × (Addr → Value → Option Addr → TS))}, HdsAs X n hds' l' → wManyAs X.K i Wout D l' cls d σ' H' →
        wpAny (model X.prog X.w) X.A (handleBy (.ref a) X.env hds') (SP X pins D) X.xe { s' with heap := h3 } := by
      intro hds' l' hk
      induction hk with
      | nil =>
        intro w
        refine wpAny_handleBy_nil ?_
        obtain ⟨k1, k2, k3, oe, vs, T, oT, ts', he, hz, hd, h1, hr⟩ := id fl3
        unfold PySem.passOn
        refine wpAny_bind (wpAny_field he hd h1 ?_)
        rw [if_neg (show ¬ ((Value.ref T == Value.none) = true) from by simp)]
        have fin : wpAny (model X.prog X.w) X.A (setFlight (.ref a) X.env.frame) (fun _ s4 => wpAny (model X.prog X.w) X.A (throw (.ref a) : Sem Flow) (SP X pins D) X.xe s4) X.xe { s' with heap := h3 } := by
          rw [hf]
          refine HandSPX.setFlight_upZ fl3 fun h4 hh4 up4 => wpAny_throw (tk _ _ ?_)
          exact ⟨a, B, sI, pins, σ', H', cls, d, rfl, J, nb, (up.trans up3).trans up4, .inr (.inr (by rw [hs]; exact hh4)), na, os, ag, w⟩
        first
          | exact wpAny_bind (wpAny_pure (wpAny_bind fin))
          | exact wpAny_bind fin
      | @cons x c ts b₀ suite np pos' hds2 l2 hc hsu r ih =>
        intro w
        obtain ⟨b, hb1, hyes, hno⟩ := w
        refine wpAny_handleBy_cons (codeAny_handlers_test ?_) (by intro q; cases q)
        have LT : PySem.W.Looks (model X.prog X.w) h3 (typeOf (.ref a)) cls := fun A Q E s k q => wpAny_typeOf_ref (k _ _ he3) (by rw [hz3.1]; exact q)
        have LM := PySem.W.exm_one (M := model X.prog X.w) (J3.kIn) LT hb1
        have test : ∀ {Q : Value → Shared → Prop} {E : Value → Shared → Prop}, Q c { s' with heap := h3 } → wpAny (model X.prog X.w) (X.A.mark (some (.ref a))) (eval (.Name x np) X.env) Q E { s' with heap := h3 } := fun {Q E} q => by
          obtain ⟨hg, hdbg, hm | ⟨hm, hv, hnn⟩⟩ := hc
          · exact ld_glob (X := X.suite a ((a, oe3) :: (X.pn ++ pins))) S3 hg hm q hdbg
          · exact ld_blt (X := X.suite a ((a, oe3) :: (X.pn ++ pins))) S3 hg hm hv q hnn hdbg
        refine test (LM.here ?_)
        cases b with
        | true =>
          refine codeAny_handlers_suite_as ?_
          refine HandSPX.lands_againZ fl3 fun h4 fl4 up4 => ?_
          have J4 : Inv X pins σ' H' { s' with heap := h4 } := J.landed nb fl4.1 ((up.trans up3).trans up4) os ag
          obtain ⟨oe4, vs4, he4, hz4, hd4⟩ := fl4.there
          have S4 := J4.suite he4 hd4 na nL nF
          refine store_ok (X := X.suite a ((a, oe4) :: (X.pn ++ pins))) (v := .ref a) S4 hN hi hloc rfl (fun s5 S5 => ?_) (.inr hln)
          refine wpAny_mono ((hsu a oe4 cls d (X.pn ++ pins) hz4 ⟨_, hd4⟩).run [] s5 _ H' _ S5 (hyes rfl a na)) (fun f s6 hsp => ?_) (fun _ _ z => False.elim z)
          have end_ : ∀ {σ6 : L2.St} {H6 : Hp} {Q : Shared → Prop}, Inv (X.suite a ((a, oe4) :: (X.pn ++ pins))) [] σ6 H6 s6 → (∀ s7, Inv X pins (σ6.set i none) H6 s7 → Q s7) →
              wpAny (model X.prog X.w) X.A (do bindName X.env n .none; unbindBehindTheSuite X.env n pos') (fun _ s7 => Q s7) X.xe s6 := fun {σ6 H6 Q} S6 hq => gone_ok (S6.unsuite ok) hN hi hln hq
          cases f with
          | next =>
            obtain ⟨σ6, H6, S6, q6⟩ := hsp
            exact end_ S6 fun s7 J7 => ⟨_, _, J7, q6⟩
          | brk =>
            obtain ⟨σ6, H6, S6, q6⟩ := hsp
            exact end_ S6 fun s7 J7 => ⟨_, _, J7, q6⟩
          | cont =>
            obtain ⟨σ6, H6, S6, q6⟩ := hsp
            exact end_ S6 fun s7 J7 => ⟨_, _, J7, q6⟩
          | ret u =>
            obtain ⟨v6, σ6, H6, S6, r6, q6⟩ := hsp
            exact end_ S6 fun s7 J7 => ⟨_, _, _, J7, r6, q6⟩
        | false =>
          show wpAny _ X.A (handleBy (.ref a) X.env hds2) _ _ _
          exact ih (hno rfl)
    exact go hh w
  · cases f with
    | next =>
      obtain ⟨σ', H', J', q⟩ := hsp
      exact wpAny_execs_nil ⟨σ', H', J'.ofTry ok, q⟩
    | brk =>
      obtain ⟨σ', H', J', q⟩ := hsp
      exact ⟨σ', H', J'.ofTry ok, q⟩
    | cont =>
      obtain ⟨σ', H', J', q⟩ := hsp
      exact ⟨σ', H', J'.ofTry ok, q⟩
    | ret u =>
      obtain ⟨v, σ', H', J', r, q⟩ := hsp
      exact ⟨v, σ', H', J'.ofTry ok, r, q⟩
end
end PD
end

section
set_option Elab.async false
set_option linter.all false
set_option maxRecDepth 100000
set_option maxHeartbeats 2000000
/-! isinstance of an exception that has fields; its fields; suites over both -/
namespace PD
section
open PySem PySem.Spec PySem.Calls PyProof.Rows PySem.W
variable {prog : Program} {w : World} {A : Around} {E : Value → Shared → Prop} {s : Shared} {K : Frag} {x D : Addr} {ox : Obj} {od : Option Obj}
theorem bindD {C : Addr} {name : Str} {a g : Value} (hc : (clsIn K C).isSome = true) (ha : findIn K (.ref C) name = some (some a)) (hg : specialIn K a "__get__" = some (some g)) (ht : takesIn K a = some true) : findObj K C od name = some (.bind g a) := by
  obtain ⟨cd, hc⟩ := Option.isSome_iff_exists.mp hc
  unfold findObj
  rw [hc, Option.bind_some, ha, Option.bind_some]
  simp [hg, ht]
theorem classD {Q : Option Value → Shared → Prop} (T : L2.ExcC K D) (X : K.In s.heap) (I : InstAt s.heap x ox D od) (h : Q (some (.ref D)) { s with toks := s.toks + 1 }) : wpAny (model prog w) A (getAttr? (.ref x) "__class__") Q E s := by
  have hf : findObj K D od "__class__" = some (.bind (.builtin "getset_descriptor.__get__") (.builtin "object.__class__")) := bindD (by obtain ⟨cd, hc, _⟩ := any_some T.hd; rw [hc]; rfl) T.ha T.hn T.ht
  obtain ⟨hp, g, d, t, os⟩ := s
  have L0 := I.type (M := model prog w)
  have L1 := looks_findIn (M := model prog w) X T.hg
  have L2' := looks_findIn (M := model prog w) X T.hk
  have L3 := looks_find (M := model prog w) X I hf
  have sub : Looks (model prog w) hp (isInstance (.ref x) (.type "BaseException")) true := L0.andThen (looks_subIn X T.hs)
  have hx0 : (false && onTheHeap (Value.builtin "BaseException.__getattribute__")) = false := rfl
  have hx2 : (Value.builtin "BaseException.__getattribute__" == Value.builtin "object.__getattribute__") = false := by decide +kernel
  have hx1 : (onTheHeap (Value.ref D) && Value.builtin "BaseException.__getattribute__" == Value.builtin "object.__getattribute__") = false := by rw [hx2]; rfl
  unfold getAttr? getAttrBy? getAttrBy
  refine wpAny_bind (wpAny_mkText (wpAny_bind (wpAny_attempt (wpAny_holding (wpAny_bind (L0.at (wpAny_bind (L1.at ?_))))))))
  show wpAny _ _ (if (onTheHeap (Value.ref D) && Value.builtin "BaseException.__getattribute__" == Value.builtin "object.__getattribute__") = true then _ else _) _ _ _
  rw [hx1, if_neg Bool.false_ne_true]
  unfold getAttrByItsOwn hookBefore
  refine wpAny_bind ?_
  rw [if_pos (show onTheHeap (Value.ref D) = true from rfl)]
  refine L2'.at ?_
  refine wpAny_bind (wpAny_attempt (wpAny_holding ?_))
  unfold callGetattribute
  rw [hx0, if_neg Bool.false_ne_true]
  unfold boundAndCalled
  rw [PySem.F.excAttr_ValueError.ga.bind (.ref x)]
  refine wpAny_bind (wpAny_pure ?_)
  show wpAny _ _ (call (.builtin "BaseException.__getattribute__") [.ref x, .str "__class__" t]) _ _ _
  refine wpAny_call (codeAny_call_builtin PySem.F.excAttr_ValueError.ga.plain PySem.F.entry_bexc_ga ?_)
  refine @check_slot (model prog w) _ _ ⟨hp, g, d, t + 1, os⟩ "BaseException.__getattribute__" "BaseException" "__getattribute__" (.ref x) [.str "__class__" t] [] _ (by decide +kernel) (by decide +kernel) sub (PySem.F.args_bexc_ga (.ref x) (.str "__class__" t)) ?_
  unfold Builtin.«object.__getattribute__»
  refine wpAny_bind (wpAny_of_eq (a := ((Value.ref x : Value), [Value.str "__class__" t])) (by first | rfl | (simp only [slotArgs]; rfl)) ?_)
  refine wpAny_bind (wpAny_pure (wpAny_bind (L0.at (wpAny_bind (L3.at ?_)))))
  show wpAny _ _ (holding [Value.builtin "object.__class__"] (call (.builtin "getset_descriptor.__get__") [.builtin "object.__class__", .ref x, .ref D]) >>= PySem.ret) _ _ _
  refine wpAny_bind (wpAny_holding (wpAny_call (class_get (s := ⟨hp, g, d, t + 1, os⟩) (ox := ox) (od := od) X I T.hm ?_)))
  refine wpAny_pure ?_
  show wpAny _ _ (handedOut (.ref D)) _ _ _
  rw [handedOut_of (v := .ref D) rfl]
  first
    | exact wpAny_pure (wpAny_pure h)
    | exact wpAny_pure h
    | exact wpAny_pure (wpAny_bind (wpAny_pure (wpAny_pure h)))
theorem kitD (T : L2.ExcC K D) : KitX K (.ref x) (.ref D) (fun h => InstAt h x ox D od) where
  ty := fun _ _ _ I => I.type
  it := fun _ _ X _ => by
    obtain ⟨cdD, hcD, _⟩ := any_some T.hd
    unfold clsIn at hcD
    split at hcD
    · rename_i c' d' cd' sl' ho
      intro A' Q' E' s' k q
      unfold isType loadHead
      exact wpAny_bind (wpAny_loadPart (k _ _ (X _ _ ho)) (wpAny_pure q))
    · cases hcD
  ne := fun h tp dd its n sl X htp => by
    obtain ⟨cdD, hcD, _⟩ := any_some T.hd
    refine Bool.eq_false_iff.mpr fun q => ?_
    have e : D = tp := Value.ref.inj (beq_iff_eq.mp q)
    subst e
    unfold clsIn at hcD
    split at hcD
    · rename_i c' d' cd' sl' ho
      have z := (X _ _ ho).symm.trans htp
      cases z
    · cases hcD
  ca := fun X I k => classD T X I k
end
open PySem PySem.Spec PyProof.Rows L2
variable {X : Cx} {W : WX} {pos : Pos} {e e1 : Expr} {es : List Expr}
variable {K : PySem.W.Frag} {ph : Fx} {am am' : Am} {H H' : Hp} {σ σ' : L2.St} {δ δ' : Sg} {a p : Addr} {v : V} {vs : List V} {d : PyData} {ds : List PyData} {i j : Nat}
/-- isinstance(e, c), e the exception that the suite holds, its fields at dx -/
def rIsD (K : PySem.W.Frag) (D a dx : Addr) : List V → Hp → VK → Prop := fun xs H Q => ∃ (c : V) (cv : Value) (b : Bool) (fs : List (Str × V)), xs = [.ref a, c] ∧ (∀ u, RelV c u → u = cv) ∧ PySem.W.kitOne K (.ref D) cv = some b ∧ H dx = some (.xd fs) ∧ Q (.bl b) H
theorem call_isD {a D dx : Addr} {oe : Obj} {pn : List (Addr × Obj)} (C : ExcC X.K D) (hz : Zc (.ref D) (some dx) oe) (hf : ∃ vs, oe.data = .fields vs) : CallR (X.suite a ((a, oe) :: pn)) (.builtin "isinstance") (rIsD X.K D a dx) := by
  intro pins s σ H xs us Q I r h
  obtain ⟨c, cv, b, fs, rfl, hcv, e, hx, q⟩ := h
  cases r with
  | cons rx rr =>
    cases rr with
    | cons rt rr =>
      cases rr
      cases rx
      have ec := hcv _ rt
      subst ec
      obtain ⟨hget, _⟩ := I.pin (a, oe) (List.mem_append.mpr (.inl List.mem_cons_self))
      obtain ⟨vs, hv⟩ := hf
      obtain ⟨mA, hns, _⟩ : ObjOk X.prog X.w H s.heap dx (.xd fs) := I.hok dx _ hx
      obtain ⟨od, ho, _⟩ := lookIn_ns hns
      have J : PySem.W.InstAt s.heap a oe D (some od) := ⟨hget, hz.1, by unfold PySem.W.notCls; rw [hv] <;> rfl, by rw [hz.2]; exact ho⟩
      exact PySem.W.kia_one (kitD C) I.kIn J e (fun z => nomatch z) fun tk => ⟨.bl b, H, I.kept (t' := tk) fun _ _ z => z, rfl, q⟩
variable {c : Str} {gi : List (Str × PyData) → Option (List PyData)} {pf pn pT : Pos}
def gIsA (b : Bool) (g : List (Str × PyData) → Option (List PyData)) : List (Str × PyData) → Option (List PyData) := fun fs => (g fs).map (.bool b :: ·)
def gFld (f : Str) (g : List (Str × PyData) → Option (List PyData)) : List (Str × PyData) → Option (List PyData) := fun fs => match fs.lookup f with
  | some d => (g fs).map (d :: ·)
  | none => none
theorem lookup_q {f : Str} : ∀ {vs : List (Str × V)} {fs : List (Str × PyData)} {d : PyData}, vs.map (·.1) = fs.map (·.1) → DqAll K H (vs.map (·.2)) (fs.map (·.2)) → fs.lookup f = some d → ∃ v, vs.lookup f = some v ∧ Dq K H v d
  | [], [], _, _, _, h => by cases h
  | (k, v) :: vs, (k', d') :: fs, d, hk, hd, h => by
    rw [List.map_cons, List.map_cons] at hk
    obtain ⟨e1, e2⟩ := List.cons.inj hk
    cases e1
    cases hd with
    | cons h1 h2 =>
      rw [List.lookup_cons] at h ⊢
      cases hb : f == k with
      | true =>
        rw [hb] at h
        cases h
        exact ⟨v, rfl, h1⟩
      | false =>
        rw [hb] at h
        exact lookup_q e2 h2 h
  | [], _ :: _, _, hk, _, _ => by cases hk
  | _ :: _, [], _, hk, _, _ => by cases hk
/-- isinstance(n, T), n the exception, with fields or none -/
theorem dx_isiA {n T : Str} {b : Bool} (Tn : String) (hC : ∀ C, X.mg c = some (.ref C) → ExcC X.K C ∧ PySem.W.kitOne X.K (.ref C) (.type Tn) = some b) (hm : X.mg "isinstance" = none) (hmT : X.mg T = none) (hv : bootBuiltins T = some (.type Tn)) (h : DXs X i c es gi)
    (hN : X.N[i]? = some n := by rfl) (hvi : Vis X.env.scope n := by first | exact Or.inl rfl | exact Or.inr (Or.inl rfl) | exact Or.inr (Or.inr rfl)) (hdn : (n == ("__debug__" : Str)) = false := by decide) (hcd : (n == ("__classdict__" : Str)) = false := by decide)
    (hg : Gl X "isinstance" := by rfl) (hgT : Gl X T := by rfl) (hn : T ≠ "__name__" := by decide) (hd : (T == ("__debug__" : Str)) = false := by decide)
    (hs1 : starEach [.Name T pT] X.env = (false, eval (.Name T pT) X.env) :: starEach [] X.env := by rfl)
    (hs : starEach [.Name n pn, .Name T pT] X.env = (false, eval (.Name n pn) X.env) :: starEach [.Name T pT] X.env := by rfl) (hpl : (backTo pos (starEach [.Name T pT] X.env)).any (·.1) = false := by rfl)
    (hs0 : starEach (.Call (.Name "isinstance" pf) [.Name n pn, .Name T pT] [] pos :: es) X.env = (false, eval (.Call (.Name "isinstance" pf) [.Name n pn, .Name T pT] [] pos) X.env) :: starEach es X.env := by rfl) :
    DXs X i c (.Call (.Name "isinstance" pf) [.Name n pn, .Name T pT] [] pos :: es) (gIsA b gi) :=
  ⟨fun a oe C dx q hz hf hm' => by
    obtain ⟨t, p, r⟩ := h.ex a oe C dx q hz hf hm'
    obtain ⟨hc, hk⟩ := hC C hm'
    cases dx with
    | some dd =>
      refine ⟨_, pa_cons (pe_callB (X := X.suite a ((a, oe) :: q)) (call_isD hc hz hf) hg hm boot_isinstance (pa_cons (pe_var hN hvi hdn hcd) (pa_cons (pe_bltn (v := .ty Tn) hgT hmT hv rfl hn hd) pa_nil hs1) hs) (by decide) (by decide) hs hpl) p hs0, fun ph am σ H Q fs ds hσ hp hg k => ?_⟩
      obtain ⟨ds2, e2, rfl⟩ := Option.map_eq_some_iff.mp hg
      rcases hp with ⟨_, z⟩ | ⟨a', vs, z, e0, ex, e3, e4⟩
      · cases z
      · cases z
        exact ⟨_, hσ, .ty Tn, .type Tn, b, vs, rfl, fun u hu => hu, hk, ex, r ph am σ H _ fs ds2 hσ (.inr ⟨_, vs, rfl, e0, ex, e3, e4⟩) e2 fun vs dv => k (.bl b :: vs) (.cons (.bl b) dv)⟩
    | none =>
      refine ⟨_, pa_cons (pe_callB (X := X.suite a ((a, oe) :: q)) (call_isE hc hz hf) hg hm boot_isinstance (pa_cons (pe_var hN hvi hdn hcd) (pa_cons (pe_bltn (v := .ty Tn) hgT hmT hv rfl hn hd) pa_nil hs1) hs) (by decide) (by decide) hs hpl) p hs0, fun ph am σ H Q fs ds hσ hp hg k => ?_⟩
      obtain ⟨ds2, e2, rfl⟩ := Option.map_eq_some_iff.mp hg
      exact ⟨_, hσ, .ty Tn, .type Tn, b, rfl, fun u hu => hu, hk, r ph am σ H _ fs ds2 hσ hp e2 fun vs dv => k (.bl b :: vs) (.cons (.bl b) dv)⟩⟩
/-- n.f, n the exception -/
theorem dx_fld {n f : Str} (hC : ∀ C, X.mg c = some (.ref C) → XfC X.K C ∧ PySem.W.findIn X.K (.ref C) f = some none) (h : DXs X i c es gi)
    (hN : X.N[i]? = some n := by rfl) (hvi : Vis X.env.scope n := by first | exact Or.inl rfl | exact Or.inr (Or.inl rfl) | exact Or.inr (Or.inr rfl)) (hdn : (n == ("__debug__" : Str)) = false := by decide) (hcd : (n == ("__classdict__" : Str)) = false := by decide)
    (hb : attributeBase (.Name n pn) f X.env (eval (.Name n pn) X.env) = eval (.Name n pn) X.env := by rfl)
    (hs0 : starEach (.Attribute (.Name n pn) f pos :: es) X.env = (false, eval (.Attribute (.Name n pn) f pos) X.env) :: starEach es X.env := by rfl) :
    DXs X i c (.Attribute (.Name n pn) f pos :: es) (gFld f gi) :=
  ⟨fun a oe C dx q hz hf hm' => by
    obtain ⟨t, p, r⟩ := h.ex a oe C dx q hz hf hm'
    obtain ⟨hx, hno⟩ := hC C hm'
    refine ⟨_, pa_cons (pe_xf hx hno hz hf (pe_var (X := X.suite a ((a, oe) :: q)) hN hvi hdn hcd) hb) p hs0, fun ph am σ H Q fs ds hσ hp hg k => ?_⟩
    unfold gFld at hg
    split at hg
    · rename_i d el
      obtain ⟨ds2, e2, rfl⟩ := Option.map_eq_some_iff.mp hg
      rcases hp with ⟨z, _⟩ | ⟨a', vs, z, e0, ex, e3, e4⟩
      · subst z; cases el
      · obtain ⟨v, lv, dv⟩ := lookup_q e3 e4 el
        exact ⟨_, hσ, rfl, rfl, a', vs, v, z, ex, lv, r ph am σ H _ fs ds2 hσ (.inr ⟨a', vs, z, e0, ex, e3, e4⟩) e2 fun vs dvs => k (v :: vs) (.cons dv dvs)⟩
    · cases hg⟩
end PD
end

section
set_option Elab.async false
set_option linter.all false
set_option maxRecDepth 100000
set_option maxHeartbeats 2000000
/-! try: .. except A as n: y = [..] except B as n: y = [..] .. -/
namespace PD
open PySem PySem.Spec PyProof.Rows L2
variable {X : Cx} {W : WX} {pos : Pos} {e e1 : Expr} {es : List Expr}
variable {K : PySem.W.Frag} {ph : Fx} {am am' : Am} {H H' : Hp} {σ σ' : L2.St} {δ δ' : Sg} {a p : Addr} {v : V} {vs : List V} {d : PyData} {ds : List PyData} {i j : Nat}
abbrev GI := List (Str × PyData) → Option (List PyData)
def sTryM (hs : List (Str × GI)) (i j : Nat) (g : MS) : MS := fun δ => match g δ with
  | some (.ok fl, δ1) => some (.ok fl, δ1)
  | some (.ex c fs, δ1) => match hs.lookup c with
    | some gi => (match gi fs, δ1[i]?, δ1[j]? with
      | some ds, some ci, some cj => if (ci.free && cj.free && (i != j) && decide (ds.length ≤ 1000)) = true then some (.ok .nx, (δ1.set j (.fz (.list ds))).set i .un) else none
      | _, _, _ => none)
    | none => none
  | none => none
theorem nm_cls {X : Cx} {x : Str} {C : Addr} (hm : X.mg x = some (.ref C)) (hg : Gl X x := by rfl) (hd : (x == ("__debug__" : Str)) = false := by decide) : Names X x (.ref C) := ⟨hg, hd, .inl hm⟩
inductive HdD (X : Cx) (i : Nat) (n y : Str) : List ExceptHandler → List (Str × Addr × GI) → Prop
  | nil : HdD X i n y [] []
  | cons {x : Str} {C : Addr} {gi : GI} {es : List Expr} {np py spos pos pos' : Pos} {hds : List ExceptHandler} {l : List (Str × Addr × GI)} (hx : Names X x (.ref C)) (hxm : X.mg x = some (.ref C)) (hd : DXs X i x es gi)
      (hsw : swapsWith (.List es pos) (some (.Name y py)) spos.line X.env = pure false) (r : HdD X i n y hds l) : HdD X i n y (.ExceptHandler (some (.Name x np)) (some n) [.Assign [.Name y py] (.List es pos) spos] pos' :: hds) ((x, C, gi) :: l)
theorem HdD.as {n y : Str} {hds : List ExceptHandler} {l : List (Str × Addr × GI)} (h : HdD X i n y hds l) (hN : X.N.Nodup) (hj : X.N[j]? = some y) (hy : Loc X.env.scope y) (hf : X.fn y = true ∨ X.env.scope.names.lookup y = some .local) :
    HdsAs X n hds (l.map fun q => (.ref q.2.1, tCat X i j q.1 q.2.2)) := by
  induction h with
  | nil => exact .nil
  | cons hx hxm hd hsw r ih =>
    refine .cons hx (fun a oe cls dx pn hz hv => ?_) ih
    refine ⟨fun pins s σ H D I h => ?_⟩
    obtain ⟨C', ph, am, fs, ds, rfl, hm, hσ, hp, hg, k⟩ := h
    obtain ⟨t, pt, qt⟩ := hd.ex a oe C' dx pn hz hv hm
    refine (pss_one (ps_set (X := X.suite a ((a, oe) :: pn)) hN hj hy (pe_lst pt) hsw hf)).run pins s σ H D I ?_
    exact qt ph am σ H _ fs ds hσ hp hg fun vs dv => k vs dv
theorem HdD.mg {n y : Str} {hds : List ExceptHandler} {l : List (Str × Addr × GI)} (h : HdD X i n y hds l) : ∀ q ∈ l, X.mg q.1 = some (.ref q.2.1) := by
  induction h with
  | nil => intro q hq; cases hq
  | cons hx hxm hd hsw r ih =>
    intro q hq
    rcases List.mem_cons.mp hq with rfl | hq
    · exact hxm
    · exact ih q hq
theorem many_wish {c : Str} {C : Addr} {dx : Option Addr} {gi : GI} {Wout : WX} {D : Ends} : ∀ {l : List (Str × Addr × GI)}, (∀ q ∈ l, PySem.W.exmOne X.K (.ref C) (.ref q.2.1) = some (decide (q.1 = c))) → (l.map fun q => (q.1, q.2.2)).lookup c = some gi →
    (∀ a, H a = none → tCat X i j c gi a (.ref C) dx { nx := fun σ' H' => D.nx (σ'.set i none) H', rt := D.rt, bk := fun σ' H' => D.bk (σ'.set i none) H', ct := fun σ' H' => D.ct (σ'.set i none) H' } (σ.set i (some (.ref a))) H) →
    wManyAs X.K i Wout D (l.map fun q => (Value.ref q.2.1, tCat X i j q.1 q.2.2)) (.ref C) dx σ H
  | [], _, h, _ => by cases h
  | q :: l, hr, h, hc => by
    refine ⟨decide (q.1 = c), hr q (List.mem_cons_self ..), fun hb => ?_, fun hb => ?_⟩
    · have e := of_decide_eq_true hb
      rw [List.map_cons, List.lookup_cons, show (c == q.1) = true by rw [e]; simp] at h
      cases h
      rw [e]
      exact hc
    · have e := of_decide_eq_false hb
      rw [List.map_cons, List.lookup_cons, show (c == q.1) = false by simpa using fun z => e z.symm] at h
      exact many_wish (fun q' hq => hr q' (List.mem_cons_of_mem _ hq)) h hc
theorem ds_try_many {n y : Str} {body : List Stmt} {g : MS} {h₀ : ExceptHandler} {hds : List ExceptHandler} {l : List (Str × Addr × GI)} {pf : Pos} (hs : X.stack = X.env :: X.outer) (hfr : X.env.frame = some X.env.locals) (hN : X.N.Nodup)
    (hrel : ∀ p ∈ l, ∀ q ∈ l, PySem.W.exmOne X.K (.ref p.2.1) (.ref q.2.1) = some (decide (q.1 = p.1)))
    (hb : ∀ (W' : WX) (pn : List (Addr × Obj)) (xe : Value → Shared → Prop), Takes (X.tr pn xe) W' → DSs (X.tr pn xe) W' body g) (hd : HdD X i n y (h₀ :: hds) l)
    (hi : X.N[i]? = some n := by rfl) (hln : X.env.kindOf n = some .local := by rfl) (hj : X.N[j]? = some y := by rfl) (hy : Loc X.env.scope y := by first | exact Or.inl rfl | exact Or.inr rfl)
    (hf : X.fn y = true ∨ X.env.scope.names.lookup y = some .local := by first | exact .inl rfl | exact .inr rfl) :
    DS X W (.Try body (h₀ :: hds) [] [] pf) (sTryM (l.map fun q => (q.1, q.2.2)) i j g) := by
  refine ⟨⟨_, ps_try_manyAs (tb := fun W' => tsOf X W' g) (Wout := fun _ _ _ _ => False) hs hfr hN hi hln takes0 (fun W' pn xe tk' _ => (hb W' pn xe tk').can) (hd.as hN hj hy hf), fun ph am σ H δ D ans δ' s q k kx => ?_⟩⟩
  unfold sTryM at q
  split at q
  · rename_i fl δ1 e1
    cases q
    exact ⟨ph, am, δ, _, _, s, e1, fun fl' z => by cases z; exact k _ rfl, fun c fs z => by cases z⟩
  · rename_i c' fs δ1 e1
    split at q
    · rename_i gi hl
      split at q
      · rename_i ds ci cj g1 g2 g3
        split at q
        · rename_i hc
          simp only [Bool.and_eq_true, bne_iff_ne, decide_eq_true_eq] at hc
          obtain ⟨⟨⟨f1, f2⟩, nij⟩, hl2⟩ := hc
          cases q
          refine ⟨ph, am, δ, _, _, s, e1, fun fl' z => (by cases z), fun c fs z => ?_⟩
          cases z
          intro C' dx am' σ' H' hm st s' pl
          have hi' : i < σ'.length := by rw [s'.len]; exact (List.getElem?_eq_some_iff.mp g2).1
          obtain ⟨q0, hq0, e0⟩ : ∃ q0 ∈ l, q0.1 = c' := by
            have : ∀ {m : List (Str × GI)}, m.lookup c' = some gi → ∃ r ∈ m, r.1 = c' := fun {m} => by
              induction m with
              | nil => intro h; cases h
              | cons r m ih =>
                intro h
                rw [List.lookup_cons] at h
                cases hb : c' == r.1 with
                | true => exact ⟨r, List.mem_cons_self .., (eq_of_beq hb).symm⟩
                | false =>
                  rw [hb] at h
                  obtain ⟨r', h1, h2⟩ := ih h
                  exact ⟨r', List.mem_cons_of_mem _ h1, h2⟩
            obtain ⟨r, h1, h2⟩ := this hl
            obtain ⟨q0, h3, h4⟩ := List.mem_map.mp h1
            exact ⟨q0, h3, by rw [← h2, ← h4]⟩
          have hm0 := hd.mg q0 hq0
          rw [e0, hm] at hm0
          cases hm0
          refine many_wish (fun q hq => ?_) hl fun a na => ?_
          · rw [hrel q0 hq0 q hq, e0]
          · refine ⟨_, ph, am', _, ds, rfl, hm, List.getElem?_set_self hi', pl, g1, fun vs dv => ?_⟩
            have hz : vs.length ≤ sizeLine := by rw [dv.length, sizeLine_eq]; omega
            refine ⟨hz, fun p np => ?_⟩
            have s2 := (s'.same (same_new (o := .lst vs) np))
            have s3 := s2.put g3 f2 (new_lst (fun b h => s'.hidden h) np dv)
            have g2' : (δ1.set j (.fz (.list ds)))[i]? = some ci := by rw [List.getElem?_set_ne (Ne.symm nij)]; exact g2
            have s4 := s3.unset g2' f1
            have e : ((σ'.set i (some (.ref a))).set j (some (.ref p))).set i none = (σ'.set j (some (.ref p))).set i none := by
              rw [List.set_comm _ _ (Ne.symm nij), List.set_set]
              exact List.set_comm _ _ nij
            show D.nx (((σ'.set i (some (.ref a))).set j (some (.ref p))).set i none) _
            rw [e]
            exact k _ rfl _ _ _ ((st.trans (Step.of (same_new np))).trans (step_drop.trans step_drop)) s4
        · cases q
      · cases q
    · cases q
  · cases q
end PD
end

section
set_option Elab.async false
set_option linter.all false
set_option maxRecDepth 100000
set_option maxHeartbeats 2000000
/-! an exception of one's own as a value: x = C(e), x.f, isinstance(x, T) -/
namespace PD
open PySem PySem.Spec PyProof.Rows L2
variable {X : Cx} {W : WX} {pos : Pos} {e e1 : Expr} {es : List Expr} {f : M PyData}
variable {K : PySem.W.Frag} {ph : Fx} {am am' : Am} {H H' : Hp} {σ σ' : L2.St} {δ δ' : Sg} {a p : Addr} {v : V} {vs : List V} {d : PyData} {ds : List PyData} {i j : Nat}
def tLeV (C : Addr) (fld : Str) (ta : TE) : TE := fun σ H Q => ta σ H fun y H1 => ∀ a dx, H1 a = none → H1 dx = none → dx ≠ a → Q (.ref a) (upd (upd (upd H1 a (exo a C none)) dx (exd dx [(fld, y)])) a (exo a C (some dx)))
theorem pe_leV {x : Str} {C fI : Addr} {k : Nat} {fd : FuncData} {ps : List Str} {fld : Str} {ta : TE} {p : Pos} (T : OexL X.K C) (iC : PySem.W.findIn X.K (.ref C) "__init__" = some (some (.ref fI))) (tI : PySem.W.typeIn X.K (.ref fI) = some (.type "function"))
    (F1 : FnOk X.prog X.w X.K X.mg X.base (L2.CX X.prog X.w) k fI fd ps (spLe C fld)) (hr : Room (k + 1) X.A) (hb : Binds X.K fd ps []) (hx : Passes (L2.CX X.prog X.w) X (fun _ _ _ => False)) (hg : Gl X x) (hm : X.mg x = some (.ref C)) (ha : PE X e ta)
    (hdb : (x == ("__debug__" : Str)) = false := by decide) (he : starEach [e] X.env = (false, eval e X.env) :: starEach [] X.env := by rfl) (hpl : (backTo pos (starEach [] X.env)).any (·.1) = false := by rfl) :
    PE X (.Call (.Name x p) [e] [] pos) (tLeV C fld ta) := by
  refine ⟨fun pins s σ H Q I h => ?_⟩
  refine wpAny_Call_Name_kw (ld_glob I hg hm ?_ hdb)
  refine PySem.W.callWith_K (h₀ := X.base) I.ok.mod.kin T.kC (thn ((pa_cons ha pa_nil he).run pos pins s σ H (fun vs H1 => match vs with | [y] => ∀ a dx, H1 a = none → H1 dx = none → dx ≠ a → Q (.ref a) (upd (upd (upd H1 a (exo a C none)) dx (exd dx [(fld, y)])) a (exo a C (some dx))) | _ => False) I h) fun us s1 ⟨vs, H1, I1, r1, q1⟩ => ⟨I1.kIn, ?_⟩) he hpl
  show wpAny _ _ (call (.ref C) us) _ _ _
  obtain ⟨hp, g, dr, tk, os⟩ := s1
  obtain ⟨nm, N, qn, bs, bm, hdct, sn, sub, ab, col, dd, k0, k1, k2, k3, k5, hC, hT⟩ := PySem.W.excInit_of I1.kIn T.q
  match vs, r1, q1 with
  | [y], r1, q1 =>
  have hsz : hp.objs.size ≤ hp.objs.size + 1 := Nat.le_succ _
  have hn : H1 (hp.objs.size + 1) = none := I1.hok.fresh hsz
  have kk : ∀ b o, hp.get? b = some o → ((hp.push (PySem.W.kdv_tup us)).push (PySem.HandSPX.excO C hp.objs.size)).get? b = some o := fun b o e => Heap.get?_push_of_some _ (Heap.get?_push_of_some _ e)
  have hget : ((hp.push (PySem.W.kdv_tup us)).push (PySem.HandSPX.excO C hp.objs.size)).get? (hp.objs.size + 1) = some (PySem.HandSPX.excO C hp.objs.size) := by heap_get
  have I2 : Inv X pins σ (upd H1 (hp.objs.size + 1) (exo (hp.objs.size + 1) C none)) ⟨(hp.push (PySem.W.kdv_tup us)).push (PySem.HandSPX.excO C hp.objs.size), g, dr, tk, os⟩ :=
    I1.laid (t' := tk) (a := hp.objs.size + 1) (o := exo (hp.objs.size + 1) C none) (h' := (hp.push (PySem.W.kdv_tup us)).push (PySem.HandSPX.excO C hp.objs.size)) kk hsz (exo_ok hget)
  have r2 : Vals [V.ref (hp.objs.size + 1), y] (Value.ref (hp.objs.size + 1) :: us) := .cons rfl r1
  have hq : spLe C fld [V.ref (hp.objs.size + 1), y] (upd H1 (hp.objs.size + 1) (exo (hp.objs.size + 1) C none)) (fun v H2 => v = .non ∧ Q (.ref (hp.objs.size + 1)) H2) (fun _ _ _ => False) := by
    refine ⟨_, y, rfl, upd_same, fun dx n ne => ⟨rfl, q1 _ dx hn ?_ ne⟩⟩
    rw [upd_ne ne] at n; exact n
  have hl : (Value.ref (hp.objs.size + 1) :: us).length = ps.length := by
    have e := r2.length
    rw [F1.len _ _ _ _ hq] at e
    exact e.symm
  have hus : us.length ≤ sizeLine := by
    rw [← Paired.length r1, sizeLine_eq]
    simp
  refine wpAny_call (PySem.HandSPX.call_own PySem.F.excBase_LookupError hT hC (PySem.W.looks_findIn I1.kIn iC) (fun self => PySem.W.bind_fn I1.kIn self tI) hus
    (codeAny_mono (F1.run _ X.stack _ _ ⟨Value.ref (hp.objs.size + 1) :: us, []⟩ (Value.ref (hp.objs.size + 1) :: us) _ _ (fun _ _ _ => False) (hr.make C us []) (I2.env0.make C us []) (by have := hb _ (Value.ref (hp.objs.size + 1) :: us) I2.kIn (by simpa using hl); simpa using this) r2 hq) fun r s' hq' => ?_))
  cases r with
  | error er => exact hx pins σ _ _ er s' I2 hq'
  | ok fl =>
    cases fl with
    | ret u =>
      obtain ⟨v, H2, I3, rv, ev, q2⟩ := I2.after hq'
      subst ev
      exact ⟨rv, .ref _, H2, I3, rfl, q2⟩
    | next => exact False.elim hq'
    | brk => exact False.elim hq'
    | cont => exact False.elim hq'
def tXo (K : PySem.W.Frag) (n : Str) (te : TE) : TE := fun σ H Q => te σ H fun x H1 => ∃ (a C dx : Addr) (fs : List (Str × V)) (v : V), x = .ref a ∧ XfC K C ∧ PySem.W.findIn K (.ref C) n = some none ∧ H1 a = some (exo a C (some dx)) ∧ H1 dx = some (exd dx fs) ∧ fs.lookup n = some v ∧ Q v H1
theorem pe_xo {te : TE} {n : Str} (he : PE X e te) (hb : attributeBase e n X.env (eval e X.env) = eval e X.env := by rfl) : PE X (.Attribute e n pos) (tXo X.K n te) := by
  refine ⟨fun pins s σ H Q I h => ?_⟩
  refine attr_of hb (thn (he.run pins s σ H _ I h) fun u s1 hh => ?_)
  obtain ⟨x, H1, I1, rx, a, C, dx, fs, v, ex, T, hno, ea, ed, l, q⟩ := hh
  subst ex
  obtain rfl : u = Value.ref a := rx
  obtain ⟨t1, ha⟩ := exo_at I1.hok ea
  obtain ⟨mA, hns, hr⟩ := exd_at I1.hok ed
  obtain ⟨od, ho, hl⟩ := lookIn_ns hns
  obtain ⟨u, hu, ru⟩ := RelO.some_of (v := v) (o := mA n) (by rw [← l]; exact hr n)
  have J : PySem.W.InstAt s1.heap a _ C (some od) := ⟨ha, rfl, rfl, ho⟩
  exact HandSPX.exc_get I1.kIn J T.ga T.gg T.exC (PySem.W.findObj_own T.hdC hno rfl (by rw [hl, hu])) (handed_of ru) ⟨v, H1, I1.tok _, ru, q⟩
def rIsO (K : PySem.W.Frag) : List V → Hp → VK → Prop := fun xs H Q => ∃ (a C dx : Addr) (fs : List (Str × V)) (c : V) (cv : Value) (b : Bool), xs = [.ref a, c] ∧ ExcC K C ∧ H a = some (exo a C (some dx)) ∧ H dx = some (exd dx fs) ∧ (∀ u, RelV c u → u = cv) ∧ PySem.W.kitOne K (.ref C) cv = some b ∧ Q (.bl b) H
theorem call_isO : CallR X (.builtin "isinstance") (rIsO X.K) := by
  intro pins s σ H xs us Q I r h
  obtain ⟨a, C, dx, fs, c, cv, b, rfl, T, ea, ed, hcv, e, q⟩ := h
  cases r with
  | cons rx rr =>
    cases rr with
    | cons rt rr =>
      cases rr
      cases rx
      have ec := hcv _ rt
      subst ec
      obtain ⟨t1, ha⟩ := exo_at I.hok ea
      obtain ⟨mA, hns, _⟩ := exd_at I.hok ed
      obtain ⟨od, ho, _⟩ := lookIn_ns hns
      have J : PySem.W.InstAt s.heap a _ C (some od) := ⟨ha, rfl, rfl, ho⟩
      exact PySem.W.kia_one (kitD T) I.kIn J e (fun z => nomatch z) fun tk => ⟨.bl b, H, I.kept (t' := tk) fun _ _ z => z, rfl, q⟩
/-! data -/
def sXNew (b : String) (fld : Str) (i : Nat) (f : M PyData) : MS := bnd f fun d => fun δ => match δ[i]? with
  | some c => if c.free = true then some (.ok .nx, δ.set i (.od (.x b [(fld, d)]))) else none
  | none => none
def xXFld (i : Nat) (n : Str) : M PyData := fun δ => match δ[i]? with
  | some (.od (.x _ fs)) => match fs.lookup n with
    | some d => some (.ok d, δ)
    | none => none
  | _ => none
def xXIsi (i : Nat) (b : String) : M PyData := fun δ => match δ[i]? with
  | some (.od (.x b' _)) => if b' = b then some (.ok (.bool true), δ) else none
  | _ => none
theorem ds_xnew {x y fld : Str} {b : String} {C fI : Addr} {fd : FuncData} {ps : List Str} {p py spos : Pos} (T : ExcA X.prog X.w X.K X.mg X.base x C fI fd ps fld) (hE : ExcC X.K C) (hF : XfC X.K C) (hno : PySem.W.findIn X.K (.ref C) fld = some none) (hk : PySem.W.kitOne X.K (.ref C) (.type b) = some true) (hr : Room 2 X.A) (hN : X.N.Nodup) (ha : DE X W e f)
    (hi : X.N[i]? = some y := by rfl) (hx : Loc X.env.scope y := by first | exact Or.inl rfl | exact Or.inr rfl) (hf : X.fn y = true ∨ X.env.scope.names.lookup y = some .local := by first | exact .inl rfl | exact .inr rfl)
    (hs : swapsWith (.Call (.Name x p) [e] [] pos) (some (.Name y py)) spos.line X.env = pure false := by rfl)
    (hg : Gl X x := by rfl) (hdb : (x == ("__debug__" : Str)) = false := by decide) (he : starEach [e] X.env = (false, eval e X.env) :: starEach [] X.env := by rfl) (hpl : (backTo pos (starEach [] X.env)).any (·.1) = false := by rfl) :
    DS X W (.Assign [.Name y py] (.Call (.Name x p) [e] [] pos) spos) (sXNew b fld i f) := by
  obtain ⟨ta, pa, qa⟩ := ha.ex
  refine ⟨⟨_, ps_set hN hi hx (pe_leV T.T T.i T.t T.F hr T.b passes0 hg T.g pa hdb he hpl) hs hf, fun ph am σ H δ D ans δ' s q k kx => ?_⟩⟩
  rcases bnd_some q with ⟨d0, δ1, e1, q1⟩ | ⟨c, fs, e1, q1⟩
  · refine qa ph am σ H δ _ _ _ s e1 (fun d ed am1 v H1 st1 s1 d1 => ?_) (fun c fs z => by cases z)
    cases ed
    intro a dx na nd ne
    split at q1
    · rename_i c e3
      obtain ⟨h1, e4⟩ := if_some q1
      cases e4
      have sm : Same H1 (upd H1 dx (exd dx [(fld, v)])) := same_new nd
      have s2 := s1.same sm
      have na2 : upd H1 dx (exd dx [(fld, v)]) a = none := by rw [upd_ne (Ne.symm ne)]; exact na
      have eH : upd (upd (upd H1 a (exo a C none)) dx (exd dx [(fld, v)])) a (exo a C (some dx)) = upd (upd H1 dx (exd dx [(fld, v)])) a (exo a C (some dx)) := by
        funext b
        by_cases hb : b = a
        · rw [hb, upd_same, upd_same]
        · rw [upd_ne hb, upd_ne hb]
          by_cases hb2 : b = dx
          · rw [hb2, upd_same, upd_same]
          · rw [upd_ne hb2, upd_ne hb2, upd_ne hb]
      have hvis : hid ph am1 (upd H1 dx (exd dx [(fld, v)])) dx = some (exd dx [(fld, v)]) := hid_some.mpr ⟨s1.new nd, upd_same⟩
      have dor : DOR X.K a (hid ph am1 (upd H1 dx (exd dx [(fld, v)]))) (exo a C (some dx)) (.x b [(fld, d0)]) :=
        (show ∃ (C' dx' : Addr) (vs : List (Str × V)), exo a C (some dx) = exo a C' (some dx') ∧ hid ph am1 (upd H1 dx (exd dx [(fld, v)])) dx' = some (exd dx' vs) ∧ vs.map (·.1) = [(fld, d0)].map (·.1) ∧ DqAll X.K (hid ph am1 (upd H1 dx (exd dx [(fld, v)]))) (vs.map (·.2)) ([(fld, d0)].map (·.2)) ∧ ExcC X.K C' ∧ XfC X.K C' ∧ (∀ f, f ∈ [(fld, d0)].map (·.1) → PySem.W.findIn X.K (.ref C') f = some none) ∧ PySem.W.kitOne X.K (.ref C') (.type b) = some true from
          ⟨C, dx, [(fld, v)], rfl, hvis, rfl, .cons (dp_mono (hid_same sm) d1) .nil, hE, hF, fun f hf => by rw [List.mem_singleton.mp hf]; exact hno, hk⟩)
      have := k _ rfl (amPut am1 i a) (σ.set i (some (.ref a))) _ ((st1.trans (Step.of sm)).trans (step_putU na2)) (s2.putDi e3 h1 na2 dor)
      rw [← eH] at this
      exact this
    · cases q1
  · subst q1
    exact qa ph am σ H δ _ _ _ s e1 (fun d ed => by cases ed) (fun c' fs' z => by cases z; exact (kx _ _ rfl).at)
theorem dor_x {u : HO} {b : String} {fs : List (Str × PyData)} (h : DOR K a H u (.x b fs)) : ∃ (C dx : Addr) (vs : List (Str × V)), u = exo a C (some dx) ∧ H dx = some (exd dx vs) ∧ vs.map (·.1) = fs.map (·.1) ∧ DqAll K H (vs.map (·.2)) (fs.map (·.2)) ∧ ExcC K C ∧ XfC K C ∧ (∀ f, f ∈ fs.map (·.1) → PySem.W.findIn K (.ref C) f = some none) ∧ PySem.W.kitOne K (.ref C) (.type b) = some true := by
  cases u <;> exact h
theorem de_xfld {x n : Str} {pn : Pos} (hN : X.N[i]? = some x := by rfl) (hv : Vis X.env.scope x := by first | exact Or.inl rfl | exact Or.inr (Or.inl rfl) | exact Or.inr (Or.inr rfl)) (hd : (x == ("__debug__" : Str)) = false := by decide) (hcd : (x == ("__classdict__" : Str)) = false := by decide)
    (hb : attributeBase (.Name x pn) n X.env (eval (.Name x pn) X.env) = eval (.Name x pn) X.env := by rfl) : DE X W (.Attribute (.Name x pn) n pos) (xXFld i n) := by
  refine ⟨⟨_, pe_xo (pe_var hN hv hd hcd) hb, fun ph am σ H δ Q ans δ' sr z k kx => ?_⟩⟩
  unfold xXFld at z
  split at z
  · rename_i b fs e3
    split at z
    · rename_i d el
      cases z
      obtain ⟨a0, u, o1, o2, o3, o4, _⟩ := sr.od i _ e3
      obtain ⟨C, dx, vs, rfl, h2, h3, h4, _, hF, hno, _⟩ := dor_x o4
      obtain ⟨v, lv, dv⟩ := lookup_q h3 h4 el
      have hn : n ∈ fs.map (·.1) := by
        rw [← h3]
        have : ∀ {m : List (Str × V)}, m.lookup n = some v → n ∈ m.map (·.1) := fun {m} => by
          induction m with
          | nil => intro h; cases h
          | cons r m ih =>
            intro h
            rw [List.lookup_cons] at h
            cases hb : n == r.1 with
            | true => rw [List.map_cons, eq_of_beq hb]; exact List.mem_cons_self ..
            | false => rw [hb] at h; exact List.mem_cons_of_mem _ (ih h)
        exact this lv
      exact ⟨.ref a0, o2, a0, C, dx, vs, v, rfl, hF, hno n hn, o3, hid_sub _ _ h2, lv, k _ rfl am _ H Step.refl sr dv⟩
    · cases z
  · cases z
theorem de_xisi {x T : Str} {pn pT pf : Pos} (Tn : String) (hm : X.mg "isinstance" = none) (hmT : X.mg T = none) (hvT : bootBuiltins T = some (.type Tn)) (hN : X.N[i]? = some x := by rfl) (hv : Vis X.env.scope x := by first | exact Or.inl rfl | exact Or.inr (Or.inl rfl) | exact Or.inr (Or.inr rfl)) (hd : (x == ("__debug__" : Str)) = false := by decide) (hcd : (x == ("__classdict__" : Str)) = false := by decide)
    (hg : Gl X "isinstance" := by rfl) (hgT : Gl X T := by rfl) (hn : T ≠ "__name__" := by decide) (hdT : (T == ("__debug__" : Str)) = false := by decide)
    (hs1 : starEach [.Name T pT] X.env = (false, eval (.Name T pT) X.env) :: starEach [] X.env := by rfl)
    (hs : starEach [.Name x pn, .Name T pT] X.env = (false, eval (.Name x pn) X.env) :: starEach [.Name T pT] X.env := by rfl) (hpl : (backTo pos (starEach [.Name T pT] X.env)).any (·.1) = false := by rfl) :
    DE X W (.Call (.Name "isinstance" pf) [.Name x pn, .Name T pT] [] pos) (xXIsi i Tn) := by
  refine ⟨⟨_, pe_callB call_isO hg hm boot_isinstance (pa_cons (pe_var hN hv hd hcd) (pa_cons (pe_bltn (v := .ty Tn) hgT hmT hvT rfl hn hdT) pa_nil hs1) hs) (by decide) (by decide) hs hpl, fun ph am σ H δ Q ans δ' sr z k kx => ?_⟩⟩
  unfold xXIsi at z
  split at z
  · rename_i b fs e3
    obtain ⟨hb, e4⟩ := if_some z
    cases e4
    subst hb
    obtain ⟨a0, u, o1, o2, o3, o4, _⟩ := sr.od i _ e3
    obtain ⟨C, dx, vs, rfl, h2, h3, h4, hE, _, _, hk⟩ := dor_x o4
    exact ⟨.ref a0, o2, a0, C, dx, vs, .ty _, .type _, true, rfl, hE, o3, hid_sub _ _ h2, fun u hu => hu, hk, k _ rfl am _ H Step.refl sr (.bl true)⟩
  · cases z
end PD
end

section
set_option Elab.async false
set_option linter.all false
set_option maxRecDepth 100000
set_option maxHeartbeats 2000000
/-! exceptions of one's own below any built-in one, whose __init__ keeps what it is given; made by place and by name -/
namespace PD
open PySem PySem.Spec PyProof.Rows L2
variable {X : Cx} {W : WX} {pos : Pos} {e e1 : Expr} {es : List Expr} {f : M PyData}
variable {K : PySem.W.Frag} {ph : Fx} {am am' : Am} {H H' : Hp} {σ σ' : L2.St} {δ δ' : Sg} {a p : Addr} {v : V} {vs : List V} {d : PyData} {ds : List PyData} {i j : Nat}
structure OexG (K : PySem.W.Frag) (C : Addr) (B newId initId : String) (bm : List Value) : Prop where
  fb : ExcBaseFacts B newId initId bm
  sf : StoreFacts B bm "object.__setattr__" "object"
  q : PySem.W.excInitIn K C bm newId = true
  ov : PySem.W.excOver K C bm = true
  dict : PySem.W.hasDictIn K C = true
  sa : PySem.W.findIn K (.ref C) "__setattr__" = some (some (.builtin "object.__setattr__"))
  exC : PySem.W.subIn K (.ref C) (.type "BaseException") = some true
  tyC : PySem.W.typeIn K (.ref C) = some (.type "type")
  kC : PySem.W.keepIn K (.ref C) = true
variable {B newId initId : String} {bm : List Value}
section
open PySem.W PySem.Calls PySem.HandSPX Builtin Builtin.ObjectAttr
variable {prog : Program} {w : World} {A : Around} {E : Value → Shared → Prop} {R : Result → Shared → Prop} {hp : Heap} {g : Array GenState} {d : Drawn} {t : Nat} {os : OsState}
theorem leExc_osaG {K : Frag} {name : Str} {tk : Tok} {v : Value} {x C : Addr} {fv : Array Value}
    (T : OexG K C B newId initId bm) (X : K.In hp) (hx : hp.get? x = some { cls := .ref C, data := .fields fv }) (ha : takerIn K C name = some none)
    (hq : ∀ h' tk' dx, (∀ b o, b ≠ x → hp.get? b = some o → h'.get? b = some o) → hp.objs.size ≤ dx → dx ≠ x → h'.get? x = some { cls := .ref C, dict := some dx, data := .fields fv } →
      h'.Ns1 dx (fun y => if y = name then some v else none) → R (.ok (.ret .none)) ⟨h', g, d, tk', os⟩) :
    codeAny (model prog w) A (.call (.builtin "object.__setattr__") ⟨[.ref x, .str name tk, v], []⟩) R ⟨hp, g, d, t, os⟩ := by
  have I : InstAt hp x { cls := .ref C, data := .fields fv } C none := ⟨hx, rfl, rfl, trivial⟩
  have hxs : x ≠ hp.objs.size := Nat.ne_of_lt (Heap.lt_size hx)
  refine osa_openX (s := ⟨hp, g, d, t, os⟩) T.sf X I T.ov ha fun b => ?_
  obtain ⟨cd, hcd, hh⟩ : ∃ cd, clsIn K C = some cd ∧ cd.hasDict = true := by
    have := T.dict
    unfold hasDictIn at this
    cases e : clsIn K C with
    | none => rw [e] at this; cases this
    | some cd => rw [e] at this; exact ⟨cd, rfl, this⟩
  have hcls : Looks (model prog w) hp (classData C) cd := looks_clsIn X hcd
  obtain ⟨nm, bs, mro, ns, qn, hd, sn, sb, ab, col, del⟩ := cd
  dsimp only at hh
  subst hh
  unfold storeInOwnDict ownDictForStores
  repeat (first | with_reducible refine store_in_new ?_ ?_ | with_reducible refine wpAny_loadPart_at hx ?_ | with_reducible refine hcls.at ?_ | wp_step)
  · exact ⟨_, #[], _, (Heap.get?_update_ne _ _ _ _ hxs.symm).trans (Heap.get?_push_at rfl rfl), rfl, fun e he => absurd he (by simp), fun _ => rfl⟩
  · intro h' tk' hn' hs
    have hx₁ : (hp.push { cls := .type "dict", data := .dict #[] }).get? x = some { cls := .ref C, data := .fields fv } := Heap.get?_push_of_some _ hx
    refine hq h' tk' hp.objs.size (fun b o hb ho => ?_) (Nat.le_refl _) hxs.symm ?_ hn'
    · exact (hs.2 b (Nat.ne_of_lt (Heap.lt_size ho))).trans ((Heap.get?_update_ne _ _ _ _ hb).trans (Heap.get?_push_of_some _ ho))
    · exact (hs.2 x hxs).trans (Heap.get?_update_self _ hx₁ rfl)
end
/-- self.f = y -/
theorem leOstG {pins : List (Addr × Obj)} {s : Shared} {C : Addr} {fld : Str} {y : V} {u : Value} {Q : Unit → Shared → Prop} {E : Value → Shared → Prop} {A : Around} (T : OexG X.K C B newId initId bm) (I : Inv X pins σ H s) (e : H a = some (exo a C none)) (hno : PySem.W.findIn X.K (.ref C) fld = some none) (ry : RelV y u)
    (h : ∀ dx s', H dx = none → dx ≠ a → Inv X pins σ (upd (upd H dx (exd dx [(fld, y)])) a (exo a C (some dx))) s' → Q () s') : wpAny (model X.prog X.w) A (setAttr (.ref a) fld u) Q E s := by
  obtain ⟨t1, ho⟩ := exo_at I.hok e
  obtain ⟨hp, g, d, t, os⟩ := s
  refine PySem.W.set_plain I.kIn (ox := { cls := .ref C, dict := none, data := .fields #[.ref t1, .none, .none, .none, .bool false, .none] }) (od := none) ⟨ho, rfl, rfl, trivial⟩ T.sa ?_
  refine leExc_osaG T I.kIn ho (by unfold PySem.W.takerIn; rw [hno]; rfl) (fun h' tk' dx k dn dne hx hn => ?_)
  have hnd : H dx = none := I.hok.fresh dn
  have nd : ∀ {b : Addr} {o : Obj}, hp.get? b = some o → b ≠ dx := fun {b o} q => Nat.ne_of_lt (Nat.lt_of_lt_of_le (Heap.lt_size q) dn)
  have na : ∀ {b : Addr}, H b = none → b ≠ a := fun {b} n z => by
    rw [z, e] at n
    cases n
  have Un1 : Un X.fs [] H (upd (upd H dx (exd dx [(fld, y)])) a (exo a C (some dx))) hp h' := {
    keep := fun b o q n _ _ => k b o (na n) q
    slot := fun b o q n _ _ => ⟨o.slots, k b o (na n) q⟩
    free := fun b o q n _ => by rw [upd_ne (na n), upd_ne (nd q)]; exact n
    there := fun b o q _ => by
      by_cases hb : b = a
      · exact ⟨_, by rw [hb]; exact hx⟩
      · exact ⟨o, k b o hb q⟩
    tups := fun b xs q => by rw [upd_ne (at_ne e q exo_tup), upd_ne (ne_of_none q hnd)]; exact q
    frzs := fun b o v q => by rw [upd_ne (at_ne e q exo_frz), upd_ne (ne_of_none q hnd)]; exact q
    tbls := fun b ps q => ⟨#[], by rw [upd_ne (at_ne e q exo_tbl), upd_ne (ne_of_none q hnd), q]; simp⟩ }
  refine h dx _ hnd dne (I.un (t' := tk') Un1 fun b o q => ?_)
  by_cases hb : b = a
  · subst hb
    rw [upd_same] at q
    cases q
    exact exo_ok hx
  · rw [upd_ne hb] at q
    by_cases hd : b = dx
    · subst hd
      rw [upd_same] at q
      cases q
      exact exd_ok hn (relO_put (fs := []) ry fun g => True.intro)
    · rw [upd_ne hd] at q
      exact (I.hok b o q).stay (fun c v hc z => k c v (by
          rcases hc with hc | hc
          · rw [hc]
            exact hb
          · exact at_ne e hc exo_own) z)
        (fun c hc => by rw [upd_ne (at_ne e hc exo_own), upd_ne (ne_of_none hc hnd)]; exact hc) (fun c xs hc => by rw [upd_ne (at_ne e hc exo_tup), upd_ne (ne_of_none hc hnd)]; exact hc)
theorem ps_leOstG {o e : Expr} {to te : TE} {C : Addr} {fld : Str} {p' : Pos} (T : OexG X.K C B newId initId bm) (hno : PySem.W.findIn X.K (.ref C) fld = some none) (ho : PE X o to) (he : PE X e te) (hs : swapsWith e (some (.Attribute o fld p')) pos.line X.env = pure false := by rfl) : PS X (.Assign [.Attribute o fld p'] e pos) (tLeOst X.K C fld to te) := by
  refine ⟨fun pins s σ H D I h => ?_⟩
  refine plainObj_wpAny_Assign_Attribute (thn (he.run pins s σ H _ I h) fun v s1 ⟨y, H1, I1, r1, q1⟩ => thn (ho.run pins s1 σ H1 _ I1 q1) fun u s2 ⟨x, H2, I2, r2, a, ex, ea, q⟩ => ?_) hs
  subst ex
  obtain rfl : u = Value.ref a := r2
  exact leOstG T I2 ea hno r1 fun dx s' n ne J => ⟨σ, _, J, q dx n ne⟩
theorem fn_leG {P : Program} {w : World} {mg : Str → Option Value} {base : Heap} {k : Nat} {C fI : Addr} {fd : FuncData} {N : List Str} {x qual sn vn fld : Str} {st : Stmt} {p1 p2 p3 p4 : Pos} (T : OexG K C B newId initId bm) (hno : PySem.W.findIn K (.ref C) fld = some none) (F : Fun K x qual st fI fd) (S : FnScope N [sn, vn] (defScope st)) (hN : N = [sn, vn])
    (hb : defBody st = [.Assign [.Attribute (.Name sn p1) fld p2] (.Name vn p3) p4])
    (hv1 : Vis (defScope st) sn) (hv2 : Vis (defScope st) vn) (hd1 : (sn == ("__debug__" : Str)) = false) (hd2 : (vn == ("__debug__" : Str)) = false) (hc1 : (sn == ("__classdict__" : Str)) = false) (hc2 : (vn == ("__classdict__" : Str)) = false)
    (hs : ∀ env : PySem.Env, swapsWith (.Name vn p3) (some (.Attribute (.Name sn p1) fld p2)) p4.line env = pure false) :
    FnOk P w K mg base (L2.CX P w) (k + 1) fI fd [sn, vn] (spLe C fld) := by
  subst hN
  refine F.okX S (fun vs H Q E h => by obtain ⟨_, _, rfl, _⟩ := h; rfl) (fun cdv A outer s H vs Q E hr h => ?_)
  obtain ⟨a, y, rfl, ha, q⟩ := h
  rw [hb]
  refine ⟨_, pss_one (ps_leOstG T hno (pe_var (i := 0) rfl hv1 hd1 hc1) (pe_var (i := 1) rfl hv2 hd2 hc2) (hs _)), ?_⟩
  exact ⟨y, rfl, .ref a, rfl, a, rfl, ha, fun dx n ne => q dx n ne⟩
theorem pe_leVG {x : Str} {C fI : Addr} {k : Nat} {fd : FuncData} {ps : List Str} {fld : Str} {ta : TE} {p : Pos} (T : OexG X.K C B newId initId bm) (iC : PySem.W.findIn X.K (.ref C) "__init__" = some (some (.ref fI))) (tI : PySem.W.typeIn X.K (.ref fI) = some (.type "function"))
    (F1 : FnOk X.prog X.w X.K X.mg X.base (L2.CX X.prog X.w) k fI fd ps (spLe C fld)) (hr : Room (k + 1) X.A) (hb : Binds X.K fd ps []) (hx : Passes (L2.CX X.prog X.w) X (fun _ _ _ => False)) (hg : Gl X x) (hm : X.mg x = some (.ref C)) (ha : PE X e ta)
    (hdb : (x == ("__debug__" : Str)) = false := by decide) (he : starEach [e] X.env = (false, eval e X.env) :: starEach [] X.env := by rfl) (hpl : (backTo pos (starEach [] X.env)).any (·.1) = false := by rfl) :
    PE X (.Call (.Name x p) [e] [] pos) (tLeV C fld ta) := by
  refine ⟨fun pins s σ H Q I h => ?_⟩
  refine wpAny_Call_Name_kw (ld_glob I hg hm ?_ hdb)
  refine PySem.W.callWith_K (h₀ := X.base) I.ok.mod.kin T.kC (thn ((pa_cons ha pa_nil he).run pos pins s σ H (fun vs H1 => match vs with | [y] => ∀ a dx, H1 a = none → H1 dx = none → dx ≠ a → Q (.ref a) (upd (upd (upd H1 a (exo a C none)) dx (exd dx [(fld, y)])) a (exo a C (some dx))) | _ => False) I h) fun us s1 ⟨vs, H1, I1, r1, q1⟩ => ⟨I1.kIn, ?_⟩) he hpl
  show wpAny _ _ (call (.ref C) us) _ _ _
  obtain ⟨hp, g, dr, tk, os⟩ := s1
  obtain ⟨nm, N, qn, bs, bm, hdct, sn, sub, ab, col, dd, k0, k1, k2, k3, k5, hC, hT⟩ := PySem.W.excInit_of I1.kIn T.q
  match vs, r1, q1 with
  | [y], r1, q1 =>
  have hsz : hp.objs.size ≤ hp.objs.size + 1 := Nat.le_succ _
  have hn : H1 (hp.objs.size + 1) = none := I1.hok.fresh hsz
  have kk : ∀ b o, hp.get? b = some o → ((hp.push (PySem.W.kdv_tup us)).push (PySem.HandSPX.excO C hp.objs.size)).get? b = some o := fun b o e => Heap.get?_push_of_some _ (Heap.get?_push_of_some _ e)
  have hget : ((hp.push (PySem.W.kdv_tup us)).push (PySem.HandSPX.excO C hp.objs.size)).get? (hp.objs.size + 1) = some (PySem.HandSPX.excO C hp.objs.size) := by heap_get
  have I2 : Inv X pins σ (upd H1 (hp.objs.size + 1) (exo (hp.objs.size + 1) C none)) ⟨(hp.push (PySem.W.kdv_tup us)).push (PySem.HandSPX.excO C hp.objs.size), g, dr, tk, os⟩ :=
    I1.laid (t' := tk) (a := hp.objs.size + 1) (o := exo (hp.objs.size + 1) C none) (h' := (hp.push (PySem.W.kdv_tup us)).push (PySem.HandSPX.excO C hp.objs.size)) kk hsz (exo_ok hget)
  have r2 : Vals [V.ref (hp.objs.size + 1), y] (Value.ref (hp.objs.size + 1) :: us) := .cons rfl r1
  have hq : spLe C fld [V.ref (hp.objs.size + 1), y] (upd H1 (hp.objs.size + 1) (exo (hp.objs.size + 1) C none)) (fun v H2 => v = .non ∧ Q (.ref (hp.objs.size + 1)) H2) (fun _ _ _ => False) := by
    refine ⟨_, y, rfl, upd_same, fun dx n ne => ⟨rfl, q1 _ dx hn ?_ ne⟩⟩
    rw [upd_ne ne] at n; exact n
  have hl : (Value.ref (hp.objs.size + 1) :: us).length = ps.length := by
    have e := r2.length
    rw [F1.len _ _ _ _ hq] at e
    exact e.symm
  have hus : us.length ≤ sizeLine := by
    rw [← Paired.length r1, sizeLine_eq]
    simp
  refine wpAny_call (PySem.HandSPX.call_own T.fb hT hC (PySem.W.looks_findIn I1.kIn iC) (fun self => PySem.W.bind_fn I1.kIn self tI) hus
    (codeAny_mono (F1.run _ X.stack _ _ ⟨Value.ref (hp.objs.size + 1) :: us, []⟩ (Value.ref (hp.objs.size + 1) :: us) _ _ (fun _ _ _ => False) (hr.make C us []) (I2.env0.make C us []) (by have := hb _ (Value.ref (hp.objs.size + 1) :: us) I2.kIn (by simpa using hl); simpa using this) r2 hq) fun r s' hq' => ?_))
  cases r with
  | error er => exact hx pins σ _ _ er s' I2 hq'
  | ok fl =>
    cases fl with
    | ret u =>
      obtain ⟨v, H2, I3, rv, ev, q2⟩ := I2.after hq'
      subst ev
      exact ⟨rv, .ref _, H2, I3, rfl, q2⟩
    | next => exact False.elim hq'
    | brk => exact False.elim hq'
    | cont => exact False.elim hq'
end PD
end

section
set_option Elab.async false
set_option linter.all false
set_option maxRecDepth 100000
set_option maxHeartbeats 2000000
/-! such a class called with a keyword; a class without an __init__ called: the exception as a value -/
namespace PD
section
open PySem PySem.W PySem.Calls PySem.HandSPX Builtin Builtin.ObjectAttr
variable {M : Model} {A : Around} {E : Value → Shared → Prop} {h : Heap} {g : Array GenState} {d : Drawn} {t : Nat} {os : OsState}
variable {nm q : Str} {C N : Addr} {bs bm bmB : List Value} {hdct : Bool} {sn : List Str} {sub : List Value} {ab : Bool} {col : Option Bool} {dd : Option Addr} {k0 k1 k2 k3 k5 : Option Value} {B newId initId : String}
theorem new_check_kw (F : ExcBaseFacts B newId initId bmB) (hT : ∀ X : String, bm.contains (.type X) = bmB.contains (.type X)) {kws : List (Str × Value)} {Q : Unit → Shared → Prop}
    (hC : h.get? C = some (excClassObj nm q C N bs bm hdct sn sub ab col dd k0 k1 k2 k3 k5 newId)) (hq : Q () ⟨h, g, d, t, os⟩) : wpAny M A (checkBuiltinCall newId ⟨[.ref C], kws⟩) Q E ⟨h, g, d, t, os⟩ := by
  have hcont : (Value.ref C :: bm).contains (.type B) = true := by rw [List.contains_cons, hT, F.hasB, Bool.or_true]
  have hstar := F.noStar
  simp only [checkBuiltinCall, F.newKind, F.newSplit, F.newRow]
  repeat (first | refine wpAny_loadPart_at hC ?_ | (refine wpAny_isSubtype_exc hC ?_; rw [hcont]) | refine wpAny_staticBase_exc hC ?_ | refine wpAny_madeBy_exc hC ?_ | simp only [bne_self_eq_false, Bool.false_eq_true, if_false] | wp_step)
  exact hq
end
section
open PySem PySem.W PySem.Calls PySem.HandSPX Builtin Builtin.ObjectAttr
variable {prog : Program} {w : World} {A : Around} {E : Value → Shared → Prop} {R : Result → Shared → Prop} {h : Heap} {g : Array GenState} {d : Drawn} {t : Nat} {os : OsState}
variable {nm q : Str} {C N : Addr} {bs bm bmB : List Value} {hdct : Bool} {sn : List Str} {sub : List Value} {ab : Bool} {col : Option Bool} {dd : Option Addr} {k0 k1 k2 k3 k5 : Option Value} {B newId initId : String}
theorem new_kw (F : ExcBaseFacts B newId initId bmB) (hT : ∀ X : String, bm.contains (.type X) = bmB.contains (.type X)) {kws : List (Str × Value)}
    (hC : h.get? C = some (excClassObj nm q C N bs bm hdct sn sub ab col dd k0 k1 k2 k3 k5 newId))
    (hq : R (.ok (.ret (.ref (h.objs.size + 1)))) ⟨(h.push (kdv_tup [])).push (excO C h.objs.size), g, d, t, os⟩) :
    codeAny (model prog w) A (.builtin newId ⟨[.ref C], kws⟩) R ⟨h, g, d, t, os⟩ := by
  have hends := F.ends
  have hcB : (Value.ref C :: bm).contains (.type B) = true := by rw [List.contains_cons, hT, F.hasB, Bool.or_true]
  have hcA : (Value.ref C :: bm).contains (.type "AttributeError") = false := by rw [List.contains_cons, hT, F.noAttr]; rfl
  have hcN : (Value.ref C :: bm).contains (.type "NameError") = false := by rw [List.contains_cons, hT, F.noName]; rfl
  have hrest : ([] : List Value).length ≤ sizeLine := Nat.zero_le _
  refine codeAny_builtinAt F.entry ?_
  unfold Builtin.«BaseException.__new__»
  refine wpAt_bind ?_
  show wpAt _ _ _ (stack >>= _) _ _ _
  refine wpAt_bind (wpAt_stack fun p below => wpAt_of_wpAny ?_)
  wp_walk
  refine wpAt_of_wpAny ?_
  rw [F.owner]
  repeat (first | with_reducible refine wpAny_madeHere_exc F.canon hC ?_ | with_reducible refine wpAny_loadPart_at hC ?_ | (with_reducible refine wpAny_isSubtype_exc hC ?_; first | rw [hcB] | rw [hcA] | rw [hcN]) | wp_step)
  show R _ _
  rw [Heap.size_push]
  exact hq
theorem type_call_kw (F : ExcBaseFacts B newId initId bmB) (hT : ∀ X : String, bm.contains (.type X) = bmB.contains (.type X)) {kws : List (Str × Value)} {fI : Addr} {Q : Fin → Shared → Prop}
    (hC : h.get? C = some (excClassObj nm q C N bs bm hdct sn sub ab col dd k0 k1 k2 k3 k5 newId))
    (hi : Looks (model prog w) h (typeLookup (.ref C) "__init__") (some (.ref fI))) (hb : ∀ self, Looks (model prog w) h (bindSpecial (.ref fI) self) (.ref fI, [self]))
    (hq : codeAny (model prog w) A (.call (.ref fI) ⟨[.ref (h.objs.size + 1)], kws⟩)
      (fun r s' => match r with | .ok (.ret v) => v = .none ∧ Q (.done (.ret (.ref (h.objs.size + 1)))) s' | .ok _ => False | .error e => E e s')
      ⟨(h.push (kdv_tup [])).push (excO C h.objs.size), g, d, t, os⟩) :
    wpAny (model prog w) A (Builtin.«type.__call__» ⟨[.ref C], kws⟩) Q E ⟨h, g, d, t, os⟩ := by
  repeat (first | with_reducible refine wpAny_loadPart_at hC ?_ | with_reducible refine wpAny_madeBy_exc hC ?_ | wp_step)
  refine codeAny_call_builtin_code (Code.quiet_builtin _ F.quiet) (new_check_kw F hT hC ?_)
  refine new_kw F hT hC ?_
  show wpAny _ _ _ _ _ _
  have k : ∀ b o, h.get? b = some o → ((h.push (kdv_tup [])).push (excO C h.objs.size)).get? b = some o := fun b o e => Heap.get?_push_of_some _ (Heap.get?_push_of_some _ e)
  have hC₁ := k _ _ hC
  have hget : ((h.push (kdv_tup [])).push (excO C h.objs.size)).get? (h.objs.size + 1) = some (excO C h.objs.size) := by heap_get
  have hcC : (Value.ref C :: bm).contains (.ref C) = true := by simp
  have i1 := hi.keeps k
  have b1 := (hb (.ref (h.objs.size + 1))).keeps k
  unfold isInstance
  repeat (first | with_reducible refine wpAny_loadPart_at hget ?_ | (with_reducible refine wpAny_isSubtype_exc hC₁ ?_; rw [hcC]) | wp_step)
  show wpAny _ _ (typeLookup (.ref C) _) _ _ _
  refine i1.at ?_
  refine wpAny_holding (wpAny_bind (b1.at ?_))
  refine wpAny_bind (wpAny_call (codeAny_mono hq fun r s' z => ?_))
  rcases r with e | (v | _ | _ | _) <;> first | exact z | exact z.elim | skip
  obtain ⟨rfl, z⟩ := z
  first
    | exact wpAny_pure (wpAny_pure z)
    | (wp_walk; exact z)
theorem check_type_kw {M : Model} {kws : List (Str × Value)} {Q : Unit → Shared → Prop} (hC : h.get? C = some (excClassObj nm q C N bs bm hdct sn sub ab col dd k0 k1 k2 k3 k5 newId))
    (hq : Q () ⟨h, g, d, t, os⟩) : wpAny M A (checkBuiltinCall "type.__call__" ⟨[.ref C], kws⟩) Q E ⟨h, g, d, t, os⟩ := by
  have f3 := tc_sub
  have hT : (⟨h, g, d, t, os⟩ : Shared).TypeIs (.ref C) "type" := ⟨_, hC, rfl⟩
  simp only [checkBuiltinCall, tc_kind, tc_split]
  repeat (any_goals (first | assumption | with_reducible refine wpAny_loadPart_at hC ?_ | with_reducible refine wpAny_onRaise ?_ | with_reducible refine wpAny_map ?_ | wp_step))
theorem call_kw (F : ExcBaseFacts B newId initId bmB) (hT : ∀ X : String, bm.contains (.type X) = bmB.contains (.type X)) {kws : List (Str × Value)} {fI : Addr}
    (hC : h.get? C = some (excClassObj nm q C N bs bm hdct sn sub ab col dd k0 k1 k2 k3 k5 newId))
    (hi : Looks (model prog w) h (typeLookup (.ref C) "__init__") (some (.ref fI))) (hb : ∀ self, Looks (model prog w) h (bindSpecial (.ref fI) self) (.ref fI, [self]))
    (hq : codeAny (model prog w) (A.under (.builtin "type.__call__" ⟨[.ref C], kws⟩)) (.call (.ref fI) ⟨[.ref (h.objs.size + 1)], kws⟩) (InitBack (h.objs.size + 1) R)
      ⟨(h.push (kdv_tup [])).push (excO C h.objs.size), g, d, t, os⟩) :
    codeAny (model prog w) A (.call (.ref C) ⟨[], kws⟩) R ⟨h, g, d, t, os⟩ := by
  have f1 := tc_lookup
  have f2 := tc_bind (.ref C)
  have hTy : (⟨h, g, d, t, os⟩ : Shared).TypeIs (.ref C) "type" := ⟨_, hC, rfl⟩
  refine codeAny_of_tree ?_
  show wpAny _ _ (callAny (.ref C) _) _ _ _
  repeat (any_goals (first | assumption | with_reducible refine wpAny_loadPart_at hC ?_ | wp_step))
  refine ⟨rfl, ?_⟩
  refine codeAny_call_builtin_at (Code.quiet_builtin _ (by decide +kernel)) entry_typeCall (check_type_kw hC (type_call_kw F hT hC hi hb ?_))
  refine codeAny_mono hq fun r s' z => ?_
  rcases r with e | (v | _ | _ | _) <;> exact z
end
open PySem PySem.Spec PyProof.Rows L2
variable {X : Cx} {W : WX} {pos : Pos} {e e1 : Expr} {es : List Expr} {f : M PyData}
variable {K : PySem.W.Frag} {ph : Fx} {am am' : Am} {H H' : Hp} {σ σ' : L2.St} {δ δ' : Sg} {a p : Addr} {v : V} {vs : List V} {d : PyData} {ds : List PyData} {i j : Nat}
variable {B newId initId : String} {bm : List Value}
theorem vals_one {y : V} {us : List Value} (r : Vals [y] us) : ∃ u, us = [u] ∧ RelV y u := by
  cases r with
  | cons ry rn =>
    cases rn
    exact ⟨_, rfl, ry⟩
/-- C(f = y) -/
theorem pe_leVK {x : Str} {C fI : Addr} {k : Nat} {fd : FuncData} {pn fld : Str} {kws : List Keyword} {tk : TA} {p : Pos} (T : OexG X.K C B newId initId bm) (iC : PySem.W.findIn X.K (.ref C) "__init__" = some (some (.ref fI))) (tI : PySem.W.typeIn X.K (.ref fI) = some (.type "function"))
    (F1 : FnOk X.prog X.w X.K X.mg X.base (L2.CX X.prog X.w) k fI fd ["self", pn] (spLe C fld)) (hr : Room (k + 1) X.A) (hb : ∀ a b : Value, bindArgs fd ⟨[a], [(pn, b)]⟩ = (pure [(("self" : Str), a), (pn, b)] : Sem (List (Str × Value)))) (hx : Passes (L2.CX X.prog X.w) X (fun _ _ _ => False)) (hg : Gl X x) (hm : X.mg x = some (.ref C)) (hkw : PK X kws tk)
    (hall : (backToKw pos (keywordEach kws X.env)).all (·.1.isSome) = true := by rfl) (hks : (backToKw pos (keywordEach kws X.env)).filterMap (·.1) = [pn] := by rfl)
    (hdb : (x == ("__debug__" : Str)) = false := by decide) (hpl : ((backTo pos (starEach [] X.env)).any (·.1) || (backToKw pos (keywordEach kws X.env)).any (·.1.isNone)) = false := by rfl) :
    PE X (.Call (.Name x p) [] kws pos) (fun σ H Q => tk σ H fun vs H1 => ∃ y, vs = [y] ∧ ∀ a dx, H1 a = none → H1 dx = none → dx ≠ a → Q (.ref a) (upd (upd (upd H1 a (exo a C none)) dx (exd dx [(fld, y)])) a (exo a C (some dx)))) := by
  refine ⟨fun pins s σ H Q I h => ?_⟩
  refine wpAny_Call_Name_kw (ld_glob I hg hm ?_ hdb)
  refine PySem.W.callWith_KW0 (first := []) (h₀ := X.base) I.ok.mod.kin T.kC hall ?_ hpl
  refine thn (hkw.run pos pins s σ H _ I h) fun us s1 ⟨vs, H1, I1, r1, y, ev, q1⟩ => ⟨I1.kIn, ?_⟩
  rw [hks]
  subst ev
  obtain ⟨u, eu, ry⟩ := vals_one r1
  subst eu
  show wpAny _ _ (call (.ref C) [] [(pn, u)]) _ _ _
  obtain ⟨hp, g, dr, tk, os⟩ := s1
  obtain ⟨nm, N, qn, bs, bm2, hdct, sn, sub, ab, col, dd, k0, k1, k2, k3, k5, hC, hT⟩ := PySem.W.excInit_of I1.kIn T.q
  have hsz : hp.objs.size ≤ hp.objs.size + 1 := Nat.le_succ _
  have hn : H1 (hp.objs.size + 1) = none := I1.hok.fresh hsz
  have kk : ∀ b o, hp.get? b = some o → ((hp.push (PySem.W.kdv_tup [])).push (PySem.HandSPX.excO C hp.objs.size)).get? b = some o := fun b o e => Heap.get?_push_of_some _ (Heap.get?_push_of_some _ e)
  have hget : ((hp.push (PySem.W.kdv_tup [])).push (PySem.HandSPX.excO C hp.objs.size)).get? (hp.objs.size + 1) = some (PySem.HandSPX.excO C hp.objs.size) := by heap_get
  have I2 : Inv X pins σ (upd H1 (hp.objs.size + 1) (exo (hp.objs.size + 1) C none)) ⟨(hp.push (PySem.W.kdv_tup [])).push (PySem.HandSPX.excO C hp.objs.size), g, dr, tk, os⟩ :=
    I1.laid (t' := tk) (a := hp.objs.size + 1) (o := exo (hp.objs.size + 1) C none) (h' := (hp.push (PySem.W.kdv_tup [])).push (PySem.HandSPX.excO C hp.objs.size)) kk hsz (exo_ok hget)
  have r2 : Vals [V.ref (hp.objs.size + 1), y] [Value.ref (hp.objs.size + 1), u] := .cons rfl (.cons ry .nil)
  have hq : spLe C fld [V.ref (hp.objs.size + 1), y] (upd H1 (hp.objs.size + 1) (exo (hp.objs.size + 1) C none)) (fun v H2 => v = .non ∧ Q (.ref (hp.objs.size + 1)) H2) (fun _ _ _ => False) := by
    refine ⟨_, y, rfl, upd_same, fun dx n ne => ⟨rfl, q1 _ dx hn ?_ ne⟩⟩
    rw [upd_ne ne] at n; exact n
  refine wpAny_call (call_kw T.fb hT hC (PySem.W.looks_findIn I1.kIn iC) (fun self => PySem.W.bind_fn I1.kIn self tI)
    (codeAny_mono (F1.run _ X.stack _ _ ⟨[Value.ref (hp.objs.size + 1)], [(pn, u)]⟩ [Value.ref (hp.objs.size + 1), u] _ _ (fun _ _ _ => False) (hr.make C [] [(pn, u)]) (I2.env0.make C [] [(pn, u)]) (.of_eq (hb _ _)) r2 hq) fun r s' hq' => ?_))
  cases r with
  | error er => exact hx pins σ _ _ er s' I2 hq'
  | ok fl =>
    cases fl with
    | ret u =>
      obtain ⟨v, H2, I3, rv, ev, q2⟩ := I2.after hq'
      subst ev
      exact ⟨rv, .ref _, H2, I3, rfl, q2⟩
    | next => exact False.elim hq'
    | brk => exact False.elim hq'
    | cont => exact False.elim hq'
/-- C() of a class without an __init__ -/
theorem pe_le0 {C : Addr} {x : Str} {p : Pos} (F : ExcBaseFacts B newId initId bm) (q : PySem.W.excIn X.K C bm newId = true) (gC : X.mg x = some (.ref C))
    (kC : PySem.W.keepIn X.K (.ref C) = true) (hg : Gl X x) (hdb : (x == ("__debug__" : Str)) = false := by decide) : PE X (.Call (.Name x p) [] [] pos) (fun σ H Q => ∀ a, H a = none → Q (.ref a) (upd H a (exo a C none))) := by
  refine ⟨fun pins s σ H Q I h => ?_⟩
  refine wpAny_Call_Name_kw (ld_glob I hg gC ?_ hdb)
  refine PySem.W.callWith_K0 (first := []) I.kIn kC ?_
  show wpAny _ _ (call (.ref C) []) _ _ _
  obtain ⟨bm2, N, nm, qn, bs, hdct, sn, sub, ab, col, dd, k0, k1, k2, k3, k5, mN, hC, hN, hni, T⟩ := exc_obj I.kIn q
  obtain ⟨hp, g, dr, tk, os⟩ := s
  refine wpAny_call_exc_subT F T hC hN hni (fun h' e hm => ?_) (Nat.zero_le _)
  obtain ⟨t1, he, _, _⟩ := hm.there
  have na : H e = none := I.hok.gone hm.new
  exact ⟨.ref e, _, I.laidN (t' := tk) (a := e) (o := exo e C none) (h' := h') hm.keeps hm.new na (exo_ok he), rfl, h e na⟩
end PD
end

section
set_option Elab.async false
set_option linter.all false
set_option maxRecDepth 100000
set_option maxHeartbeats 2000000
/-! expressions that only lay new objects, what they give told by a predicate: exceptions as values, lists of them -/
namespace PD
open PySem PySem.Spec PyProof.Rows L2
variable {X : Cx} {W : WX} {pos : Pos} {e e1 e2 : Expr} {es : List Expr} {f : M PyData}
variable {K : PySem.W.Frag} {ph : Fx} {am am' : Am} {H H' : Hp} {σ σ' : L2.St} {δ δ' : Sg} {a p : Addr} {v : V} {vs : List V} {d : PyData} {ds : List PyData} {i j : Nat}
variable {B newId initId : String} {bm : List Value}
def am0 : Am := fun _ => none
theorem hid_am0 : Same (hid ph am H) (hid ph am0 H) := fun b o h => by
  obtain ⟨h1, h2⟩ := hid_some.mp h
  exact hid_some.mpr ⟨fun q => h1 (by
    rcases q with q | ⟨i, q⟩
    · exact .inl q
    · cases q), h2⟩
theorem step_am0 (st : Step am0 H am' H') : Same H H' := fun b o h => st.keep b o h fun i z => by cases z
/-- what is known of slots and heap -/
structure Iv (ph : Fx) where
  pre : L2.St → Hp → Prop
  mono : ∀ σ H H', Same H H' → pre σ H → pre σ H'
  there : ∀ σ H b, pre σ H → ph.ph b → ∃ o, H b = some o
/-- what is known of a value -/
structure VP where
  p : Hp → V → Prop
  mono : ∀ H H' v, Same H H' → p H v → p H' v
def vD (K : PySem.W.Frag) (ph : Fx) (d : PyData) : VP := ⟨fun H v => Dq K (hid ph am0 H) v d, fun _ _ _ s h => dp_mono (hid_same s) h⟩
/-- an exception with a field -/
def vX (K : PySem.W.Frag) (ph : Fx) (C : Addr) (fld : Str) (d : PyData) : VP := ⟨fun H v => ∃ a dx y, v = .ref a ∧ H a = some (exo a C (some dx)) ∧ H dx = some (exd dx [(fld, y)]) ∧ Dq K (hid ph am0 H) y d,
  fun _ _ _ s ⟨a, dx, y, h1, h2, h3, h4⟩ => ⟨a, dx, y, h1, s _ _ h2, s _ _ h3, dp_mono (hid_same s) h4⟩⟩
/-- .. without -/
def vX0 (C : Addr) : VP := ⟨fun H v => ∃ a, v = .ref a ∧ H a = some (exo a C none), fun _ _ _ s ⟨a, h1, h2⟩ => ⟨a, h1, s _ _ h2⟩⟩
/-- .. either -/
def vE (C : Addr) : VP := ⟨fun H v => ∃ a, v = .ref a ∧ (H a = some (exo a C none) ∨ ∃ dx fs, H a = some (exo a C (some dx)) ∧ H dx = some (exd dx fs)),
  fun _ _ _ s ⟨a, h1, h2⟩ => ⟨a, h1, h2.imp (s _ _) fun ⟨dx, fs, h3, h4⟩ => ⟨dx, fs, s _ _ h3, s _ _ h4⟩⟩⟩
theorem vX_E {C : Addr} {fld : Str} (h : (vX K ph C fld d).p H v) : (vE C).p H v := let ⟨a, dx, y, h1, h2, h3, _⟩ := h; ⟨a, h1, .inr ⟨dx, _, h2, h3⟩⟩
theorem vX0_E {C : Addr} (h : (vX0 C).p H v) : (vE C).p H v := let ⟨a, h1, h2⟩ := h; ⟨a, h1, .inl h2⟩
def AllV : List VP → Hp → List V → Prop
  | [], _, vs => vs = []
  | P :: Ps, H, vs => ∃ v r, vs = v :: r ∧ P.p H v ∧ AllV Ps H r
theorem AllV.mono (s : Same H H') : ∀ {Ps : List VP} {vs : List V}, AllV Ps H vs → AllV Ps H' vs
  | [], _, h => h
  | P :: _, _, ⟨v, r, e, h1, h2⟩ => ⟨v, r, e, P.mono _ _ v s h1, AllV.mono s h2⟩
theorem AllV.length : ∀ {Ps : List VP} {vs : List V}, AllV Ps H vs → vs.length = Ps.length
  | [], _, h => by subst h; rfl
  | P :: _, _, ⟨v, r, e, h1, h2⟩ => by subst e; simp [AllV.length h2]
theorem AllV.get : ∀ {Ps : List VP} {vs : List V} {k : Nat} {P : VP}, AllV Ps H vs → Ps[k]? = some P → ∃ v, vs[k]? = some v ∧ P.p H v
  | [], _, _, _, _, h => by simp at h
  | _ :: _, _, 0, _, ⟨v, r, e, h1, h2⟩, h => by cases h; subst e; exact ⟨v, rfl, h1⟩
  | _ :: _, _, k + 1, _, ⟨v, r, e, h1, h2⟩, h => by
    subst e
    obtain ⟨u, g1, g2⟩ := AllV.get h2 (show _ = _ by simpa using h)
    exact ⟨u, by simpa using g1, g2⟩
theorem AllV.at : ∀ {Ps : List VP} {vs : List V} {k : Nat} {v : V}, AllV Ps H vs → vs[k]? = some v → ∃ P, Ps[k]? = some P ∧ P.p H v := fun {Ps vs k v} h e => by
  have hk : k < Ps.length := by rw [← h.length]; exact (List.getElem?_eq_some_iff.mp e).1
  obtain ⟨v', h1, h2⟩ := h.get (List.getElem?_eq_getElem hk)
  rw [e] at h1
  cases h1
  exact ⟨_, List.getElem?_eq_getElem hk, h2⟩
theorem allV_dq : ∀ {ds : List PyData} {vs : List V}, AllV (ds.map (vD K ph)) H vs → DqAll K (hid ph am0 H) vs ds
  | [], vs, h => by
    have h' : vs = [] := h
    subst h'
    exact .nil
  | d :: ds, _, ⟨v, r, e, h1, h2⟩ => by subst e; exact .cons h1 (allV_dq h2)
variable {I : Iv ph} {P : VP} {Ps : List VP}
structure RX (X : Cx) (e : Expr) (I : Iv ph) (P : VP) : Prop where
  ex : ∃ t, PE X e t ∧ ∀ σ H Q, I.pre σ H → (∀ v H', Same H H' → I.pre σ H' → P.p H' v → Q v H') → t σ H Q
structure RXs (X : Cx) (es : List Expr) (I : Iv ph) (Ps : List VP) : Prop where
  ex : ∃ t, PA X es t ∧ ∀ σ H Q, I.pre σ H → (∀ vs H', Same H H' → I.pre σ H' → AllV Ps H' vs → Q vs H') → t σ H Q
theorem rxs_nil : RXs X [] I [] := ⟨⟨tNil, pa_nil, fun σ H Q h k => k [] H (Same.refl H) h rfl⟩⟩
theorem rxs_cons (h : RX X e I P) (t : RXs X es I Ps) (hs : starEach (e :: es) X.env = (false, eval e X.env) :: starEach es X.env := by rfl) : RXs X (e :: es) I (P :: Ps) := by
  obtain ⟨ta, pa, qa⟩ := h.ex
  obtain ⟨tb, pb, qb⟩ := t.ex
  exact ⟨⟨_, pa_cons pa pb hs, fun σ H Q hp k => qa σ H _ hp fun v H1 s1 p1 r1 => qb σ H1 _ p1 fun vs H2 s2 p2 r2 => k _ H2 (s1.trans s2) p2 ⟨v, vs, rfl, P.mono _ _ v s2 r1, r2⟩⟩⟩
theorem rx_weak {P' : VP} (h : RX X e I P) (w : ∀ H v, P.p H v → P'.p H v) : RX X e I P' := by
  obtain ⟨t, p, q⟩ := h.ex
  exact ⟨⟨t, p, fun σ H Q hp k => q σ H Q hp fun v H1 s1 p1 r1 => k v H1 s1 p1 (w _ _ r1)⟩⟩
/-- what is known anew -/
theorem rx_de (h : DE X W e f) (hs : ∀ σ H, I.pre σ H → ∃ δ δ', SR X.K ph am0 σ H δ ∧ f δ = some (.ok d, δ')) : RX X e I (vD X.K ph d) := by
  obtain ⟨t, p, q⟩ := h.ex
  refine ⟨⟨t, p, fun σ H Q hp k => ?_⟩⟩
  obtain ⟨δ, δ', s, ef⟩ := hs σ H hp
  refine q ph am0 σ H δ Q _ _ s ef (fun d' ed am1 v H1 st s1 d1 => ?_) (fun c fs z => by cases z)
  cases ed
  exact k v H1 (step_am0 st) (I.mono _ _ _ (step_am0 st) hp) (dp_mono hid_am0 d1)
theorem rx_df {fs : M (List PyData)} (h : DF X W e fs) (hs : ∀ σ H, I.pre σ H → ∃ δ δ', SR X.K ph am0 σ H δ ∧ fs δ = some (.ok ds, δ')) : RX X e I (vD X.K ph (.list ds)) := by
  refine rx_de (de_df h) fun σ H hp => ?_
  obtain ⟨δ, δ', s, e⟩ := hs σ H hp
  exact ⟨δ, δ', s, by unfold bnd; rw [e]⟩
def vL (Ps : List VP) : VP := ⟨fun H v => ∃ p vs, v = .ref p ∧ H p = some (.lst vs) ∧ AllV Ps H vs, fun _ _ _ s ⟨p, vs, h1, h2, h3⟩ => ⟨p, vs, h1, s _ _ h2, h3.mono s⟩⟩
theorem rx_lst (h : RXs X es I Ps) (hl : Ps.length ≤ sizeLine) : RX X (.List es pos) I (vL Ps) := by
  obtain ⟨t, p, q⟩ := h.ex
  refine ⟨⟨_, pe_lst p, fun σ H Q hp k => q σ H _ hp fun vs H1 s1 p1 r1 => ⟨by rw [r1.length]; exact hl, fun p np => ?_⟩⟩⟩
  have sm : Same H1 (upd H1 p (.lst vs)) := same_new np
  exact k _ _ (s1.trans sm) (I.mono _ _ _ sm p1) ⟨p, vs, rfl, upd_same, r1.mono sm⟩
theorem rx_lstD (h : RXs X es I (ds.map (vD X.K ph))) (hl : ds.length ≤ sizeLine) : RX X (.List es pos) I (vD X.K ph (.list ds)) := by
  obtain ⟨t, p, q⟩ := h.ex
  refine ⟨⟨_, pe_lst p, fun σ H Q hp k => q σ H _ hp fun vs H1 s1 p1 r1 => ⟨by rw [r1.length, List.length_map]; exact hl, fun p np => ?_⟩⟩⟩
  have sm : Same H1 (upd H1 p (.lst vs)) := same_new np
  refine k _ _ (s1.trans sm) (I.mono _ _ _ sm p1) (new_lst (fun b hb => ?_) np (allV_dq r1))
  rcases hb with hb | ⟨i, hb⟩
  · exact I.there _ _ b p1 hb
  · cases hb
/-- a + b, lists -/
theorem rx_cat {xs ys zs : List PyData} {F : PyData → PyData → Option (List PyData)} {r : R2} {op : Operator} (hr : OpF X r F) (ho : OpR X (binaryOp op) r) (ha : RX X e1 I (vD X.K ph (.list xs))) (hb : RX X e2 I (vD X.K ph (.list ys))) (hz : F (.list xs) (.list ys) = some zs) : RX X (.BinOp e1 op e2 pos) I (vD X.K ph (.list zs)) := by
  obtain ⟨ta, pa, qa⟩ := ha.ex
  obtain ⟨tb, pb, qb⟩ := hb.ex
  refine ⟨⟨_, pe_op ho pa pb, fun σ H Q hp k => qa σ H _ hp fun v H1 s1 p1 r1 => qb σ H1 _ p1 fun u H2 s2 p2 r2 => ?_⟩⟩
  have hn : ∀ b, Hid ph am0 b → ∃ o, H2 b = some o := fun b hb => by
    rcases hb with hb | ⟨i, hb⟩
    · exact I.there _ _ b p2 hb
    · cases hb
  refine hr ph am0 H2 v u _ _ _ Q hn (dp_mono (hid_same s2) r1) r2 hz fun p vs np dv hz => ?_
  have sm : Same H2 (upd H2 p (.lst vs)) := same_new np
  exact k _ _ ((s1.trans s2).trans sm) (I.mono _ _ _ sm p2) (new_lst hn np dv)
/-- x.f of an exception -/
theorem rx_fld {C : Addr} {fld : Str} (hF : XfC X.K C) (hno : PySem.W.findIn X.K (.ref C) fld = some none) (h : RX X e I (vX X.K ph C fld d)) (hb : attributeBase e fld X.env (eval e X.env) = eval e X.env := by rfl) : RX X (.Attribute e fld pos) I (vD X.K ph d) := by
  obtain ⟨t, p, q⟩ := h.ex
  refine ⟨⟨_, pe_xo p hb, fun σ H Q hp k => q σ H _ hp fun v H1 s1 p1 r1 => ?_⟩⟩
  obtain ⟨a, dx, y, rfl, h2, h3, h4⟩ := r1
  exact ⟨a, C, dx, _, y, rfl, hF, hno, h2, h3, by rw [List.lookup_cons, beq_self_eq_true], k y H1 s1 p1 h4⟩
theorem rx_var {x : Str} (hs : ∀ σ H, I.pre σ H → ∃ v, σ[i]? = some (some v) ∧ P.p H v) (hN : X.N[i]? = some x := by rfl) (hv : Vis X.env.scope x := by first | exact Or.inl rfl | exact Or.inr (Or.inl rfl) | exact Or.inr (Or.inr rfl)) (hd : (x == ("__debug__" : Str)) = false := by decide) (hcd : (x == ("__classdict__" : Str)) = false := by decide) : RX X (.Name x pos) I P :=
  ⟨⟨tVar i, pe_var hN hv hd hcd, fun σ H Q hp k => let ⟨v, h1, h2⟩ := hs σ H hp; ⟨v, h1, k v H (Same.refl H) hp h2⟩⟩⟩
/-- xs[k], k a constant -/
theorem rx_ix {k kn : Nat} {pk : Pos} (h : RX X e I (vL Ps)) (hk : Ps[k]? = some P) : RX X (.Subscript e (.Constant (.int (k : Int)) kn pk) pos) I P := by
  obtain ⟨t, p, q⟩ := h.ex
  refine ⟨⟨_, pe_ix ix_list p pe_int (fun _ _ => rfl), fun σ H Q hp kk => q σ H _ hp fun v H1 s1 p1 r1 => ?_⟩⟩
  obtain ⟨p, vs, rfl, h2, h3⟩ := r1
  obtain ⟨u, e1, e2⟩ := h3.get hk
  exact ⟨p, vs, k, u, rfl, rfl, .inl (.inl h2), atI_nat e1, kk u H1 s1 p1 e2⟩
/-! ### makers -/
theorem made_same {H : Hp} {C a dx : Addr} {fld : Str} {y : V} (na : H a = none) (nd : H dx = none) (ne : dx ≠ a) : Same H (upd (upd (upd H a (exo a C none)) dx (exd dx [(fld, y)])) a (exo a C (some dx))) := fun b o h => by
  rw [upd_ne (ne_of_none h na), upd_ne (ne_of_none h nd), upd_ne (ne_of_none h na)]
  exact h
theorem rx_mk {x : Str} {C fI : Addr} {k : Nat} {fd : FuncData} {ps : List Str} {fld : Str} {p : Pos} (T : OexG X.K C B newId initId bm) (iC : PySem.W.findIn X.K (.ref C) "__init__" = some (some (.ref fI))) (tI : PySem.W.typeIn X.K (.ref fI) = some (.type "function"))
    (F1 : FnOk X.prog X.w X.K X.mg X.base (L2.CX X.prog X.w) k fI fd ps (spLe C fld)) (hr : Room (k + 1) X.A) (hb : Binds X.K fd ps []) (hm : X.mg x = some (.ref C)) (ha : RX X e I (vD X.K ph d)) (hg : Gl X x := by rfl)
    (hdb : (x == ("__debug__" : Str)) = false := by decide) (he : starEach [e] X.env = (false, eval e X.env) :: starEach [] X.env := by rfl) (hpl : (backTo pos (starEach [] X.env)).any (·.1) = false := by rfl) :
    RX X (.Call (.Name x p) [e] [] pos) I (vX X.K ph C fld d) := by
  obtain ⟨t, pt, q⟩ := ha.ex
  refine ⟨⟨_, pe_leVG T iC tI F1 hr hb passes0 hg hm pt hdb he hpl, fun σ H Q hp kk => q σ H _ hp fun y H1 s1 p1 r1 => fun a dx na nd ne => ?_⟩⟩
  have sm := made_same (C := C) (fld := fld) (y := y) na nd ne
  exact kk _ _ (s1.trans sm) (I.mono _ _ _ sm p1) ⟨a, dx, y, rfl, upd_same, by rw [upd_ne ne]; exact upd_same, dp_mono (hid_same sm) r1⟩
theorem rx_mkK {x : Str} {C fI : Addr} {k : Nat} {fd : FuncData} {pn fld : Str} {kp p : Pos} (T : OexG X.K C B newId initId bm) (iC : PySem.W.findIn X.K (.ref C) "__init__" = some (some (.ref fI))) (tI : PySem.W.typeIn X.K (.ref fI) = some (.type "function"))
    (F1 : FnOk X.prog X.w X.K X.mg X.base (L2.CX X.prog X.w) k fI fd ["self", pn] (spLe C fld)) (hr : Room (k + 1) X.A) (hb : ∀ a b : Value, bindArgs fd ⟨[a], [(pn, b)]⟩ = (pure [(("self" : Str), a), (pn, b)] : Sem (List (Str × Value)))) (hm : X.mg x = some (.ref C)) (ha : RX X e I (vD X.K ph d)) (hg : Gl X x := by rfl)
    (hall : (backToKw pos (keywordEach [⟨some pn, e, kp⟩] X.env)).all (·.1.isSome) = true := by rfl) (hks : (backToKw pos (keywordEach [⟨some pn, e, kp⟩] X.env)).filterMap (·.1) = [pn] := by rfl)
    (hdb : (x == ("__debug__" : Str)) = false := by decide) (hpl : ((backTo pos (starEach [] X.env)).any (·.1) || (backToKw pos (keywordEach [⟨some pn, e, kp⟩] X.env)).any (·.1.isNone)) = false := by rfl) :
    RX X (.Call (.Name x p) [] [⟨some pn, e, kp⟩] pos) I (vX X.K ph C fld d) := by
  obtain ⟨t, pt, q⟩ := ha.ex
  refine ⟨⟨_, pe_leVK T iC tI F1 hr hb passes0 hg hm (pk_cons pt pk_nil) hall hks hdb hpl, fun σ H Q hp kk => q σ H _ hp fun y H1 s1 p1 r1 => ⟨y, rfl, fun a dx na nd ne => ?_⟩⟩⟩
  have sm := made_same (C := C) (fld := fld) (y := y) na nd ne
  exact kk _ _ (s1.trans sm) (I.mono _ _ _ sm p1) ⟨a, dx, y, rfl, upd_same, by rw [upd_ne ne]; exact upd_same, dp_mono (hid_same sm) r1⟩
theorem rx_mk0 {C : Addr} {x : Str} {p : Pos} (T : ExcT X.K X.mg x C B newId initId bm) (hg : Gl X x := by rfl) (hdb : (x == ("__debug__" : Str)) = false := by decide) : RX X (.Call (.Name x p) [] [] pos) I (vX0 C) :=
  ⟨⟨_, pe_le0 T.F T.q T.g T.k hg hdb, fun σ H Q hp kk a na => by
    have sm : Same H (upd H a (exo a C none)) := same_new na
    exact kk _ _ sm (I.mono _ _ _ sm hp) ⟨a, rfl, upd_same⟩⟩⟩
/-! ### isinstance -/
def rIsV (K : PySem.W.Frag) : List V → Hp → VK → Prop := fun xs H Q => ∃ (a C : Addr) (c : V) (cv : Value) (b : Bool), xs = [.ref a, c] ∧ ExcC K C ∧ (vE C).p H (.ref a) ∧ (∀ u, RelV c u → u = cv) ∧ PySem.W.kitOne K (.ref C) cv = some b ∧ Q (.bl b) H
theorem call_isV : CallR X (.builtin "isinstance") (rIsV X.K) := by
  intro pins s σ H xs us Q I r h
  obtain ⟨a, C, c, cv, b, rfl, T, ⟨a', ea', ea⟩, hcv, e, q⟩ := h
  cases ea'
  cases r with
  | cons rx rr =>
    cases rr with
    | cons rt rr =>
      cases rr
      cases rx
      have ec := hcv _ rt
      subst ec
      rcases ea with ea | ⟨dx, fs, ea, ed⟩
      · obtain ⟨t1, ha⟩ := exo_at I.hok ea
        have J : PySem.W.InstAt s.heap a _ C none := ⟨ha, rfl, rfl, trivial⟩
        exact PySem.W.kia_one (kitD T) I.kIn J e (fun z => nomatch z) fun tk => ⟨.bl b, H, I.kept (t' := tk) fun _ _ z => z, rfl, q⟩
      · obtain ⟨t1, ha⟩ := exo_at I.hok ea
        obtain ⟨mA, hns, _⟩ := exd_at I.hok ed
        obtain ⟨od, ho, _⟩ := lookIn_ns hns
        have J : PySem.W.InstAt s.heap a _ C (some od) := ⟨ha, rfl, rfl, ho⟩
        exact PySem.W.kia_one (kitD T) I.kIn J e (fun z => nomatch z) fun tk => ⟨.bl b, H, I.kept (t' := tk) fun _ _ z => z, rfl, q⟩
theorem rx_isB {C : Addr} {T : Str} {b : Bool} {pT pf : Pos} (Tn : String) (hm : X.mg "isinstance" = none) (hmT : X.mg T = none) (hvT : bootBuiltins T = some (.type Tn)) (hE : ExcC X.K C) (hk : PySem.W.kitOne X.K (.ref C) (.type Tn) = some b) (h : RX X e I (vE C))
    (hg : Gl X "isinstance" := by rfl) (hgT : Gl X T := by rfl) (hn : T ≠ "__name__" := by decide) (hdT : (T == ("__debug__" : Str)) = false := by decide)
    (hs1 : starEach [.Name T pT] X.env = (false, eval (.Name T pT) X.env) :: starEach [] X.env := by rfl)
    (hs : starEach [e, .Name T pT] X.env = (false, eval e X.env) :: starEach [.Name T pT] X.env := by rfl) (hpl : (backTo pos (starEach [.Name T pT] X.env)).any (·.1) = false := by rfl) :
    RX X (.Call (.Name "isinstance" pf) [e, .Name T pT] [] pos) I (vD X.K ph (.bool b)) := by
  obtain ⟨t, pt, q⟩ := h.ex
  refine ⟨⟨_, pe_callB call_isV hg hm boot_isinstance (pa_cons pt (pa_cons (pe_bltn (v := .ty Tn) hgT hmT hvT rfl hn hdT) pa_nil hs1) hs) (by decide) (by decide) hs hpl, fun σ H Q hp kk => q σ H _ hp fun v H1 s1 p1 r1 => ?_⟩⟩
  obtain ⟨a, rfl, r1⟩ := r1
  exact ⟨a, C, .ty Tn, .type Tn, b, rfl, hE, ⟨a, rfl, r1⟩, fun u hu => hu, hk, kk _ H1 s1 p1 (.bl b)⟩
theorem rx_isC {C D : Addr} {T : Str} {b : Bool} {pT pf : Pos} (hm : X.mg "isinstance" = none) (hmT : X.mg T = some (.ref D)) (hE : ExcC X.K C) (hk : PySem.W.kitOne X.K (.ref C) (.ref D) = some b) (h : RX X e I (vE C))
    (hg : Gl X "isinstance" := by rfl) (hgT : Gl X T := by rfl) (hdT : (T == ("__debug__" : Str)) = false := by decide)
    (hs1 : starEach [.Name T pT] X.env = (false, eval (.Name T pT) X.env) :: starEach [] X.env := by rfl)
    (hs : starEach [e, .Name T pT] X.env = (false, eval e X.env) :: starEach [.Name T pT] X.env := by rfl) (hpl : (backTo pos (starEach [.Name T pT] X.env)).any (·.1) = false := by rfl) :
    RX X (.Call (.Name "isinstance" pf) [e, .Name T pT] [] pos) I (vD X.K ph (.bool b)) := by
  obtain ⟨t, pt, q⟩ := h.ex
  refine ⟨⟨_, pe_callB call_isV hg hm boot_isinstance (pa_cons pt (pa_cons (pe_glob (v := .ref D) hgT hmT rfl hdT) pa_nil hs1) hs) (by decide) (by decide) hs hpl, fun σ H Q hp kk => q σ H _ hp fun v H1 s1 p1 r1 => ?_⟩⟩
  obtain ⟨a, rfl, r1⟩ := r1
  exact ⟨a, C, .ref D, .ref D, b, rfl, hE, ⟨a, rfl, r1⟩, fun u hu => hu, hk, kk _ H1 s1 p1 (.bl b)⟩
end PD
end

section
set_option Elab.async false
set_option linter.all false
set_option maxRecDepth 100000
set_option maxHeartbeats 2000000
/-! statements over such expressions: slots that hold data, slots that hold exceptions or lists of them -/
namespace PD
open PySem PySem.Spec PyProof.Rows L2
variable {X : Cx} {W : WX} {pos : Pos} {e e1 e2 : Expr} {es : List Expr} {f : M PyData}
variable {K : PySem.W.Frag} {ph : Fx} {am am' : Am} {H H' : Hp} {σ σ' : L2.St} {δ δ' : Sg} {a p : Addr} {v : V} {vs : List V} {d : PyData} {ds : List PyData} {i j : Nat}
variable {I : Iv ph} {P : VP} {Ps : List VP}
/-- slots with what they hold -/
def SlV : List (Nat × VP) → L2.St → Hp → Prop
  | [], _, _ => True
  | q :: L, σ, H => (∃ v, σ[q.1]? = some (some v) ∧ q.2.p H v) ∧ SlV L σ H
theorem SlV.mono (s : Same H H') : ∀ {L : List (Nat × VP)}, SlV L σ H → SlV L σ H'
  | [], _ => trivial
  | q :: _, ⟨⟨v, h1, h2⟩, h3⟩ => ⟨⟨v, h1, q.2.mono _ _ v s h2⟩, SlV.mono s h3⟩
theorem SlV.set {v : V} : ∀ {L : List (Nat × VP)}, (∀ q ∈ L, q.1 ≠ i) → SlV L σ H → SlV L (σ.set i (some v)) H
  | [], _, _ => trivial
  | q :: L, n, ⟨⟨u, h1, h2⟩, h3⟩ => ⟨⟨u, by rw [List.getElem?_set_ne (Ne.symm (n q (List.mem_cons_self ..)))]; exact h1, h2⟩, SlV.set (fun r hr => n r (List.mem_cons_of_mem _ hr)) h3⟩
def noS (i : Nat) (L : List (Nat × VP)) : Bool := (L.map (·.1)).all fun j => decide (j ≠ i)
theorem noS_ne {L : List (Nat × VP)} (h : noS i L = true) : ∀ q ∈ L, q.1 ≠ i := fun q hq => by
  unfold noS at h
  have := List.all_eq_true.mp h q.1 (List.mem_map_of_mem hq)
  exact of_decide_eq_true this
def ivS (K : PySem.W.Frag) (ph : Fx) (δ : Sg) (L : List (Nat × VP)) (Z : Hp → L2.St → Prop := fun _ _ => True) (hZ : ∀ H H' σ, Same H H' → Z H σ → Z H' σ := by intros; trivial) : Iv ph :=
  ⟨fun σ H => SR K ph am0 σ H δ ∧ SlV L σ H ∧ Z H σ, fun σ H H' s h => ⟨h.1.same s, h.2.1.mono s, hZ _ _ _ s h.2.2⟩, fun σ H b h hb => let ⟨o, e, _⟩ := h.1.phs b hb; ⟨o, e⟩⟩
/-- data from data -/
theorem rx_deS {L : List (Nat × VP)} {Z : Hp → L2.St → Prop} {hZ : ∀ H H' σ, Same H H' → Z H σ → Z H' σ} (h : DE X W e f) (hf : ∃ δ', f δ = some (.ok d, δ')) : RX X e (ivS X.K ph δ L Z hZ) (vD X.K ph d) :=
  rx_de h fun σ H hp => let ⟨δ', e⟩ := hf; ⟨δ, δ', hp.1, e⟩
theorem rx_dfS {L : List (Nat × VP)} {Z : Hp → L2.St → Prop} {hZ : ∀ H H' σ, Same H H' → Z H σ → Z H' σ} {fs : M (List PyData)} (h : DF X W e fs) (hf : ∃ δ', fs δ = some (.ok ds, δ')) : RX X e (ivS X.K ph δ L Z hZ) (vD X.K ph (.list ds)) :=
  rx_df h fun σ H hp => let ⟨δ', e⟩ := hf; ⟨δ, δ', hp.1, e⟩
theorem slV_get : ∀ {L : List (Nat × VP)}, SlV L σ H → (i, P) ∈ L → ∃ v, σ[i]? = some (some v) ∧ P.p H v
  | [], _, h => by cases h
  | q :: L, ⟨h1, h2⟩, h => by
    rcases List.mem_cons.mp h with rfl | h
    · exact h1
    · exact slV_get h2 h
theorem rx_varS {L : List (Nat × VP)} {Z : Hp → L2.St → Prop} {hZ : ∀ H H' σ, Same H H' → Z H σ → Z H' σ} {x : Str} (hL : (i, P) ∈ L) (hN : X.N[i]? = some x := by rfl) (hv : Vis X.env.scope x := by first | exact Or.inl rfl | exact Or.inr (Or.inl rfl) | exact Or.inr (Or.inr rfl)) (hd : (x == ("__debug__" : Str)) = false := by decide) (hcd : (x == ("__classdict__" : Str)) = false := by decide) : RX X (.Name x pos) (ivS X.K ph δ L Z hZ) P :=
  rx_var (fun σ H hp => slV_get hp.2.1 hL) hN hv hd hcd
/-- no lists or dicts of its own are told -/
theorem sr0_set (s : SR K ph am0 σ H δ) {c : Cell} (e : δ[i]? = some c) (hc : c.free = true) (dv : Dq K (hid ph am0 H) v d) : SR K ph am0 (σ.set i (some v)) H (δ.set i (.fz d)) := by
  have := s.put e hc dv
  rwa [show amDrop am0 i = am0 from by funext j; unfold amDrop am0; split <;> rfl] at this
theorem sr0_un (s : SR K ph am0 σ H δ) {c : Cell} (e : δ[i]? = some c) : SR K ph am0 (σ.set i (some v)) H (δ.set i .un) := by
  have hi : i < δ.length := (List.getElem?_eq_some_iff.mp e).1
  refine ⟨by rw [List.length_set, List.length_set, s.len], fun j d' q => ?_, fun j b' ds' q => ?_, fun j a' q => (by cases q), fun j k a' q1 q2 => (by cases q1), s.phs, fun j a' q => ?_, fun j o q => ?_⟩
  · by_cases hj : j = i
    · subst hj
      rw [List.getElem?_set_self hi] at q
      cases q
    · rw [List.getElem?_set_ne (Ne.symm hj)] at q
      obtain ⟨v', h1, h2⟩ := s.fz j d' q
      exact ⟨v', by rw [List.getElem?_set_ne (Ne.symm hj)]; exact h1, h2⟩
  · by_cases hj : j = i
    · subst hj
      rw [List.getElem?_set_self hi] at q
      cases q
    · rw [List.getElem?_set_ne (Ne.symm hj)] at q
      obtain ⟨a2, vs2, h1, _⟩ := s.ow j b' ds' q
      cases h1
  · exact absurd (s.bas j a' q) (by intro z; cases z)
  · by_cases hj : j = i
    · subst hj
      rw [List.getElem?_set_self hi] at q
      cases q
    · rw [List.getElem?_set_ne (Ne.symm hj)] at q
      obtain ⟨a2, u, h1, _⟩ := s.od j o q
      cases h1
theorem sr0_forget (s : SR K ph am0 σ H δ) : SR K ph am0 σ H (δ.set i .un) := by
  refine ⟨by rw [List.length_set, s.len], fun j d' q => ?_, fun j b' ds' q => ?_, fun j a' q => (by cases q), fun j k a' q1 q2 => (by cases q1), s.phs, s.bas, fun j o q => ?_⟩
  · by_cases hj : j = i
    · subst hj
      rw [List.getElem?_set] at q
      split at q
      · split at q <;> cases q
      · exact absurd rfl ‹_›
    · rw [List.getElem?_set_ne (Ne.symm hj)] at q
      exact s.fz j d' q
  · by_cases hj : j = i
    · subst hj
      rw [List.getElem?_set] at q
      split at q
      · split at q <;> cases q
      · exact absurd rfl ‹_›
    · rw [List.getElem?_set_ne (Ne.symm hj)] at q
      exact s.ow j b' ds' q
  · by_cases hj : j = i
    · subst hj
      rw [List.getElem?_set] at q
      split at q
      · split at q <;> cases q
      · exact absurd rfl ‹_›
    · rw [List.getElem?_set_ne (Ne.symm hj)] at q
      exact s.od j o q
/-! ### statement rows that end with a return -/
structure RSs (X : Cx) (sts : List Stmt) (pre : L2.St → Hp → Prop) (post : Hp → V → Prop) : Prop where
  ex : ∃ t, PSs X sts t ∧ ∀ D σ H, pre σ H → (∀ v H', Same H H' → post H' v → D.rt v H') → t D σ H
variable {post : Hp → V → Prop} {sts : List Stmt} {L : List (Nat × VP)} {x : Str} {pos' : Pos}
theorem rss_ret (h : RX X e I P) : RSs X [.Return (some e) pos] I.pre P.p := by
  obtain ⟨t, p, q⟩ := h.ex
  exact ⟨⟨_, pss_one (ps_ret p), fun D σ H hp k => q σ H _ hp fun v H1 s1 _ r1 => k v H1 s1 r1⟩⟩
/-- x = e, e data -/
theorem rss_setD (hN : X.N.Nodup) (h : RX X e (ivS X.K ph δ L) (vD X.K ph d)) (t : RSs X sts (ivS X.K ph (δ.set i (.fz d)) L).pre post) (hc : (δ[i]?).all Cell.free = true := by rfl) (hl : (δ[i]?).isSome = true := by rfl) (hn : noS i L = true := by rfl)
    (hi : X.N[i]? = some x := by rfl) (hx : Loc X.env.scope x := by first | exact Or.inl rfl | exact Or.inr rfl) (hs : swapsWith e (some (.Name x pos')) pos.line X.env = pure false := by rfl)
    (hf : X.fn x = true ∨ X.env.scope.names.lookup x = some .local := by first | exact .inl rfl | exact .inr rfl) : RSs X (.Assign [.Name x pos'] e pos :: sts) (ivS X.K ph δ L).pre post := by
  obtain ⟨te, pe, qe⟩ := h.ex
  obtain ⟨ts, ps, qs⟩ := t.ex
  refine ⟨⟨_, pss_cons (ps_set hN hi hx pe hs hf) ps, fun D σ H hp k => qe σ H _ hp fun v H1 s1 p1 r1 => ?_⟩⟩
  obtain ⟨c, hc'⟩ := Option.isSome_iff_exists.mp hl
  rw [hc'] at hc
  exact qs D _ H1 ⟨sr0_set p1.1 hc' hc r1, p1.2.1.set (noS_ne hn), trivial⟩ fun u H2 s2 r2 => k u H2 (s1.trans s2) r2
/-- x = e, e what is told by P -/
theorem rss_setV (hN : X.N.Nodup) (h : RX X e (ivS X.K ph δ L) P) (t : RSs X sts (ivS X.K ph (δ.set i .un) ((i, P) :: L)).pre post) (hl : (δ[i]?).isSome = true := by rfl) (hn : noS i L = true := by rfl)
    (hi : X.N[i]? = some x := by rfl) (hx : Loc X.env.scope x := by first | exact Or.inl rfl | exact Or.inr rfl) (hs : swapsWith e (some (.Name x pos')) pos.line X.env = pure false := by rfl)
    (hf : X.fn x = true ∨ X.env.scope.names.lookup x = some .local := by first | exact .inl rfl | exact .inr rfl) : RSs X (.Assign [.Name x pos'] e pos :: sts) (ivS X.K ph δ L).pre post := by
  obtain ⟨te, pe, qe⟩ := h.ex
  obtain ⟨ts, ps, qs⟩ := t.ex
  refine ⟨⟨_, pss_cons (ps_set hN hi hx pe hs hf) ps, fun D σ H hp k => qe σ H _ hp fun v H1 s1 p1 r1 => ?_⟩⟩
  obtain ⟨c, hc'⟩ := Option.isSome_iff_exists.mp hl
  have hσ : i < σ.length := by rw [p1.1.len]; exact (List.getElem?_eq_some_iff.mp hc').1
  exact qs D _ H1 ⟨sr0_un p1.1 hc', ⟨⟨v, List.getElem?_set_self hσ, r1⟩, p1.2.1.set (noS_ne hn)⟩, trivial⟩ fun u H2 s2 r2 => k u H2 (s1.trans s2) r2
/-- a statement of plain data, at the beginning: lists of its own are told as data from then on -/
theorem rss_ds {st : Stmt} {g : MS} {δ2 : Sg} (h : DS X W st g) (hg : ∃ δ1, g δ = some (.ok .nx, δ1) ∧ δ1.map (fun c => match c with | .ow _ ds => .fz (.list ds) | .fz d => .fz d | _ => .un) = δ2) (hph : ph.ba = am0) (t : RSs X sts (ivS X.K ph δ2 []).pre post) : RSs X (st :: sts) (ivS X.K ph δ []).pre post := by
  obtain ⟨te, pe, qe⟩ := h.ex
  obtain ⟨ts, ps, qs⟩ := t.ex
  obtain ⟨δ1, hg, hm⟩ := hg
  refine ⟨⟨_, pss_cons pe ps, fun D σ H hp k => qe ph am0 σ H δ _ _ _ hp.1 hg (fun fl z => ?_) (fun c fs z => by cases z)⟩⟩
  cases z
  intro am1 σ1 H1 st1 s1
  refine qs D σ1 H1 ⟨?_, trivial, trivial⟩ fun u H2 s2 r2 => k u H2 ((step_am0 st1).trans s2) r2
  subst hm
  refine ⟨by rw [List.length_map]; exact s1.len, fun j d q => ?_, fun j b ds q => ?_, fun j a q => (by cases q), fun j k a q1 q2 => (by cases q1), s1.phs, fun j a q => (by rw [hph] at q; cases q), fun j o q => ?_⟩
  · rw [List.getElem?_map] at q
    obtain ⟨c, e1, e2⟩ := Option.map_eq_some_iff.mp q
    cases c with
    | un => cases e2
    | od o => cases e2
    | fz d' =>
      cases e2
      obtain ⟨v, h1, h2⟩ := s1.fz j _ e1
      exact ⟨v, h1, dp_mono hid_am0 h2⟩
    | ow b ds =>
      cases e2
      obtain ⟨a, vs, h1, h2, h3, h4, _⟩ := s1.ow j b ds e1
      refine ⟨_, h2, .lst (.inl (.inl (hid_some.mpr ⟨fun q => ?_, h3⟩))) (dps_mono hid_am0 h4)⟩
      rcases q with q | ⟨k, q⟩
      · exact (s1.amf j a h1).1 q
      · cases q
  · rw [List.getElem?_map] at q
    obtain ⟨c, e1, e2⟩ := Option.map_eq_some_iff.mp q
    cases c <;> cases e2
  · rw [List.getElem?_map] at q
    obtain ⟨c, e1, e2⟩ := Option.map_eq_some_iff.mp q
    cases c <;> cases e2
/-! ### a new list, then appended to -/
def ph0 : Fx := ⟨fun _ => False, am0⟩
def ph1 (p : Addr) : Fx := ⟨fun b => b = p, am0⟩
structure RN (X : Cx) (e : Expr) (I : Iv ph) (Ps : List VP) : Prop where
  ex : ∃ t, PE X e t ∧ ∀ σ H Q, I.pre σ H → (∀ p vs H', Same H H' → I.pre σ H' → H' p = none → AllV Ps H' vs → Q (.ref p) (upd H' p (.lst vs))) → t σ H Q
theorem rn_lst (h : RXs X es I Ps) (hl : Ps.length ≤ sizeLine) : RN X (.List es pos) I Ps := by
  obtain ⟨t, p, q⟩ := h.ex
  exact ⟨⟨_, pe_lst p, fun σ H Q hp k => q σ H _ hp fun vs H1 s1 p1 r1 => ⟨by rw [r1.length]; exact hl, fun p np => k p vs H1 s1 p1 np r1⟩⟩⟩
def zL (p : Addr) (vs : List V) (i : Nat) : Hp → L2.St → Prop := fun H σ => H p = some (.lst vs) ∧ σ[i]? = some (some (.ref p))
theorem zL_mono {p : Addr} {vs : List V} {i : Nat} : ∀ H H' σ, Same H H' → zL p vs i H σ → zL p vs i H' σ := fun _ _ _ s h => ⟨s _ _ h.1, h.2⟩
theorem rss_app {pn apos cpos pos2 : Pos} (hN : X.N.Nodup) (h : RN X e1 (ivS X.K ph0 δ L) (ds.map (vD X.K ph0)))
    (ha : ∀ p vs, RX X e2 (ivS X.K (ph1 p) (δ.set i .un) [] (zL p vs i) zL_mono) (vD X.K (ph1 p) d)) (hz : ds.length < sizeLine)
    (t : RSs X sts (ivS X.K ph0 (δ.set i (.fz (.list (ds ++ [d])))) L).pre post) (hl : (δ[i]?).isSome = true := by rfl) (hn : noS i L = true := by rfl)
    (hi : X.N[i]? = some x := by rfl) (hx : Loc X.env.scope x := by first | exact Or.inl rfl | exact Or.inr rfl) (hs : swapsWith e1 (some (.Name x pos')) pos.line X.env = pure false := by rfl)
    (hf : X.fn x = true ∨ X.env.scope.names.lookup x = some .local := by first | exact .inl rfl | exact .inr rfl)
    (hv : Vis X.env.scope x := by first | exact Or.inl rfl | exact Or.inr (Or.inl rfl) | exact Or.inr (Or.inr rfl)) (hd : (x == ("__debug__" : Str)) = false := by decide) (hcd : (x == ("__classdict__" : Str)) = false := by decide)
    (hs0 : starEach [e2] X.env = (false, eval e2 X.env) :: starEach [] X.env := by rfl)
    (hbase : attributeBase (.Name x pn) "append" X.env (eval (.Name x pn) X.env) = eval (.Name x pn) X.env := by rfl)
    (hfew : ((backTo cpos (starEach [e2] X.env)).all (fun x => !x.1) && (backToKw cpos (keywordEach [] X.env)).all (fun x => x.1.isSome)
      && decide (([e2] : List Expr).length + ([] : List Keyword).length + (if ([] : List Keyword).isEmpty then 0 else 1) < 30)) = true := by rfl)
    (hline : (apos.endLine == cpos.line) = true := by rfl) (hplain : (backTo cpos (starEach [] X.env)).any (·.1) = false := by rfl)
    (hs2 : swapsWith (.Call (.Attribute (.Name x pn) "append" apos) [e2] [] cpos) none pos2.line X.env = pure false := by rfl) :
    RSs X (.Assign [.Name x pos'] e1 pos :: .Expr (.Call (.Attribute (.Name x pn) "append" apos) [e2] [] cpos) pos2 :: sts) (ivS X.K ph0 δ L).pre post := by
  obtain ⟨te, pe, qe⟩ := h.ex
  obtain ⟨ts, ps, qs⟩ := t.ex
  -- one transformer for all p
  let I2 : Addr → List V → L2.St → Hp → Prop := fun p vs => (ivS X.K (ph1 p) (δ.set i .un) [] (zL p vs i) zL_mono).pre
  let tU : TE := fun σ H Q => ∃ p vs, I2 p vs σ H ∧ ∀ v H', Same H H' → I2 p vs σ H' → (vD X.K (ph1 p) d).p H' v → Q v H'
  have pU : PE X e2 tU := ⟨fun pins s σ H Q I ⟨p, vs, h1, h2⟩ => by
    obtain ⟨t2, p2, q2⟩ := (ha p vs).ex
    exact p2.run pins s σ H Q I (q2 σ H Q h1 h2)⟩
  refine ⟨⟨_, pss_cons (ps_set hN hi hx pe hs hf) (pss_cons (ps_expr (pe_bm PySem.F.plainAttrs_list PySem.F.slot_list_append PySem.F.type_list_append mt_append (pe_var hi hv hd hcd) (pa_cons pU pa_nil hs0) hbase hfew hline hs0 hplain) hs2) ps), fun D σ H hp k => ?_⟩⟩
  refine qe σ H _ hp fun p vs H1 s1 p1 np r1 => ?_
  obtain ⟨c, hc'⟩ := Option.isSome_iff_exists.mp hl
  have hi' : i < δ.length := (List.getElem?_eq_some_iff.mp hc').1
  have hσ : i < σ.length := by rw [p1.1.len]; exact hi'
  have sm : Same H1 (upd H1 p (.lst vs)) := same_new np
  refine ⟨.ref p, List.getElem?_set_self hσ, .inl ⟨rfl, _, .inl (.inl upd_same)⟩, ?_⟩
  refine ⟨p, vs, ⟨?_, trivial, upd_same, List.getElem?_set_self hσ⟩, fun w H2 s2 p2 r2 => ?_⟩
  · have b := sr0_un (v := .ref p) (i := i) (p1.1.same sm) hc'
    refine ⟨b.len, fun j d' q => ?_, fun j b' ds' q => ?_, fun j a' q => (by cases q), fun j k a' q1 q2 => (by cases q1), fun b hb => ?_, fun j a' q => (by cases q), fun j o q => ?_⟩
    · have s0 := sr0_un (v := .ref p) (i := i) p1.1 hc'
      obtain ⟨v', h1, h2⟩ := s0.fz j d' q
      refine ⟨v', h1, dp_mono (fun b o hb => ?_) h2⟩
      obtain ⟨_, g⟩ := hid_some.mp hb
      have ne : b ≠ p := ne_of_none g np
      have nh : ¬ Hid (ph1 p) am0 b := by
        rintro (z | ⟨k, z⟩)
        · exact ne z
        · cases z
      exact hid_some.mpr ⟨nh, by rw [upd_ne ne]; exact g⟩
    · obtain ⟨a2, vs2, h1, _⟩ := b.ow j b' ds' q
      cases h1
    · have hb : b = p := hb
      subst hb
      exact ⟨_, upd_same, mu_lst⟩
    · obtain ⟨a2, u, h1, _⟩ := b.od j o q
      cases h1
  · have r1l : vs.length = ds.length := by rw [r1.length, List.length_map]
    have z2 : H2 p = some (.lst vs) := p2.2.2.1
    refine ⟨p, vs, w, rfl, rfl, z2, by rw [r1l]; exact hz, ?_⟩
    have sF : Same H1 (upd H2 p (.lst (vs ++ [w]))) := fun b o g => by
      rw [upd_ne (ne_of_none g np)]
      exact s2 _ _ (sm _ _ g)
    have sG : Same (hid (ph1 p) am0 H2) (hid ph0 am0 (upd H2 p (.lst (vs ++ [w])))) := fun b o hb => by
      obtain ⟨g1, g2⟩ := hid_some.mp hb
      have ne : b ≠ p := fun z => g1 (.inl z)
      have nh : ¬ Hid ph0 am0 b := by
        rintro (z | ⟨k, z⟩)
        · exact z
        · cases z
      exact hid_some.mpr ⟨nh, by rw [upd_ne ne]; exact g2⟩
    have dl : Dq X.K (hid ph0 am0 (upd H2 p (.lst (vs ++ [w])))) (.ref p) (.list (ds ++ [d])) :=
      .lst (.inl (.inl (hid_some.mpr ⟨fun z => (by
        rcases z with z | ⟨k, z⟩
        · exact z
        · cases z), upd_same⟩))) ((dps_mono (hid_same sF) (allV_dq r1)).append (.cons (dp_mono sG r2) .nil))
    have s0 := sr0_set (v := .ref p) (i := i) (c := .un) (d := .list (ds ++ [d])) (δ := δ.set i .un) (sr0_forget (i := i) (p1.1.same sF)) (List.getElem?_set_self hi') rfl dl
    rw [List.set_set] at s0
    refine qs D _ _ ⟨s0, (p1.2.1.mono sF).set (noS_ne hn), trivial⟩ fun u H3 s3 r3 => k u H3 ((s1.trans sF).trans s3) r3
/-! ### for k, x in enumerate(xs): two stores of data -/
theorem rx_can {ι : Type} {Iι : ι → Iv ph} {Pι : ι → VP} (h : ∀ k, RX X e (Iι k) (Pι k)) : ∃ t, PE X e t ∧ ∀ k σ H Q, (Iι k).pre σ H → (∀ v H', Same H H' → (Iι k).pre σ H' → (Pι k).p H' v → Q v H') → t σ H Q := by
  refine ⟨fun σ H Q => ∃ k, (Iι k).pre σ H ∧ ∀ v H', Same H H' → (Iι k).pre σ H' → (Pι k).p H' v → Q v H', ⟨fun pins s σ H Q I ⟨k, h1, h2⟩ => ?_⟩, fun k σ H Q h1 h2 => ⟨k, h1, h2⟩⟩
  obtain ⟨t2, p2, q2⟩ := (h k).ex
  exact p2.run pins s σ H Q I (q2 σ H Q h1 h2)
end PD
end

section
set_option Elab.async false
set_option linter.all false
set_option maxRecDepth 100000
namespace PD
open PySem
/-! ### loops and comprehensions by what holds behind j turns -/
theorem loop_inv {set : Tg} {b : MS} {ds : List PyData} {δ : Sg} (I : Nat → Sg → Prop) (h0 : I 0 δ)
    (step : ∀ (j : Nat) (d : PyData), ds[j]? = some d → ∀ δ, I j δ → ∃ δ1 δ2, set d δ = some δ1 ∧ b δ1 = some (.ok .nx, δ2) ∧ I (j + 1) δ2) :
    ∃ δ', loopD set b ds δ = some (.ok .nx, δ') ∧ I ds.length δ' := by
  induction ds generalizing δ I with
  | nil => exact ⟨δ, rfl, h0⟩
  | cons d ds ih =>
    obtain ⟨δ1, δ2, e1, e2, h1⟩ := step 0 d rfl δ h0
    obtain ⟨δ', e3, h2⟩ := ih (δ := δ2) (fun j => I (j + 1)) h1 fun j d' q δ hi => step (j + 1) d' q δ hi
    exact ⟨δ', by unfold loopD; rw [e1]; show (match b δ1 with | some (.ok .nx, δ2) => loopD set b ds δ2 | some (.ok .ct, δ2) => loopD set b ds δ2 | some (.ok .bk, δ2) => some (.ok .nx, δ2) | r => r) = _; rw [e2]; exact e3, h2⟩
/-- .. of a comprehension without tests: the j-th element is made in a state with I j -/
theorem comp_inv {is : List Nat} {set : Tg} {el : M PyData} {ds : List PyData} {acc : List PyData} {δ : Sg} (I : Nat → List PyData → Sg → Prop) (h0 : I 0 acc δ) (hl : acc.length + ds.length ≤ 1000000)
    (step : ∀ (j : Nat) (d : PyData), ds[j]? = some d → ∀ acc δ, I j acc δ → ∃ δ1 y δ3, set d δ = some δ1 ∧ el δ1 = some (.ok y, δ3) ∧ noOw δ3 is = true ∧ I (j + 1) (acc ++ [y]) (wipeD δ3 is)) :
    ∃ acc' δ', compD is set (PD.ret true) el ds acc δ = some (acc', δ') ∧ I ds.length acc' δ' := by
  induction ds generalizing δ acc I with
  | nil => exact ⟨acc, δ, rfl, h0⟩
  | cons d ds ih =>
    obtain ⟨δ1, y, δ3, e1, e2, n, h1⟩ := step 0 d rfl acc δ h0
    have hl' : (acc ++ [y]).length + ds.length ≤ 1000000 := by simp at hl ⊢; omega
    obtain ⟨acc', δ', e3, h2⟩ := ih (δ := wipeD δ3 is) (acc := acc ++ [y]) (fun j => I (j + 1)) h1 hl' fun j d' q a δ hi => step (j + 1) d' q a δ hi
    refine ⟨acc', δ', ?_, h2⟩
    have hs : acc.length < sizeLine := by rw [sizeLine_eq]; simp at hl; omega
    unfold compD
    simp only [e1, e2, PD.ret, hs, n, and_self, if_true, e3]
/-- .. whose elements leave the state as it was -/
theorem comp_map {is : List Nat} {set : Tg} {el : M PyData} {ds : List PyData} {acc : List PyData} {δ : Sg} (f : PyData → PyData) (hl : acc.length + ds.length ≤ 1000000)
    (step : ∀ d, d ∈ ds → ∃ δ1 δ3, set d δ = some δ1 ∧ el δ1 = some (.ok (f d), δ3) ∧ noOw δ3 is = true ∧ wipeD δ3 is = δ) :
    compD is set (PD.ret true) el ds acc δ = some (acc ++ ds.map f, δ) := by
  induction ds generalizing acc with
  | nil => simp [compD]
  | cons d ds ih =>
    obtain ⟨δ1, δ3, e1, e2, n, h1⟩ := step d (List.mem_cons_self ..)
    have hs : acc.length < sizeLine := by rw [sizeLine_eq]; simp at hl; omega
    unfold compD
    simp only [e1, e2, PD.ret, hs, n, and_self, if_true, h1]
    have q := ih (acc := acc ++ [f d]) (by simp at hl ⊢; omega) fun d' h => step d' (List.mem_cons_of_mem _ h)
    unfold PD.ret at q
    rw [q]
    simp
theorem pairL_ints : ∀ l m : List Int, pairL (l.map .int) (m.map .int) = List.zipWith (fun x y => PyData.tuple [.int x, .int y]) l m
  | [], _ => by simp [pairL]
  | _ :: _, [] => by simp [pairL]
  | x :: l, y :: m => by simp [pairL, pairL_ints l m]
theorem xComp_eq {it : M (List PyData)} {is : List Nat} {set : Tg} {t : M Bool} {el : M PyData} {δ δ1 δ' : Sg} {ds acc : List PyData} (h : it δ = some (.ok ds, δ1)) (n : noOw δ1 is = true) (hc : compD is set t el ds [] (wipeD δ1 is) = some (acc, δ')) :
    xComp it is set t el δ = some (.ok acc, backD δ1 δ' is) := by
  unfold xComp bnd
  rw [h]
  simp only [n, if_true, hc]
theorem bnd_eq {α β : Type} {f : M α} {g : α → M β} {δ δ1 : Sg} {a : α} (h : f δ = some (.ok a, δ1)) : bnd f g δ = g a δ1 := by
  unfold bnd
  rw [h]
theorem sSeq_eq {f g : MS} {δ δ1 : Sg} (h : f δ = some (.ok .nx, δ1)) : sSeq f g δ = g δ1 := by
  unfold sSeq
  rw [h]
end PD
end

section
set_option Elab.async false
set_option linter.all false
set_option maxRecDepth 100000
namespace PD
open PySem
/-! ### what holds behind a run of a plain function: rules by the head of the term -/
def Gd {α : Type} (f : M α) (δ : Sg) (Q : α → Sg → Prop) : Prop := ∃ a δ', f δ = some (.ok a, δ') ∧ Q a δ'
inductive At : Sg → Nat → Cell → Prop
  | z {c : Cell} {δ : Sg} : At (c :: δ) 0 c
  | s {c d : Cell} {δ : Sg} {i : Nat} : At δ i c → At (d :: δ) (i + 1) c
inductive Put : Sg → Nat → Cell → Sg → Prop
  | z {c d : Cell} {δ : Sg} : Put (d :: δ) 0 c (c :: δ)
  | s {c d : Cell} {δ δ' : Sg} {i : Nat} : Put δ i c δ' → Put (d :: δ) (i + 1) c (d :: δ')
theorem At.get {δ : Sg} {i : Nat} {c : Cell} (h : At δ i c) : δ[i]? = some c := by
  induction h with
  | z => rfl
  | s _ ih => simpa using ih
theorem Put.set {δ δ' : Sg} {i : Nat} {c : Cell} (h : Put δ i c δ') : δ.set i c = δ' := by
  induction h with
  | z => rfl
  | s _ ih => simp [ih]
variable {α β : Type} {δ δ' δ1 : Sg} {i : Nat} {d : PyData} {ds os : List PyData}
theorem Gd.imp {f : M α} {Q R : α → Sg → Prop} (h : Gd f δ Q) (q : ∀ a δ', Q a δ' → R a δ') : Gd f δ R :=
  let ⟨a, δ', e, h⟩ := h
  ⟨a, δ', e, q a δ' h⟩
theorem w_eq {f : M α} {Q : α → Sg → Prop} {a : α} (e : f δ = some (.ok a, δ')) (h : Q a δ') : Gd f δ Q := ⟨a, δ', e, h⟩
theorem Gd.eq {f : M α} {a : α} (h : Gd f δ fun x y => x = a ∧ y = δ') : f δ = some (.ok a, δ') := by
  obtain ⟨x, y, e, rfl, rfl⟩ := h
  exact e
theorem w_ret {a : α} {Q : α → Sg → Prop} (h : Q a δ) : Gd (ret a) δ Q := ⟨a, δ, rfl, h⟩
theorem w_bnd {f : M α} {g : α → M β} {Q : β → Sg → Prop} (h : Gd f δ fun a δ1 => Gd (g a) δ1 Q) : Gd (bnd f g) δ Q := by
  obtain ⟨a, δ1, e, b, δ2, e2, h⟩ := h
  exact ⟨b, δ2, by rw [bnd_eq e, e2], h⟩
theorem w_lif {o : Option α} {a : α} {Q : α → Sg → Prop} (e : o = some a) (h : Q a δ) : Gd (lif o) δ Q := ⟨a, δ, by rw [e]; rfl, h⟩
theorem w_var {Q : PyData → Sg → Prop} (a : At δ i (.fz d)) (h : Q d δ) : Gd (xVar i) δ Q := ⟨d, δ, by unfold xVar; rw [a.get], h⟩
theorem w_varO {Q : PyData → Sg → Prop} (a : At δ i (.ow false ds)) (p : Put δ i (.fz (.list ds)) δ') (h : Q (.list ds) δ') : Gd (xVar i) δ Q := ⟨.list ds, δ', by unfold xVar; rw [a.get]; dsimp only; rw [p.set], h⟩
theorem w_bin {F : PyData → PyData → Option PyData} {f g : M PyData} {Q : PyData → Sg → Prop} (h : Gd f δ fun a δ1 => Gd g δ1 fun b δ2 => Gd (lif (F a b)) δ2 Q) : Gd (xBin F f g) δ Q := w_bnd (h.imp fun _ _ h => w_bnd h)
theorem w_un {F : PyData → Option PyData} {f : M PyData} {Q : PyData → Sg → Prop} (h : Gd f δ fun a δ1 => Gd (lif (F a)) δ1 Q) : Gd (xUn F f) δ Q := w_bnd h
theorem w_binF {F : PyData → PyData → Option (List PyData)} {f g : M PyData} {Q : List PyData → Sg → Prop} (h : Gd f δ fun a δ1 => Gd g δ1 fun b δ2 => Gd (lif (F a b)) δ2 Q) : Gd (xBinF F f g) δ Q := w_bnd (h.imp fun _ _ h => w_bnd h)
theorem w_tup {fs : M (List PyData)} {Q : PyData → Sg → Prop} (h : Gd fs δ fun ds δ1 => ds.length ≤ 1000000 ∧ Q (.tuple ds) δ1) : Gd (xTup fs) δ Q :=
  w_bnd (h.imp fun ds _ h => w_lif (if_pos (Nat.le_trans h.1 (by rw [sizeLine_eq]; decide))) h.2)
theorem w_lst {fs : M (List PyData)} {Q : List PyData → Sg → Prop} (h : Gd fs δ fun ds δ1 => ds.length ≤ 1000000 ∧ Q ds δ1) : Gd (xLst fs) δ Q :=
  w_bnd (h.imp fun ds _ h => w_lif (if_pos (Nat.le_trans h.1 (by rw [sizeLine_eq]; decide))) h.2)
theorem w_call {F : List PyData → Option PyData} {fs : M (List PyData)} {Q : PyData → Sg → Prop} (h : Gd fs δ fun ds δ1 => Gd (lif (F ds)) δ1 Q) : Gd (xCall F fs) δ Q := w_bnd h
theorem w_callF {F : List PyData → Option (List PyData)} {fs : M (List PyData)} {Q : List PyData → Sg → Prop} (h : Gd fs δ fun ds δ1 => Gd (lif (F ds)) δ1 Q) : Gd (xCallF F fs) δ Q := w_bnd h
theorem w_callF' {F : List PyData → Option (List PyData)} {fs : M (List PyData)} {Q : List PyData → Sg → Prop} (h : Gd fs δ fun ds δ1 => Gd (lif (F ds)) δ1 Q) : Gd (xCallF' F fs) δ Q := w_bnd h
theorem w_seqv {f : M PyData} {Q : List PyData → Sg → Prop} (h : Gd f δ fun d δ1 => Gd (lif (seqD d)) δ1 Q) : Gd (xSeq f) δ Q := w_bnd h
theorem w_tru {f : M PyData} {Q : Bool → Sg → Prop} (h : Gd f δ fun d δ1 => Gd (lif (truthD d)) δ1 Q) : Gd (xTru f) δ Q := w_bnd h
theorem w_bool {f : M PyData} {Q : Bool → Sg → Prop} (h : Gd f δ fun d δ1 => Gd (lif (boolD d)) δ1 Q) : Gd (xBool f) δ Q := w_bnd h
theorem w_cond {b : Bool} {f g : M α} {Q : α → Sg → Prop} (h : Gd (cond b f g) δ Q) : Gd (if b = true then f else g) δ Q := by cases b <;> exact h
theorem w_andT {f g : M Bool} {Q : Bool → Sg → Prop} (h : Gd f δ fun b δ1 => Gd (cond b g (ret false)) δ1 Q) : Gd (xAndT f g) δ Q := w_bnd (h.imp fun _ _ h => w_cond h)
theorem w_orT {f g : M Bool} {Q : Bool → Sg → Prop} (h : Gd f δ fun b δ1 => Gd (cond b (ret true) g) δ1 Q) : Gd (xOrT f g) δ Q := w_bnd (h.imp fun _ _ h => w_cond h)
theorem w_notT {f : M Bool} {Q : Bool → Sg → Prop} (h : Gd f δ fun b δ1 => Q (!b) δ1) : Gd (xNotT f) δ Q := w_bnd (h.imp fun _ _ h => w_ret h)
/-- `and` by what the left side is -/
theorem w_and {f g : M PyData} {Q : PyData → Sg → Prop} (h : Gd f δ fun d δ1 => ∃ b, d = .bool b ∧ Gd (cond b g (ret (.bool false))) δ1 Q) : Gd (xAnd f g) δ Q :=
  w_bnd (h.imp fun d _ h => by
    obtain ⟨b, rfl, h⟩ := h
    cases b
    · exact h
    · exact h)
theorem w_or {f g : M PyData} {Q : PyData → Sg → Prop} (h : Gd f δ fun d δ1 => ∃ b, d = .bool b ∧ Gd (cond b (ret (.bool true)) g) δ1 Q) : Gd (xOr f g) δ Q :=
  w_bnd (h.imp fun d _ h => by
    obtain ⟨b, rfl, h⟩ := h
    cases b
    · exact h
    · exact h)
theorem w_not {f : M PyData} {Q : PyData → Sg → Prop} (h : Gd f δ fun d δ1 => ∃ b, d = .bool b ∧ Q (.bool (!b)) δ1) : Gd (xNot f) δ Q :=
  w_bnd (h.imp fun d _ h => by
    obtain ⟨b, rfl, h⟩ := h
    exact w_ret h)
theorem w_if {c : M Bool} {f g : M α} {Q : α → Sg → Prop} (h : Gd c δ fun b δ1 => Gd (cond b f g) δ1 Q) : Gd (xIf c f g) δ Q := w_bnd (h.imp fun _ _ h => w_cond h)
theorem w_it {f g : M α} {Q : α → Sg → Prop} (h : Gd f δ Q) : Gd (cond true f g) δ Q := h
theorem w_ie {f g : M α} {Q : α → Sg → Prop} (h : Gd g δ Q) : Gd (cond false f g) δ Q := h
theorem w_by {b : Bool} {f g : M α} {Q : α → Sg → Prop} (h : b = true → Gd f δ Q) (k : b = false → Gd g δ Q) : Gd (cond b f g) δ Q := by
  cases b
  · exact k rfl
  · exact h rfl
theorem w_chain {F G : PyData → PyData → Option PyData} {f g h : M PyData} {Q : PyData → Sg → Prop} (q : Gd f δ fun a δ1 => Gd g δ1 fun b δ2 => ∃ z, F a b = some (.bool z) ∧ Gd (cond z (bnd h fun c => lif (G b c)) (ret (.bool false))) δ2 Q) : Gd (xChain F G f g h) δ Q :=
  w_bnd (q.imp fun a _ q => w_bnd (q.imp fun b δ2 q => by
    obtain ⟨z, e, q⟩ := q
    refine w_bnd (w_lif e ?_)
    cases z
    · exact q
    · exact q))
/-! statements -/
def Nx (h : MS) (Q : Flo → Sg → Prop) (fl : Flo) (δ : Sg) : Prop := match fl with
  | .nx => Gd h δ Q
  | fl => Q fl δ
theorem nx_nx {h : MS} {Q : Flo → Sg → Prop} (q : Gd h δ Q) : Nx h Q .nx δ := q
theorem nx_rt {h : MS} {Q : Flo → Sg → Prop} (q : Q (.rt d) δ) : Nx h Q (.rt d) δ := q
theorem nx_rf {h : MS} {Q : Flo → Sg → Prop} (q : Q (.rf ds) δ) : Nx h Q (.rf ds) δ := q
theorem nx_bk {h : MS} {Q : Flo → Sg → Prop} (q : Q .bk δ) : Nx h Q .bk δ := q
theorem nx_ct {h : MS} {Q : Flo → Sg → Prop} (q : Q .ct δ) : Nx h Q .ct δ := q
theorem w_seq {g h : MS} {Q : Flo → Sg → Prop} (q : Gd g δ (Nx h Q)) : Gd (sSeq g h) δ Q := by
  obtain ⟨fl, δ1, e, q⟩ := q
  cases fl with
  | nx =>
    obtain ⟨a, δ2, e2, q⟩ := (q : Gd h δ1 Q)
    exact ⟨a, δ2, by rw [sSeq_eq e, e2], q⟩
  | bk => exact ⟨_, _, by unfold sSeq; rw [e], q⟩
  | ct => exact ⟨_, _, by unfold sSeq; rw [e], q⟩
  | rt d => exact ⟨_, _, by unfold sSeq; rw [e], q⟩
  | rf d => exact ⟨_, _, by unfold sSeq; rw [e], q⟩
  | ro d => exact ⟨_, _, by unfold sSeq; rw [e], q⟩
theorem w_skip {Q : Flo → Sg → Prop} (h : Q .nx δ) : Gd sSkip δ Q := w_ret h
theorem w_sret {f : M PyData} {Q : Flo → Sg → Prop} (h : Gd f δ fun d δ1 => Q (.rt d) δ1) : Gd (sRet f) δ Q := w_bnd (h.imp fun _ _ h => w_ret h)
theorem w_sretF {f : M (List PyData)} {Q : Flo → Sg → Prop} (h : Gd f δ fun d δ1 => Q (.rf d) δ1) : Gd (sRetF f) δ Q := w_bnd (h.imp fun _ _ h => w_ret h)
theorem w_sif {c : M Bool} {g h : MS} {Q : Flo → Sg → Prop} (q : Gd c δ fun b δ1 => Gd (cond b g h) δ1 Q) : Gd (sIf c g h) δ Q := w_bnd (q.imp fun _ _ h => w_cond h)
def Gs (s : Tg) (d : PyData) (δ : Sg) (Q : Sg → Prop) : Prop := ∃ δ', s d δ = some δ' ∧ Q δ'
def Gss (s : Tgs) (ds : List PyData) (δ : Sg) (Q : Sg → Prop) : Prop := ∃ δ', s ds δ = some δ' ∧ Q δ'
theorem w_name {Q : Sg → Prop} {c : Cell} (a : At δ i c) (f : c.free = true) (p : Put δ i (.fz d) δ') (h : Q δ') : Gs (sName i) d δ Q := ⟨δ', by unfold sName; rw [a.get]; dsimp only; rw [if_pos f, p.set], h⟩
theorem w_snil {Q : Sg → Prop} (h : Q δ) : Gss sNil [] δ Q := ⟨δ, rfl, h⟩
theorem w_scons {s : Tg} {r : Tgs} {Q : Sg → Prop} (h : Gs s d δ fun δ1 => Gss r ds δ1 Q) : Gss (sCons s r) (d :: ds) δ Q := by
  obtain ⟨δ1, e, δ2, e2, h⟩ := h
  exact ⟨δ2, by unfold sCons; dsimp only; rw [e]; exact e2, h⟩
theorem w_stup {n : Nat} {r : Tgs} {Q : Sg → Prop} (l : ds.length = n) (h : Gss r ds δ Q) : Gs (sTup n r) (.tuple ds) δ Q := by
  obtain ⟨δ1, e, h⟩ := h
  exact ⟨δ1, by unfold sTup; dsimp only; rw [if_pos l]; exact e, h⟩
theorem w_asg {f : M PyData} {s : Tg} {Q : Flo → Sg → Prop} (h : Gd f δ fun d δ1 => Gs s d δ1 (Q .nx)) : Gd (sAsg f s) δ Q := w_bnd (h.imp fun d δ1 h => by
  obtain ⟨δ2, e, h⟩ := h
  exact ⟨.nx, δ2, by dsimp only; rw [e], h⟩)
theorem w_own {f : M (List PyData)} {Q : Flo → Sg → Prop} (h : Gd f δ fun ds δ1 => ∃ c δ2, At δ1 i c ∧ c.free = true ∧ Put δ1 i (.ow false ds) δ2 ∧ Q .nx δ2) : Gd (sOwn f i) δ Q := w_bnd (h.imp fun ds δ1 h => by
  obtain ⟨c, δ2, a, f, p, h⟩ := h
  exact ⟨.nx, δ2, by dsimp only; rw [a.get]; dsimp only; rw [if_pos f, p.set], h⟩)
theorem w_ixO {g : M PyData} {b : Bool} {Q : PyData → Sg → Prop} (a : At δ i (.ow b ds)) (h : Gd g δ fun k δ1 => ∃ b' ds', At δ1 i (.ow b' ds') ∧ Gd (lif (ixD (.list ds') k)) δ1 Q) : Gd (xIxO i g) δ Q := by
  obtain ⟨k, δ1, e, b', ds', a', h⟩ := h
  obtain ⟨v, δ2, e2, h⟩ := h
  exact ⟨v, δ2, by unfold xIxO; rw [a.get]; try dsimp only; rw [bnd_eq e]; (try dsimp only); rw [a'.get]; exact e2, h⟩
theorem w_lenO {b : Bool} {Q : PyData → Sg → Prop} (a : At δ i (.ow b ds)) (h : Q (.int ds.length) δ) : Gd (xLenO i) δ Q := ⟨_, _, by unfold xLenO; rw [a.get], h⟩
theorem w_app {f : M PyData} {b : Bool} {Q : Flo → Sg → Prop} (a : At δ i (.ow b ds)) (h : Gd f δ fun d δ1 => ∃ b' ds' δ2, At δ1 i (.ow b' ds') ∧ ds'.length < 1000000 ∧ Put δ1 i (.ow b' (ds' ++ [d])) δ2 ∧ Q .nx δ2) : Gd (sApp i f) δ Q := by
  obtain ⟨k, δ1, e, b', ds', δ2, a', l, p, h⟩ := h
  exact ⟨.nx, δ2, by unfold sApp; rw [a.get]; dsimp only; rw [bnd_eq e]; (try dsimp only); rw [a'.get]; dsimp only; rw [if_pos (Nat.lt_of_lt_of_le l (by rw [sizeLine_eq]; decide)), p.set], h⟩
theorem w_sub {f g : M PyData} {Q : Flo → Sg → Prop} (h : Gd f δ fun d δ1 => ∃ b ds, At δ1 i (.ow b ds) ∧ Gd g δ1 fun k δ2 => ∃ b' ds' n j δ3, k = .int n ∧ At δ2 i (.ow b' ds') ∧ L2.ixN ds'.length n = some j ∧ Put δ2 i (.ow b' (ds'.set j d)) δ3 ∧ Q .nx δ3) : Gd (sSub f i g) δ Q := w_bnd (h.imp fun d δ1 h => by
  obtain ⟨b, ds, a, k, δ2, e, b', ds', n, j, δ3, rfl, a', ej, p, h⟩ := h
  exact ⟨.nx, δ3, by dsimp only; rw [a.get]; dsimp only; rw [bnd_eq e]; (try dsimp only); rw [a'.get]; dsimp only; rw [ej]; dsimp only; rw [p.set], h⟩)
theorem w_cmpO {F : PyData → PyData → Option PyData} {g : M PyData} {b : Bool} {Q : PyData → Sg → Prop} (a : At δ i (.ow b ds)) (h : Gd g δ fun k δ1 => ∃ b' ds' c, At δ1 i (.ow b' ds') ∧ F (.list ds') k = some (.bool c) ∧ Q (.bool c) δ1) : Gd (xCmpO F i g) δ Q := by
  obtain ⟨k, δ1, e, b', ds', c, a', e2, h⟩ := h
  exact ⟨_, δ1, by unfold xCmpO; rw [a.get]; dsimp only; rw [bnd_eq e]; (try dsimp only); rw [a'.get]; dsimp only; rw [e2], h⟩
/-! calls -/
theorem w_def {G : Sg → Option (Ans PyData × Sg)} {fs : M (List PyData)} {Q : PyData → Sg → Prop} (h : Gd fs δ fun ds δ1 => ∃ d o, G (ds.map .fz) = some (.ok d, o) ∧ Q d δ1) : Gd (xDef G fs) δ Q := w_bnd (h.imp fun ds δ1 h => by
  obtain ⟨d, o, e, h⟩ := h
  exact ⟨d, δ1, by dsimp only; rw [e], h⟩)
theorem w_defF {G : Sg → Option (Ans (List PyData) × Sg)} {fs : M (List PyData)} {Q : List PyData → Sg → Prop} (h : Gd fs δ fun ds δ1 => ∃ d o, G (ds.map .fz) = some (.ok d, o) ∧ Q d δ1) : Gd (xDefF G fs) δ Q := w_bnd (h.imp fun ds δ1 h => by
  obtain ⟨d, o, e, h⟩ := h
  exact ⟨d, δ1, by dsimp only; rw [e], h⟩)
theorem w_defT {G : Sg → Option (Ans PyData × Sg)} {fs : M (List PyData)} {Q : PyData → Sg → Prop} (h : Gd fs δ fun ds δ1 => ∃ d o, G [.ow true ds] = some (.ok d, o) ∧ Q d δ1) : Gd (xDefT G fs) δ Q := w_bnd (h.imp fun ds δ1 h => by
  obtain ⟨d, o, e, h⟩ := h
  exact ⟨d, δ1, by dsimp only; rw [e], h⟩)
theorem w_defO {G : Sg → Option (Ans PyData × Sg)} {fs : M (List PyData)} {b : Bool} {Q : PyData → Sg → Prop} (a : At δ i (.ow b os)) (h : Gd fs δ fun ds δ1 => ∃ b' os' b'' os'' d o δ2, At δ1 i (.ow b' os') ∧ G (.ow true os' :: ds.map .fz) = some (.ok d, .ow b'' os'' :: o) ∧ Put δ1 i (.ow b' os'') δ2 ∧ Q d δ2) : Gd (xDefO G i fs) δ Q := by
  obtain ⟨ds, δ1, e, b', os', b'', os'', d, o, δ2, a', e2, p, h⟩ := h
  exact ⟨d, δ2, by unfold xDefO; rw [a.get]; dsimp only; rw [bnd_eq e]; (try dsimp only); rw [a'.get]; dsimp only; rw [e2]; dsimp only; rw [p.set], h⟩
theorem w_def2 {G : Sg → Option (Ans PyData × Sg)} {j : Nat} {b c b1 b2 : Bool} {os us os' us' : List PyData} {δ1 δ2 : Sg} {Q : PyData → Sg → Prop} (a : At δ i (.ow b os)) (a2 : At δ j (.ow c us)) (n : i ≠ j)
    (e : G [.ow true os, .ow true us] = some (.ok d, [.ow b1 os', .ow b2 us'])) (p : Put δ i (.ow b os') δ1) (p2 : Put δ1 j (.ow c us') δ2) (h : Q d δ2) : Gd (xDef2 G i j) δ Q :=
  ⟨d, δ2, by unfold xDef2; rw [a.get, a2.get]; dsimp only; rw [if_pos n, e]; dsimp only; rw [p.set, p2.set], h⟩
theorem w_orF {f g : M (List PyData)} {Q : List PyData → Sg → Prop} (h : Gd f δ fun ds δ1 => Gd (cond ds.isEmpty g (ret ds)) δ1 Q) : Gd (xOrF f g) δ Q := w_bnd (h.imp fun _ _ h => w_cond h)
theorem w_part {f : M PyData} {Q : Option Int → Sg → Prop} (h : Gd f δ fun d δ1 => ∃ n, d = .int n ∧ Q (some n) δ1) : Gd (xPart f) δ Q := w_bnd (h.imp fun d δ1 h => by
  obtain ⟨n, rfl, h⟩ := h
  exact w_lif rfl h)
theorem w_sl {f : M PyData} {lo hi : M (Option Int)} {Q : PyData → Sg → Prop} (h : Gd f δ fun d δ1 => Gd lo δ1 fun l δ2 => Gd hi δ2 fun u δ3 => Gd (lif (sliceD d l u)) δ3 Q) : Gd (xSl f lo hi) δ Q := w_bnd (h.imp fun _ _ h => w_bnd (h.imp fun _ _ h => w_bnd h))
theorem w_repF {fs : M (List PyData)} {g : M PyData} {Q : List PyData → Sg → Prop} (h : Gd fs δ fun ds δ1 => Gd g δ1 fun b δ2 => ∃ n : Nat, b = .int n ∧ ds.length * n ≤ 1000000 ∧ n ≤ 1000000 ∧ Q (List.replicate n ds).flatten δ2) : Gd (xRepF fs g) δ Q := w_bnd (h.imp fun ds _ h => w_bnd (h.imp fun b _ h => by
  obtain ⟨n, rfl, l, l2, h⟩ := h
  refine w_lif ?_ h
  dsimp only
  rw [if_pos ⟨by omega, by omega, Nat.le_trans (by simpa using l) (by rw [sizeLine_eq]; decide)⟩]
  simp))
/-! loops and comprehensions -/
theorem w_loop {set : Tg} {b : MS} {Q : Flo → Sg → Prop} (I : Nat → Sg → Prop) (h0 : I 0 δ)
    (step : ∀ (j : Nat) (d : PyData), ds[j]? = some d → ∀ δ, I j δ → Gs set d δ fun δ1 => Gd b δ1 fun fl δ2 => fl = .nx ∧ I (j + 1) δ2) (h : ∀ δ', I ds.length δ' → Q .nx δ') : Gd (loopD set b ds) δ Q := by
  obtain ⟨δ', e, q⟩ := loop_inv (set := set) (b := b) I h0 fun j d e δ hi => by
    obtain ⟨δ1, e1, fl, δ2, e2, rfl, h⟩ := step j d e δ hi
    exact ⟨δ1, δ2, e1, e2, h⟩
  exact ⟨.nx, δ', e, h δ' q⟩
theorem w_for {it : M (List PyData)} {set : Tg} {b : MS} {Q : Flo → Sg → Prop} (h : Gd it δ fun ds δ1 => Gd (loopD set b ds) δ1 Q) : Gd (sFor it set b) δ Q := w_bnd h
/-- the names of a comprehension: wiped and given back -/
theorem w_comp {it : M (List PyData)} {is : List Nat} {set : Tg} {t : M Bool} {el : M PyData} {Q : List PyData → Sg → Prop}
    (h : Gd it δ fun ds δ1 => noOw δ1 is = true ∧ ∃ acc δ2, compD is set t el ds [] (wipeD δ1 is) = some (acc, δ2) ∧ Q acc (backD δ1 δ2 is)) : Gd (xComp it is set t el) δ Q := by
  obtain ⟨ds, δ1, e, n, acc, δ2, e2, h⟩ := h
  exact ⟨acc, _, xComp_eq e n e2, h⟩
/-- a comprehension whose elements are made by a plain function and leave the state -/
theorem comp_fun {is : List Nat} {set : Tg} {el : M PyData} (f : PyData → PyData) (hl : ds.length ≤ 1000000)
    (step : ∀ d, d ∈ ds → Gs set d δ fun δ1 => Gd el δ1 fun y δ3 => y = f d ∧ noOw δ3 is = true ∧ wipeD δ3 is = δ) : compD is set (ret true) el ds [] δ = some (ds.map f, δ) := by
  have q := comp_map (is := is) (set := set) (el := el) (ds := ds) (acc := []) (δ := δ) f (by simpa using hl) fun d hd => by
    obtain ⟨δ1, e1, y, δ3, e2, rfl, n, w⟩ := step d hd
    exact ⟨δ1, δ3, e1, e2, n, w⟩
  simpa using q
theorem w_runD {m : Nat} {g : MS} {cells out : Sg} (h : Gd g (cells ++ List.replicate (m - cells.length) .un) fun fl δ' => fl = .rt d ∧ keepO cells δ' = some out) : runD m g cells = some (.ok d, out) := by
  obtain ⟨fl, δ', e, rfl, k⟩ := h
  unfold runD
  rw [e]
  dsimp only
  rw [k]
  rfl
theorem w_runDF {m : Nat} {g : MS} {cells out : Sg} (h : Gd g (cells ++ List.replicate (m - cells.length) .un) fun fl δ' => fl = .rf ds ∧ keepO cells δ' = some out) : runD m g cells = some (.ok (.list ds), out) := by
  obtain ⟨fl, δ', e, rfl, k⟩ := h
  unfold runD
  rw [e]
  dsimp only
  rw [k]
  rfl
theorem w_runF {m : Nat} {g : MS} {cells out : Sg} (h : Gd g (cells ++ List.replicate (m - cells.length) .un) fun fl δ' => fl = .rf ds ∧ keepO cells δ' = some out) : runF m g cells = some (.ok ds, out) := by
  obtain ⟨fl, δ', e, rfl, k⟩ := h
  unfold runF
  rw [e]
  dsimp only
  rw [k]
  rfl
/-! operations at numbers -/
theorem o_add (x y : Int) : addD (.int x) (.int y) = some (.int (x + y)) := rfl
theorem o_sub (x y : Int) : subD (.int x) (.int y) = some (.int (x - y)) := rfl
theorem o_mul {x y : Int} (h : mulOk x y = true) : mulD (.int x) (.int y) = some (.int (x * y)) := by unfold mulD mulI intsD; dsimp only; rw [if_pos h]
theorem o_mod {x y : Int} (h : y ≠ 0) : modD (.int x) (.int y) = some (.int (x.fmod y)) := by unfold modD intsD; dsimp only; rw [if_pos (by simpa using h)]
theorem o_div {x y : Int} (h : divOk y = true) : fdivD (.int x) (.int y) = some (.int (x.fdiv y)) := by unfold fdivD intsD; dsimp only; rw [if_pos h]
theorem o_lt (x y : Int) : ltD (.int x) (.int y) = some (.bool (decide (x < y))) := rfl
theorem o_le (x y : Int) : leD (.int x) (.int y) = some (.bool (decide (x ≤ y))) := rfl
theorem o_gt (x y : Int) : gtD (.int x) (.int y) = some (.bool (decide (y < x))) := rfl
theorem o_ge (x y : Int) : geD (.int x) (.int y) = some (.bool (decide (y ≤ x))) := rfl
theorem o_eqI (x y : Int) : eqD (.int x) (.int y) = some (.bool (decide (x = y))) := by simp [eqD, SeqAt.shaped, PyData.eqv, PyData.canLay0, PyData.depth]; rfl
theorem o_zip {a b : PyData} {xs ys : List PyData} (h : seqD a = some xs) (h2 : seqD b = some ys) : zipD [a, b] = some (pairL xs ys) := by unfold zipD; dsimp only; rw [h, h2]
theorem o_bools (bs : List Bool) : bools? (bs.map .bool) = some bs := by
  induction bs with
  | nil => rfl
  | cons b bs ih => simp [bools?, ih]
theorem o_all (bs : List Bool) : allD [.list (bs.map .bool)] = some (.bool (bs.all id)) := by unfold allD; dsimp only; rw [o_bools]; rfl
theorem o_tup0 (n : Nat) (h : n ≤ 1000) : mulD (.tuple [.int 0]) (.int (n : Int)) = some (.tuple ((List.replicate n (0 : Int)).map .int)) := by
  simp [mulD, mulI, intsD, repT]
  omega
theorem noOw_nil : noOw δ [] = true := rfl
theorem free_un : Cell.free .un = true := rfl
theorem free_fz {d : PyData} : Cell.free (.fz d) = true := rfl
theorem free_ow {ds : List PyData} : Cell.free (.ow false ds) = true := rfl
theorem len1 {a : PyData} : [a].length = 1 := rfl
theorem len2 {a b : PyData} : [a, b].length = 2 := rfl
theorem len3 {a b c : PyData} : [a, b, c].length = 3 := rfl
theorem len_and {ds : List PyData} {R : Prop} (l : ds.length ≤ 1000000) (h : R) : ds.length ≤ 1000000 ∧ R := ⟨l, h⟩
end PD
end

local macro_rules | `(tactic| walk_at "wp") => `(tactic| (repeat' (with_reducible first | apply PD.w_bnd | apply PD.w_ret | (apply PD.w_var; (focus ((repeat (first | exact PD.At.z | apply PD.At.s)); done))) | apply PD.w_bin | apply PD.w_un | apply PD.w_binF | apply PD.w_tup | apply PD.w_lst | apply PD.w_call | apply PD.w_callF' | apply PD.w_callF | apply PD.w_seqv | apply PD.w_tru | apply PD.w_bool | apply PD.w_andT | apply PD.w_orT | apply PD.w_notT | apply PD.w_and | apply PD.w_or | apply PD.w_not | apply PD.w_if | apply PD.w_it | apply PD.w_ie | apply PD.w_chain | apply PD.w_seq | apply PD.nx_nx | apply PD.nx_rt | apply PD.nx_rf | apply PD.w_skip | apply PD.w_sret | apply PD.w_sretF | apply PD.w_sif | apply PD.w_asg | apply PD.w_for | apply PD.w_own | (apply PD.w_name; (focus ((repeat (first | exact PD.At.z | apply PD.At.s)); done)); (first | exact PD.free_fz | exact PD.free_un | exact PD.free_ow | assumption); (focus ((repeat (first | exact PD.Put.z | apply PD.Put.s)); done))) | apply PD.w_snil | apply PD.w_scons | (apply PD.w_stup; first | exact PD.len2 | exact PD.len3 | exact PD.len1) | apply PD.w_def | apply PD.w_defF | apply PD.w_defT | apply PD.w_orF | apply PD.w_part | apply PD.w_sl | apply PD.w_repF | apply PD.w_comp | (apply PD.len_and; (focus (simp only [List.length_cons, List.length_nil, Nat.zero_add, Nat.reduceAdd, Nat.reduceLeDiff]; done))))))
local macro_rules | `(tactic| walk_at "w_run") => `(tactic| ((first | refine PD.w_runD ?_ | refine PD.w_runF ?_) <;> simp only [List.length_cons, List.length_nil, List.replicate, List.cons_append, List.nil_append, Nat.reduceAdd, Nat.reduceSub, List.map_cons, List.map_nil]))
local macro_rules | `(tactic| walk_at "w_at") => `(tactic| (focus ((repeat (first | exact PD.At.z | apply PD.At.s)); done)))
local macro_rules | `(tactic| walk_at "w_put") => `(tactic| (focus ((repeat (first | exact PD.Put.z | apply PD.Put.s)); done)))

section
set_option Elab.async false
set_option linter.all false
set_option maxRecDepth 100000
set_option maxHeartbeats 2000000
/-! a def that tells of an exception what it is; a walk over a list of exceptions -/
namespace PD
open PySem PySem.Spec PyProof.Rows L2
variable {X : Cx} {W : WX} {pos : Pos} {e e1 e2 : Expr} {es : List Expr} {f : M PyData}
variable {K : PySem.W.Frag} {ph : Fx} {am am' : Am} {H H' : Hp} {σ σ' : L2.St} {δ δ' : Sg} {a p : Addr} {v : V} {vs : List V} {d : PyData} {ds : List PyData} {i j : Nat}
variable {I : Iv ph} {P : VP} {Ps : List VP}
theorem hid0 : hid ph0 am0 H = H := by
  funext b
  unfold hid Hid ph0 am0
  simp
def Kits (K : PySem.W.Frag) (C : Addr) : List Value → List Bool → Prop
  | [], [] => True
  | t :: ts, b :: bs => PySem.W.kitOne K (.ref C) t = some b ∧ Kits K C ts bs
  | _, _ => False
/-- f(e): whether e, an exception, is one of each of ts -/
def spIs (K : PySem.W.Frag) (ts : List Value) : Sp := fun vs H Q _ => ∃ (a C : Addr) (bl : List Bool), vs = [.ref a] ∧ (vE C).p H (.ref a) ∧ ExcC K C ∧ Kits K C ts bl ∧ ∀ v H', Same H H' → Dq K H' v (.list (bl.map .bool)) → Q v H'
theorem rx_callI {Iz : Iv ph0} {k : Nat} {fa C : Addr} {fd : FuncData} {ps : List Str} {x : Str} {pf : Pos} {ts : List Value} {bl : List Bool} (F : FnOk X.prog X.w X.K X.mg X.base (L2.CX X.prog X.w) k fa fd ps (spIs X.K ts)) (hr : Room k X.A) (hm : X.mg x = some (.ref fa)) (hk : PySem.W.keepIn X.K (.ref fa) = true) (hb : Binds X.K fd ps [])
    (hE : ExcC X.K C) (hK : Kits X.K C ts bl) (h : RX X e Iz (vE C)) (hg : Gl X x := by rfl) (hdb : (x == ("__debug__" : Str)) = false := by decide) (he : starEach [e] X.env = (false, eval e X.env) :: starEach [] X.env := by rfl) (hpl : (backTo pos (starEach [] X.env)).any (·.1) = false := by rfl) :
    RX X (.Call (.Name x pf) [e] [] pos) Iz (vD X.K ph0 (.list (bl.map .bool))) := by
  obtain ⟨t, pt, q⟩ := h.ex
  refine ⟨⟨_, pe_callS (E := fun _ _ _ _ => False) F hr hg hm hk hb pass0 (pa_cons pt pa_nil he) hdb he hpl, fun σ H Q hp kk => q σ H _ hp fun v H1 s1 p1 r1 => ?_⟩⟩
  obtain ⟨a, rfl, r1⟩ := r1
  refine ⟨a, C, bl, rfl, ⟨a, rfl, r1⟩, hE, hK, fun u H2 s2 d2 => kk u H2 (s1.trans s2) (Iz.mono _ _ _ s2 p1) ?_⟩
  show Dq X.K (hid ph0 am0 H2) u _
  rw [hid0]
  exact d2
theorem catL_some {xs ys : List PyData} (h : xs.length + ys.length ≤ 1000000) : catL (.list xs) (.list ys) = some (xs ++ ys) := by
  unfold catL
  exact if_pos (Nat.le_trans h (by rw [sizeLine_eq]; omega))
theorem sr0_of (hl : σ.length = δ.length) (h : ∀ (i : Nat) c, δ[i]? = some c → c = .un ∨ ∃ d v, c = .fz d ∧ σ[i]? = some (some v) ∧ Dq K H v d) : SR K ph0 am0 σ H δ := by
  refine ⟨hl, fun j d q => ?_, fun j b' ds' q => ?_, fun j a' q => (by cases q), fun j k a' q1 q2 => (by cases q1), fun b hb => hb.elim, fun j a' q => (by cases q), fun j o q => ?_⟩
  · rcases h j _ q with z | ⟨d', v, z, h1, h2⟩
    · cases z
    · cases z
      exact ⟨v, h1, by rw [hid0]; exact h2⟩
  · rcases h j _ q with z | ⟨d', v, z, h1, h2⟩ <;> cases z
  · rcases h j _ q with z | ⟨d', v, z, h1, h2⟩ <;> cases z
variable {post : Hp → V → Prop} {sts : List Stmt} {L : List (Nat × VP)} {x0 xa xb x1 x2 : Str} {q0 q1 q2 q3 q4 q5 q6 q7 q8 q9 : Pos} {kt : Nat}
theorem rss_for2 {i0 ia ib i1 i2 : Nat} {dl : Nat → Sg} {d1 d2 : Nat → PyData} (hp : PassesOwn (model X.prog X.w) X.A X.env X.xe) (hc : X.calm = true) (hm : X.mg "enumerate" = none) (hN : X.N.Nodup) (hm0 : (i0, vL Ps) ∈ L)
    (h1 : ∀ k P, Ps[k]? = some P → RX X e1 (ivS X.K ph0 (((dl k).set ia (.fz (.int k))).set ib .un) ((ib, P) :: L)) (vD X.K ph0 (d1 k)))
    (h2 : ∀ k P, Ps[k]? = some P → RX X e2 (ivS X.K ph0 ((((dl k).set ia (.fz (.int k))).set ib .un).set i1 (.fz (d1 k))) ((ib, P) :: L)) (vD X.K ph0 (d2 k)))
    (hd : ∀ k, (((((dl k).set ia (.fz (.int k))).set ib .un).set i1 (.fz (d1 k))).set i2 (.fz (d2 k))).set ia .un = dl (k + 1))
    (t : RSs X sts (ivS X.K ph0 (dl Ps.length) L).pre post)
    (hca : ∀ k, ((dl k)[ia]?).any Cell.free = true) (hcb : ∀ k, (((dl k).set ia (.fz (.int k)))[ib]?).isSome = true) (hc1 : ∀ k, ((((dl k).set ia (.fz (.int k))).set ib .un)[i1]?).any Cell.free = true) (hc2 : ∀ k, (((((dl k).set ia (.fz (.int k))).set ib .un).set i1 (.fz (d1 k)))[i2]?).any Cell.free = true)
    (na : noS ia L = true := by rfl) (nb : noS ib L = true := by rfl) (n1 : noS i1 ((ib, P) :: L) = true := by rfl) (n2 : noS i2 ((ib, P) :: L) = true := by rfl)
    (hi0 : X.N[i0]? = some x0 := by rfl) (hia : X.N[ia]? = some xa := by rfl) (hib : X.N[ib]? = some xb := by rfl) (hi1 : X.N[i1]? = some x1 := by rfl) (hi2 : X.N[i2]? = some x2 := by rfl)
    (hv0 : Vis X.env.scope x0 := by first | exact Or.inl rfl | exact Or.inr (Or.inl rfl) | exact Or.inr (Or.inr rfl)) (hd0 : (x0 == ("__debug__" : Str)) = false := by decide) (hcd0 : (x0 == ("__classdict__" : Str)) = false := by decide)
    (hxa : Loc X.env.scope xa := by first | exact Or.inl rfl | exact Or.inr rfl) (hxb : Loc X.env.scope xb := by first | exact Or.inl rfl | exact Or.inr rfl) (hx1 : Loc X.env.scope x1 := by first | exact Or.inl rfl | exact Or.inr rfl) (hx2 : Loc X.env.scope x2 := by first | exact Or.inl rfl | exact Or.inr rfl)
    (hfa : X.fn xa = true ∨ X.env.scope.names.lookup xa = some .local := by first | exact .inl rfl | exact .inr rfl) (hfb : X.fn xb = true ∨ X.env.scope.names.lookup xb = some .local := by first | exact .inl rfl | exact .inr rfl)
    (hf1 : X.fn x1 = true ∨ X.env.scope.names.lookup x1 = some .local := by first | exact .inl rfl | exact .inr rfl) (hf2 : X.fn x2 = true ∨ X.env.scope.names.lookup x2 = some .local := by first | exact .inl rfl | exact .inr rfl)
    (hg : Gl X "enumerate" := by rfl) (hs : starEach [.Name x0 q1] X.env = [(false, eval (.Name x0 q1) X.env)] := by rfl)
    (hs1 : swapsWith e1 (some (.Name x1 q5)) q6.line X.env = pure false := by rfl) (hs2 : swapsWith e2 (some (.Name x2 q7)) q8.line X.env = pure false := by rfl)
    (hsa : (assignEach [.Name xa q2, .Name xb q3] X.env).map (·.2) = assign (.Name xa q2) X.env :: (assignEach [.Name xb q3] X.env).map (·.2) := by rfl) (hsb : (assignEach [.Name xb q3] X.env).map (·.2) = assign (.Name xb q3) X.env :: (assignEach [] X.env).map (·.2) := by rfl)
    (hn2 : (assignEach [.Name xa q2, .Name xb q3] X.env).length = 2 := by rfl) (hst : (assignEach [.Name xa q2, .Name xb q3] X.env).findIdx? (·.1) = none := by rfl)
    (hsf : ∀ x, foldedSetIterable (.Call (.Name "enumerate" q0) [.Name x0 q1] [] q9) X.env x = pure x := by intro _; rfl) :
    RSs X (.For (.Tuple [.Name xa q2, .Name xb q3] kt q4) (.Call (.Name "enumerate" q0) [.Name x0 q1] [] q9) [.Assign [.Name x1 q5] e1 q6, .Assign [.Name x2 q7] e2 q8] [] pos :: sts) (ivS X.K ph0 (dl 0) L).pre post := by
  let ι := { kp : Nat × VP // Ps[kp.1]? = some kp.2 }
  obtain ⟨t1, p1, r1⟩ := rx_can (ι := ι) fun kp => h1 kp.1.1 kp.1.2 kp.2
  obtain ⟨t2, p2, r2⟩ := rx_can (ι := ι) fun kp => h2 kp.1.1 kp.1.2 kp.2
  obtain ⟨ts, ps, qs⟩ := t.ex
  refine ⟨⟨_, pss_cons (ps_for hp hc (pi_enumK hg hm (pa_cons (pe_var hi0 hv0 hd0 hcd0) pa_nil hs) hs) (pg_tup hc (pgs_cons (pg_name hN hia hxa hfa) (pgs_cons (pg_name hN hib hxb hfb) pgs_nil hsb) hsa) hn2 hst) (pss_cons (ps_set hN hi1 hx1 p1 hs1 hf1) (pss_one (ps_set hN hi2 hx2 p2 hs2 hf2))) hsf) ps, fun D σ H hpre kk => ?_⟩⟩
  obtain ⟨v0, e0, a0, us, rfl, hp0, av⟩ := slV_get hpre.2.1 hm0
  refine ⟨.ref a0, e0, true, a0, us, rfl, .inl (.inl hp0), ?_⟩
  have hus : us.length = Ps.length := av.length
  refine for_it (walk_enumK (k := true) (a := a0) (xs := us)) (fun i σ' H' => Same H H' ∧ (ivS X.K ph0 (dl i) L).pre σ' H') ⟨Same.refl H, hpre⟩ (fun i σ' H' _ q => .inl (.inl (q.1 _ _ hp0))) (fun i x σ' H2 H3 hi q y => ?_) (fun σ' H' q => ?_)
  · obtain ⟨T, y1, y2, rfl, nT, rfl, g1, g2⟩ := y
    cases g1
    obtain ⟨s0, pre2⟩ := q
    have smT : Same H2 (upd H2 T (.tup [.int (i : Nat), y2])) := same_new nT
    have pre3 := (ivS X.K ph0 (dl i) L).mono _ _ _ smT pre2
    have av3 := av.mono (s0.trans smT)
    obtain ⟨P', hP, py⟩ := av3.at g2
    have any_some : ∀ {o : Option Cell}, o.any Cell.free = true → ∃ c, o = some c ∧ c.free = true := fun {o} h => by
      cases o with
      | none => cases h
      | some c => exact ⟨c, rfl, h⟩
    obtain ⟨ca, ea, fa⟩ := any_some (hca i)
    have sA := sr0_set (v := .int (i : Nat)) (i := ia) (d := .int (i : Nat)) pre3.1 ea fa (.int _)
    obtain ⟨cb, eb⟩ := Option.isSome_iff_exists.mp (hcb i)
    have sB := sr0_un (v := y2) (i := ib) sA eb
    have hib : ib < (σ'.set ia (some (.int (i : Nat)))).length := by
      rw [sA.len]
      exact (List.getElem?_eq_some_iff.mp eb).1
    have slB : SlV ((ib, P') :: L) ((σ'.set ia (some (.int (i : Nat)))).set ib (some y2)) (upd H2 T (.tup [.int (i : Nat), y2])) :=
      ⟨⟨y2, List.getElem?_set_self hib, py⟩, (pre3.2.1.set (noS_ne na)).set (noS_ne nb)⟩
    refine ⟨T, _, rfl, .inl (.inl upd_same), rfl, ?_⟩
    refine ⟨_, _, rfl, ?_⟩
    refine ⟨_, _, rfl, ?_⟩
    refine ⟨rfl, ?_⟩
    refine r1 ⟨(i, P'), hP⟩ _ _ _ ⟨sB, slB, trivial⟩ fun w1 H4 s4 p4 d4 => ?_
    obtain ⟨c1, e1', f1⟩ := any_some (hc1 i)
    have sC := sr0_set (v := w1) (i := i1) p4.1 e1' f1 d4
    have slC := p4.2.1.set (v := w1) (noS_ne (i := i1) (show noS i1 ((ib, P') :: L) = true from n1))
    refine r2 ⟨(i, P'), hP⟩ _ _ _ ⟨sC, slC, trivial⟩ fun w2 H5 s5 p5 d5 => ?_
    obtain ⟨c2, e2', f2⟩ := any_some (hc2 i)
    have sD := sr0_set (v := w2) (i := i2) p5.1 e2' f2 d5
    have slD := p5.2.1.set (v := w2) (noS_ne (i := i2) (show noS i2 ((ib, P') :: L) = true from n2))
    have sE := sr0_forget (i := ia) sD
    rw [hd i] at sE
    exact ⟨((s0.trans smT).trans s4).trans s5, sE, slD.2, trivial⟩
  · rw [hus] at q
    exact qs D σ' H' q.2 fun u H2 s2 r2 => kk u H2 (q.1.trans s2) r2
end PD
end

section
set_option linter.all false
set_option maxRecDepth 100000
namespace K00
open PySem PD

def B__law_box : MS :=
  (sSeq (sAsg (xIf (xBool (xBin ltD (xVar 1) (xCall lenD (bnd (xVar 0) fun d => bnd (ret []) fun ds => ret (d :: ds))))) (xBin ixD (xVar 0) (xVar 1)) (ret (.int 0))) (sName 2))
  (sRetF (xLst (bnd (xBin mulD (xCall absD (bnd (xVar 2) fun d => bnd (ret []) fun ds => ret (d :: ds))) (xCall intD (bnd (xBin geD (xCall absD (bnd (xVar 2) fun d => bnd (ret []) fun ds => ret (d :: ds))) (xBin powD (ret (.int 10)) (ret (.int 18)))) fun d => bnd (ret []) fun ds => ret (d :: ds)))) fun d => bnd (bnd (xBin addD (xBin addD (xBin modD (xCall intD (bnd (xVar 2) fun d => bnd (ret []) fun ds => ret (d :: ds))) (ret (.int 2305843009213693951))) (xBin mulD (ret (.int 39373)) (xVar 1))) (ret (.int 3155000))) fun d => bnd (bnd (ret (.int 0)) fun d => bnd (ret []) fun ds => ret (d :: ds)) fun ds => ret (d :: ds)) fun ds => ret (d :: ds)))))
def g__law_box : Sg → Option (Ans (List PyData) × Sg) := runF 3 B__law_box
def B__law_take : MS :=
  (sSeq (sIf (xBool (xBin gtD (xIxO 0 (ret (.int 0))) (ret (.int 0)))) (sSeq (sAsg (xBin modD (xCall intD (bnd (xIxO 0 (ret (.int 0))) fun d => bnd (ret []) fun ds => ret (d :: ds))) (xVar 1)) (sName 2))
  (sSeq (sSub (xBin fdivD (xIxO 0 (ret (.int 0))) (xVar 1)) 0 (ret (.int 0)))
  (sRet (xVar 2)))) sSkip)
  (sSeq (sSub (xBin addD (xIxO 0 (ret (.int 2))) (ret (.int 1))) 0 (ret (.int 2)))
  (sSeq (sAsg (xBin modD (xCall intD (bnd (xBin mulD (xBin addD (xIxO 0 (ret (.int 1))) (xBin mulD (ret (.int 48271)) (xIxO 0 (ret (.int 2))))) (xBin addD (ret (.int 39373)) (xIxO 0 (ret (.int 2))))) fun d => bnd (ret []) fun ds => ret (d :: ds))) (ret (.int 2147483647))) (sName 3))
  (sSeq (sAsg (xBin addD (xBin modD (xCall intD (bnd (xVar 3) fun d => bnd (ret []) fun ds => ret (d :: ds))) (ret (.int 40009))) (ret (.int 7))) (sName 4))
  (sSeq (sAsg (xBin modD (xCall intD (bnd (xBin mulD (xBin addD (xBin addD (xVar 3) (xIxO 0 (ret (.int 2)))) (xBin fdivD (xIxO 0 (ret (.int 1))) (ret (.int 1000003)))) (xVar 4)) fun d => bnd (ret []) fun ds => ret (d :: ds))) (ret (.int 2147483629))) (sName 5))
  (sRet (xBin modD (xCall intD (bnd (xBin fdivD (xBin modD (xCall intD (bnd (xBin addD (xBin mulD (xVar 5) (ret (.int 48271))) (xVar 3)) fun d => bnd (ret []) fun ds => ret (d :: ds))) (ret (.int 2147483587))) (ret (.int 64))) fun d => bnd (ret []) fun ds => ret (d :: ds))) (xVar 1))))))))
def g__law_take : Sg → Option (Ans PyData × Sg) := runD 6 B__law_take
def B__law_cells : MS :=
  (sSeq (sOwn (xOrF (xCallF listD (bnd (xSl (xVar 0) (ret none) (xPart (xVar 1))) fun d => bnd (ret []) fun ds => ret (d :: ds))) (xLst (bnd (ret (.int 0)) fun d => bnd (ret []) fun ds => ret (d :: ds)))) 2)
  (sSeq (sFor (xCallF' enumD (bnd (xSl (xVar 0) (xPart (xVar 1)) (xPart (ret (.int 63)))) fun d => bnd (ret []) fun ds => ret (d :: ds))) (sTup 2 (sCons (sName 3) (sCons (sName 4) sNil))) (sSeq (sAsg (xBin modD (xCall intD (bnd (xVar 3) fun d => bnd (ret []) fun ds => ret (d :: ds))) (xVar 1)) (sName 5))
  (sSub (xBin addD (xIxO 2 (xVar 5)) (xBin mulD (xVar 4) (xBin addD (xVar 3) (ret (.int 2))))) 2 (xVar 5))))
  (sRet (xVar 2))))
def g__law_cells : Sg → Option (Ans PyData × Sg) := runD 6 B__law_cells
def B__law_of : MS :=
  (sRet (xBin ixD (xVar 1) (xDefO g__law_take 0 (bnd (xCall lenD (bnd (xVar 1) fun d => bnd (ret []) fun ds => ret (d :: ds))) fun d => bnd (ret []) fun ds => ret (d :: ds)))))
def g__law_of : Sg → Option (Ans PyData × Sg) := runD 2 B__law_of
def B__law_same (G : Sg → Option (Ans PyData × Sg)) : MS :=
  (sSeq (sIf (xTru (xUn (isiD ["list", "tuple"]) (xVar 1))) (sSeq (sIf (xOrT (xBool (xBin neD (xUn (isiD ["list"]) (xVar 0)) (xUn (isiD ["list"]) (xVar 1)))) (xBool (xBin neD (xUn (isiD ["tuple"]) (xVar 0)) (xUn (isiD ["tuple"]) (xVar 1))))) (sRet (ret (.bool false))) sSkip)
  (sRet (xAnd (xBin eqD (xCall lenD (bnd (xVar 0) fun d => bnd (ret []) fun ds => ret (d :: ds))) (xCall lenD (bnd (xVar 1) fun d => bnd (ret []) fun ds => ret (d :: ds)))) (xCall allD (bnd (bnd (xComp (xCallF' zipD (bnd (xVar 0) fun d => bnd (bnd (xVar 1) fun d => bnd (ret []) fun ds => ret (d :: ds)) fun ds => ret (d :: ds))) [2, 3] (sTup 2 (sCons (sName 2) (sCons (sName 3) sNil))) (ret true) (xDef G (bnd (xVar 2) fun d => bnd (bnd (xVar 3) fun d => bnd (ret []) fun ds => ret (d :: ds)) fun ds => ret (d :: ds)))) fun ds => ret (.list ds)) fun d => bnd (ret []) fun ds => ret (d :: ds)))))) sSkip)
  (sSeq (sIf (xOrT (xBool (xBin isD (xVar 1) (ret .none))) (xTru (xUn (isiD ["bool", "str"]) (xVar 1)))) (sRet (xAnd (xBin eqD (xVar 0) (xVar 1)) (xAnd (xBin eqD (xUn (isiD ["bool"]) (xVar 0)) (xUn (isiD ["bool"]) (xVar 1))) (xBin eqD (xBin isD (xVar 0) (ret .none)) (xBin isD (xVar 1) (ret .none)))))) sSkip)
  (sRet (xAnd (xUn (isiD ["int"]) (xVar 0)) (xAnd (xNot (xUn (isiD ["bool"]) (xVar 0))) (xBin eqD (xVar 0) (xVar 1)))))))
def gr__law_same : Nat → Sg → Option (Ans PyData × Sg)
  | 0 => fun _ => none
  | n + 1 => runD 4 (B__law_same (gr__law_same n))
def g__law_same : Sg → Option (Ans PyData × Sg) := gr__law_same 16
def isI : PyData → Bool
  | .int _ => true
  | _ => false
def g__law_made_right : Sg → Option (Ans PyData × Sg) := fun δ => match δ with
  | [.fz (.int i), .fz (.tuple ds)] => if (ds.all isI && decide (ds.length ≤ 100)) = true then some (.ok (.bool true), [.fz (.int i), .fz (.tuple ds)]) else none
  | _ => none
def B__law_right : MS :=
  (sSeq (sAsg (xBin mulD (xBin subD (xDefO g__law_take 0 (bnd (ret (.int 3)) fun d => bnd (ret []) fun ds => ret (d :: ds))) (ret (.int 1))) (xDefO g__law_of 0 (bnd (bnd (xLst (bnd (ret (.int 0)) fun d => bnd (bnd (ret (.int 1)) fun d => bnd (bnd (ret (.int 7)) fun d => bnd (bnd (xBin powD (ret (.int 10)) (ret (.int 6))) fun d => bnd (bnd (xDefO g__law_take 0 (bnd (ret (.int 1000)) fun d => bnd (ret []) fun ds => ret (d :: ds))) fun d => bnd (ret []) fun ds => ret (d :: ds)) fun ds => ret (d :: ds)) fun ds => ret (d :: ds)) fun ds => ret (d :: ds)) fun ds => ret (d :: ds))) fun ds => ret (.list ds)) fun d => bnd (ret []) fun ds => ret (d :: ds)))) (sName 1))
  (sRet (xDef g__law_made_right (bnd (xVar 1) fun d => bnd (bnd (xCall tupleD (bnd (bnd (xComp (xCallF' range1D (bnd (xDefO g__law_take 0 (bnd (ret (.int 4)) fun d => bnd (ret []) fun ds => ret (d :: ds))) fun d => bnd (ret []) fun ds => ret (d :: ds))) [2] (sName 2) (ret true) (xDefO g__law_take 0 (bnd (ret (.int 5)) fun d => bnd (ret []) fun ds => ret (d :: ds)))) fun ds => ret (.list ds)) fun d => bnd (ret []) fun ds => ret (d :: ds))) fun d => bnd (ret []) fun ds => ret (d :: ds)) fun ds => ret (d :: ds)))))
def g__law_right : Sg → Option (Ans PyData × Sg) := runD 3 B__law_right
def B_law : MS :=
  (sSeq (sIf (xNotT (xTru (xCall allD (bnd (bnd (xComp (xSeq (xTup (bnd (xTup (bnd (ret (.int 0)) fun d => bnd (bnd (xTup (ret [])) fun d => bnd (ret []) fun ds => ret (d :: ds)) fun ds => ret (d :: ds))) fun d => bnd (bnd (xTup (bnd (xUn negD (ret (.int 1))) fun d => bnd (bnd (xTup (bnd (ret (.int 0)) fun d => bnd (ret []) fun ds => ret (d :: ds))) fun d => bnd (ret []) fun ds => ret (d :: ds)) fun ds => ret (d :: ds))) fun d => bnd (bnd (xTup (bnd (xBin powD (ret (.int 10)) (ret (.int 6))) fun d => bnd (bnd (xTup (bnd (ret (.int 2)) fun d => bnd (bnd (ret (.int 0)) fun d => bnd (bnd (ret (.int 1)) fun d => bnd (ret []) fun ds => ret (d :: ds)) fun ds => ret (d :: ds)) fun ds => ret (d :: ds))) fun d => bnd (ret []) fun ds => ret (d :: ds)) fun ds => ret (d :: ds))) fun d => bnd (ret []) fun ds => ret (d :: ds)) fun ds => ret (d :: ds)) fun ds => ret (d :: ds)))) [2] (sName 2) (ret true) (xDef g__law_made_right (bnd (xBin ixD (xVar 2) (ret (.int 0))) fun d => bnd (bnd (xBin ixD (xVar 2) (ret (.int 1))) fun d => bnd (ret []) fun ds => ret (d :: ds)) fun ds => ret (d :: ds)))) fun ds => ret (.list ds)) fun d => bnd (ret []) fun ds => ret (d :: ds))))) (sRet (ret (.bool false))) sSkip)
  (sSeq (sAsg (xDef g__law_cells (bnd (xVar 0) fun d => bnd (bnd (ret (.int 2)) fun d => bnd (ret []) fun ds => ret (d :: ds)) fun ds => ret (d :: ds))) (sName 1))
  (sRet (xCall allD (bnd (bnd (xComp (xCallF' range1D (bnd (xCall lenD (bnd (xVar 1) fun d => bnd (ret []) fun ds => ret (d :: ds))) fun d => bnd (ret []) fun ds => ret (d :: ds))) [3] (sName 3) (ret true) (xDefT g__law_right (xDefF g__law_box (bnd (xVar 1) fun d => bnd (bnd (xVar 3) fun d => bnd (ret []) fun ds => ret (d :: ds)) fun ds => ret (d :: ds))))) fun ds => ret (.list ds)) fun d => bnd (ret []) fun ds => ret (d :: ds))))))
def g_law : Sg → Option (Ans PyData × Sg) := runD 4 B_law
end K00
end

section
set_option Elab.async false
set_option linter.all false
set_option maxRecDepth 100000
set_option maxHeartbeats 4000000
namespace K00
open PySem PySem.Spec PyProof.Rows L2 PD
def topS (i : Nat) : Stmt := PySem.Challenge.pw_anydlooks_k00_errors_made_by_hand.main.body.getD i (.Pass ⟨0, 0, 0, 0⟩)
abbrev s__law_box : Stmt := topS 13
abbrev N__law_box : List Str := ["script", "k", "cell"]
theorem S__law_box : FnScope N__law_box ["script", "k"] (defScope s__law_box) := ⟨rfl, rfl, rfl, by decide +kernel, rfl, by decide +kernel, by decide +kernel⟩
abbrev s__law_take : Stmt := topS 14
abbrev N__law_take : List Str := ["tin", "below_so", "drawn", "once_so", "wide_so", "twice_so"]
theorem S__law_take : FnScope N__law_take ["tin", "below_so"] (defScope s__law_take) := ⟨rfl, rfl, rfl, by decide +kernel, rfl, by decide +kernel, by decide +kernel⟩
abbrev s__law_cells : Stmt := topS 15
abbrev N__law_cells : List Str := ["script", "most_so", "cells_so", "k", "cell", "at_so"]
theorem S__law_cells : FnScope N__law_cells ["script", "most_so"] (defScope s__law_cells) := ⟨rfl, rfl, rfl, by decide +kernel, rfl, by decide +kernel, by decide +kernel⟩
abbrev s__law_of : Stmt := topS 16
abbrev N__law_of : List Str := ["tin", "goods_so"]
theorem S__law_of : FnScope N__law_of ["tin", "goods_so"] (defScope s__law_of) := ⟨rfl, rfl, rfl, by decide +kernel, rfl, by decide +kernel, by decide +kernel⟩
abbrev s__law_same : Stmt := topS 17
abbrev N__law_same : List Str := ["got", "due", "mine", "its"]
theorem S__law_same : FnScope N__law_same ["got", "due"] (defScope s__law_same) := ⟨rfl, rfl, rfl, by decide +kernel, rfl, by decide +kernel, by decide +kernel⟩
abbrev s__law_under : Stmt := topS 18
abbrev N__law_under : List Str := ["error_so", "near", "far"]
theorem S__law_under : FnScope N__law_under ["error_so"] (defScope s__law_under) := ⟨rfl, rfl, rfl, by decide +kernel, rfl, by decide +kernel, by decide +kernel⟩
abbrev s__law_which : Stmt := topS 19
abbrev N__law_which : List Str := ["error_so", "found"]
theorem S__law_which : FnScope N__law_which ["error_so"] (defScope s__law_which) := ⟨rfl, rfl, rfl, by decide +kernel, rfl, by decide +kernel, by decide +kernel⟩
abbrev s__law_made_right : Stmt := topS 20
abbrev N__law_made_right : List Str := ["digit", "trail_so", "value_so", "look_so", "made_so", "got", "due_so", "at_so", "its", "k"]
theorem S__law_made_right : FnScope N__law_made_right ["digit", "trail_so"] (defScope s__law_made_right) := ⟨rfl, rfl, rfl, by decide +kernel, rfl, by decide +kernel, by decide +kernel⟩
abbrev s__law_right : Stmt := topS 21
abbrev N__law_right : List Str := ["tin", "digit", "lap"]
theorem S__law_right : FnScope N__law_right ["tin"] (defScope s__law_right) := ⟨rfl, rfl, rfl, by decide +kernel, rfl, by decide +kernel, by decide +kernel⟩
abbrev s_law : Stmt := topS 22
abbrev N_law : List Str := ["script", "cells", "its", "nth_so"]
theorem S_law : FnScope N_law ["script"] (defScope s_law) := ⟨rfl, rfl, rfl, by decide +kernel, rfl, by decide +kernel, by decide +kernel⟩
variable {P : Program} {w : World} {K : PySem.W.Frag} {mg : Str → Option Value} {base : Heap}
theorem bd__law_box {a__law_box : Addr}
    (m_abs : mg "abs" = none)
    (m_int : mg "int" = none)
    (m_len : mg "len" = none) :
    ∀ (cdv : Value) (A : Around) (outer : List PySem.Env) (s : Shared) (H : Hp) (E : XK), Room 0 (A.deeper (envOfC "_law_box" (defScope s__law_box) s.heap.objs.size a__law_box cdv)) → DSs (CxD P w K mg base N__law_box "_law_box" s__law_box a__law_box cdv A outer s H E) (fun cls d _ H => E cls d H) (defBody s__law_box) B__law_box := fun cdv A outer s H E hr =>
  (dss_cons (ds_set (i := 2) S__law_box.nd (de_if (dt_lt (de_var 1) (de_len (da_cons (de_var 0) da_nil) m_len)) (de_ix (fun _ _ => rfl) (de_var 0) (de_var 1)) de_int))
  (dss_one (ds_retF (df_lst (da_cons (de_mul (de_abs (da_cons (de_var 2) da_nil) m_abs) (de_intc (da_cons (de_ge (de_abs (da_cons (de_var 2) da_nil) m_abs) (de_pow de_int de_int)) da_nil) m_int)) (da_cons (de_add (de_add (de_mod (de_intc (da_cons (de_var 2) da_nil) m_int) de_int) (de_mul de_int (de_var 1))) de_int) (da_cons de_int da_nil)))))))
theorem ok__law_box {a__law_box : Addr} {fd__law_box : FuncData} (F : Fun K "_law_box" "_law_box" s__law_box a__law_box fd__law_box)
    (m_abs : mg "abs" = none)
    (m_int : mg "int" = none)
    (m_len : mg "len" = none) :
    FnOk P w K mg base (L2.CX P w) 1 a__law_box fd__law_box ["script", "k"] (spF K mg 2 g__law_box) :=
  fn_f (k := 0) (N := N__law_box) (ps := ["script", "k"]) (gs := B__law_box) F S__law_box (by decide) (bd__law_box m_abs m_int m_len)
theorem bd__law_take {a__law_take : Addr}
    (m_int : mg "int" = none) :
    ∀ (cdv : Value) (A : Around) (outer : List PySem.Env) (s : Shared) (H : Hp) (E : XK), Room 0 (A.deeper (envOfC "_law_take" (defScope s__law_take) s.heap.objs.size a__law_take cdv)) → DSs (CxD P w K mg base N__law_take "_law_take" s__law_take a__law_take cdv A outer s H E) (fun cls d _ H => E cls d H) (defBody s__law_take) B__law_take := fun cdv A outer s H E hr =>
  (dss_cons (ds_if (dt_gt (de_ixo (i := 0) (fun _ _ => rfl) de_int) de_int) (dss_cons (ds_set (i := 2) S__law_take.nd (de_mod (de_intc (da_cons (de_ixo (i := 0) (fun _ _ => rfl) de_int) da_nil) m_int) (de_var 1)))
  (dss_cons (ds_sub (i := 0) (de_fdiv (de_ixo (i := 0) (fun _ _ => rfl) de_int) (de_var 1)) de_int)
  (dss_one (ds_ret (de_var 2))))) dss_nil)
  (dss_cons (ds_sub (i := 0) (de_add (de_ixo (i := 0) (fun _ _ => rfl) de_int) de_int) de_int)
  (dss_cons (ds_set (i := 3) S__law_take.nd (de_mod (de_intc (da_cons (de_mul (de_add (de_ixo (i := 0) (fun _ _ => rfl) de_int) (de_mul de_int (de_ixo (i := 0) (fun _ _ => rfl) de_int))) (de_add de_int (de_ixo (i := 0) (fun _ _ => rfl) de_int))) da_nil) m_int) de_int))
  (dss_cons (ds_set (i := 4) S__law_take.nd (de_add (de_mod (de_intc (da_cons (de_var 3) da_nil) m_int) de_int) de_int))
  (dss_cons (ds_set (i := 5) S__law_take.nd (de_mod (de_intc (da_cons (de_mul (de_add (de_add (de_var 3) (de_ixo (i := 0) (fun _ _ => rfl) de_int)) (de_fdiv (de_ixo (i := 0) (fun _ _ => rfl) de_int) de_int)) (de_var 4)) da_nil) m_int) de_int))
  (dss_one (ds_ret (de_mod (de_intc (da_cons (de_fdiv (de_mod (de_intc (da_cons (de_add (de_mul (de_var 5) de_int) (de_var 3)) da_nil) m_int) de_int) de_int) da_nil) m_int) (de_var 1)))))))))
theorem ok__law_take {a__law_take : Addr} {fd__law_take : FuncData} (F : Fun K "_law_take" "_law_take" s__law_take a__law_take fd__law_take)
    (m_int : mg "int" = none) :
    FnOk P w K mg base (L2.CX P w) 1 a__law_take fd__law_take ["tin", "below_so"] (spD K mg 2 g__law_take) :=
  fn_d (k := 0) (N := N__law_take) (ps := ["tin", "below_so"]) (gs := B__law_take) F S__law_take (by decide) (bd__law_take m_int)
theorem bd__law_cells {a__law_cells : Addr}
    (m_enumerate : mg "enumerate" = none)
    (m_int : mg "int" = none)
    (m_list : mg "list" = none) :
    ∀ (cdv : Value) (A : Around) (outer : List PySem.Env) (s : Shared) (H : Hp) (E : XK), Room 0 (A.deeper (envOfC "_law_cells" (defScope s__law_cells) s.heap.objs.size a__law_cells cdv)) → DSs (CxD P w K mg base N__law_cells "_law_cells" s__law_cells a__law_cells cdv A outer s H E) (fun cls d _ H => E cls d H) (defBody s__law_cells) B__law_cells := fun cdv A outer s H E hr =>
  (dss_cons (ds_own (i := 2) S__law_cells.nd (df_or (df_list (da_cons (de_slice (de_var 0) do_none (do_some (de_var 1))) da_nil) m_list) (df_one (df_lst (da_cons de_int da_nil)))))
  (dss_cons (ds_for own_cx rfl (di_enum m_enumerate (da_cons (de_slice (de_var 0) (do_some (de_var 1)) (do_some de_int)) da_nil)) (dg_tup rfl (dgs_cons (dg_name (i := 3) S__law_cells.nd) (dgs_cons (dg_name (i := 4) S__law_cells.nd) dgs_nil))) (dss_cons (ds_set (i := 5) S__law_cells.nd (de_mod (de_intc (da_cons (de_var 3) da_nil) m_int) (de_var 1)))
  (dss_one (ds_sub (i := 2) (de_add (de_ixo (i := 2) (fun _ _ => rfl) (de_var 5)) (de_mul (de_var 4) (de_add (de_var 3) de_int))) (de_var 5)))))
  (dss_one (ds_ret (de_var 2)))))
theorem ok__law_cells {a__law_cells : Addr} {fd__law_cells : FuncData} (F : Fun K "_law_cells" "_law_cells" s__law_cells a__law_cells fd__law_cells)
    (m_enumerate : mg "enumerate" = none)
    (m_int : mg "int" = none)
    (m_list : mg "list" = none) :
    FnOk P w K mg base (L2.CX P w) 1 a__law_cells fd__law_cells ["script", "most_so"] (spD K mg 2 g__law_cells) :=
  fn_d (k := 0) (N := N__law_cells) (ps := ["script", "most_so"]) (gs := B__law_cells) F S__law_cells (by decide) (bd__law_cells m_enumerate m_int m_list)
theorem bd__law_of {a__law_of : Addr}
    {a__law_take : Addr} {fd__law_take : FuncData} (F__law_take : FnOk P w K mg base (L2.CX P w) 1 a__law_take fd__law_take ["tin", "below_so"] (spD K mg 2 g__law_take)) (e__law_take : mg "_law_take" = some (.ref a__law_take)) (k__law_take : PySem.W.keepIn K (.ref a__law_take) = true) (b__law_take : Binds K fd__law_take ["tin", "below_so"] [])
    (m_len : mg "len" = none) :
    ∀ (cdv : Value) (A : Around) (outer : List PySem.Env) (s : Shared) (H : Hp) (E : XK), Room 1 (A.deeper (envOfC "_law_of" (defScope s__law_of) s.heap.objs.size a__law_of cdv)) → DSs (CxD P w K mg base N__law_of "_law_of" s__law_of a__law_of cdv A outer s H E) (fun cls d _ H => E cls d H) (defBody s__law_of) B__law_of := fun cdv A outer s H E hr =>
  (dss_one (ds_ret (de_ix (fun _ _ => rfl) (de_var 1) (de_callO (i := 0) F__law_take (hr.mono (by decide)) e__law_take k__law_take b__law_take pass_cx (da_cons (de_len (da_cons (de_var 1) da_nil) m_len) da_nil) (alenO (alenS alen0))))))
theorem ok__law_of {a__law_of : Addr} {fd__law_of : FuncData} (F : Fun K "_law_of" "_law_of" s__law_of a__law_of fd__law_of)
    {a__law_take : Addr} {fd__law_take : FuncData} (F__law_take : FnOk P w K mg base (L2.CX P w) 1 a__law_take fd__law_take ["tin", "below_so"] (spD K mg 2 g__law_take)) (e__law_take : mg "_law_take" = some (.ref a__law_take)) (k__law_take : PySem.W.keepIn K (.ref a__law_take) = true) (b__law_take : Binds K fd__law_take ["tin", "below_so"] [])
    (m_len : mg "len" = none) :
    FnOk P w K mg base (L2.CX P w) 2 a__law_of fd__law_of ["tin", "goods_so"] (spD K mg 2 g__law_of) :=
  fn_d (k := 1) (N := N__law_of) (ps := ["tin", "goods_so"]) (gs := B__law_of) F S__law_of (by decide) (bd__law_of F__law_take e__law_take k__law_take b__law_take m_len)
theorem st__law_same {a__law_same : Addr} {fd__law_same : FuncData} (F : Fun K "_law_same" "_law_same" s__law_same a__law_same fd__law_same) {n : Nat} (F__law_same : FnOk P w K mg base (L2.CX P w) n a__law_same fd__law_same ["got", "due"] (spD K mg 2 (gr__law_same n))) (e__law_same : mg "_law_same" = some (.ref a__law_same)) (k__law_same : PySem.W.keepIn K (.ref a__law_same) = true) (b__law_same : Binds K fd__law_same ["got", "due"] [])
    (m_all : mg "all" = none)
    (m_bool : mg "bool" = none)
    (m_int : mg "int" = none)
    (m_isinstance : mg "isinstance" = none)
    (m_len : mg "len" = none)
    (m_list : mg "list" = none)
    (m_str : mg "str" = none)
    (m_tuple : mg "tuple" = none)
    (m_zip : mg "zip" = none) :
    FnOk P w K mg base (L2.CX P w) (n + 0 + 1) a__law_same fd__law_same ["got", "due"] (spD K mg 2 (gr__law_same (n + 1))) :=
  fn_d F S__law_same (by decide) fun cdv A outer s H E hr =>
  (dss_cons (ds_if (dt_tru (de_isi2 "list" "tuple" (by decide) (by decide) m_isinstance m_list bt_list m_tuple bt_tuple (de_var 1))) (dss_cons (ds_if (dt_w (dw_or (dt_ne (hu64 hr) (de_isi1 "list" (by decide) m_isinstance m_list bt_list (de_var 0)) (de_isi1 "list" (by decide) m_isinstance m_list bt_list (de_var 1))) (dw_or1 (dt_ne (hu64 hr) (de_isi1 "tuple" (by decide) m_isinstance m_tuple bt_tuple (de_var 0)) (de_isi1 "tuple" (by decide) m_isinstance m_tuple bt_tuple (de_var 1)))))) (dss_one (ds_ret de_bl)) dss_nil)
  (dss_one (ds_ret (de_and (de_eq (hu64 hr) (de_len (da_cons (de_var 0) da_nil) m_len) (de_len (da_cons (de_var 1) da_nil) m_len)) (de_one (de_all (da_cons (de_df (df_lc (own := [("mine", 2), ("its", 3)]) rfl S__law_same.nd (di_zip m_zip (da_cons (de_var 0) (da_cons (de_var 1) da_nil))) (blkOk_by (N := N__law_same) (sc := defScope s__law_same) (own := [("mine", 2), ("its", 3)]) (by decide +kernel)) (fun _ _ _ _ _ => (dgc_tup rfl (dgsc_cons (dgc_name (i := 2) S__law_same.nd (by decide)) (dgsc_cons (dgc_name (i := 3) S__law_same.nd (by decide)) dgsc_nil)))) (fun _ _ _ _ _ => dts_nil) (fun _ _ _ _ _ => (de_call F__law_same (hr.mono (Nat.le_refl _)) e__law_same k__law_same b__law_same pass0 (da_cons (de_var 2) (da_cons (de_var 3) da_nil)) (alenS (alenS alen0)))))) da_nil) m_all)))))) dss_nil)
  (dss_cons (ds_if (dt_w (dw_or (dt_is (de_var 1) de_non) (dw_or1 (dt_tru (de_isi2 "bool" "str" (by decide) (by decide) m_isinstance m_bool bt_bool m_str bt_str (de_var 1)))))) (dss_one (ds_ret (de_and (de_eq (hu64 hr) (de_var 0) (de_var 1)) (de_and (de_eq (hu64 hr) (de_isi1 "bool" (by decide) m_isinstance m_bool bt_bool (de_var 0)) (de_isi1 "bool" (by decide) m_isinstance m_bool bt_bool (de_var 1))) (de_one (de_eq (hu64 hr) (de_is (de_var 0) de_non) (de_is (de_var 1) de_non))))))) dss_nil)
  (dss_one (ds_ret (de_and (de_isi1 "int" (by decide) m_isinstance m_int bt_int (de_var 0)) (de_and (de_not (de_isi1 "bool" (by decide) m_isinstance m_bool bt_bool (de_var 0))) (de_one (de_eq (hu64 hr) (de_var 0) (de_var 1)))))))))
theorem ok__law_same {a__law_same : Addr} {fd__law_same : FuncData} (F : Fun K "_law_same" "_law_same" s__law_same a__law_same fd__law_same) (e__law_same : mg "_law_same" = some (.ref a__law_same)) (k__law_same : PySem.W.keepIn K (.ref a__law_same) = true) (b__law_same : Binds K fd__law_same ["got", "due"] [])
    (m_all : mg "all" = none)
    (m_bool : mg "bool" = none)
    (m_int : mg "int" = none)
    (m_isinstance : mg "isinstance" = none)
    (m_len : mg "len" = none)
    (m_list : mg "list" = none)
    (m_str : mg "str" = none)
    (m_tuple : mg "tuple" = none)
    (m_zip : mg "zip" = none) :
    FnOk P w K mg base (L2.CX P w) 16 a__law_same fd__law_same ["got", "due"] (spD K mg 2 g__law_same) := by
  have go : ∀ n, FnOk P w K mg base (L2.CX P w) n a__law_same fd__law_same ["got", "due"] (spD K mg 2 (gr__law_same n)) := fun n => by
    induction n with
    | zero => exact fn_none
    | succ n ih => exact st__law_same F ih e__law_same k__law_same b__law_same m_all m_bool m_int m_isinstance m_len m_list m_str m_tuple m_zip
  exact go 16
theorem bd__law_right {a__law_right : Addr}
    {a__law_made_right : Addr} {fd__law_made_right : FuncData} (F__law_made_right : FnOk P w K mg base (L2.CX P w) 17 a__law_made_right fd__law_made_right ["digit", "trail_so"] (spD K mg 2 g__law_made_right)) (e__law_made_right : mg "_law_made_right" = some (.ref a__law_made_right)) (k__law_made_right : PySem.W.keepIn K (.ref a__law_made_right) = true) (b__law_made_right : Binds K fd__law_made_right ["digit", "trail_so"] [])
    {a__law_of : Addr} {fd__law_of : FuncData} (F__law_of : FnOk P w K mg base (L2.CX P w) 2 a__law_of fd__law_of ["tin", "goods_so"] (spD K mg 2 g__law_of)) (e__law_of : mg "_law_of" = some (.ref a__law_of)) (k__law_of : PySem.W.keepIn K (.ref a__law_of) = true) (b__law_of : Binds K fd__law_of ["tin", "goods_so"] [])
    {a__law_take : Addr} {fd__law_take : FuncData} (F__law_take : FnOk P w K mg base (L2.CX P w) 1 a__law_take fd__law_take ["tin", "below_so"] (spD K mg 2 g__law_take)) (e__law_take : mg "_law_take" = some (.ref a__law_take)) (k__law_take : PySem.W.keepIn K (.ref a__law_take) = true) (b__law_take : Binds K fd__law_take ["tin", "below_so"] [])
    (m_range : mg "range" = none)
    (m_tuple : mg "tuple" = none) :
    ∀ (cdv : Value) (A : Around) (outer : List PySem.Env) (s : Shared) (H : Hp) (E : XK), Room 17 (A.deeper (envOfC "_law_right" (defScope s__law_right) s.heap.objs.size a__law_right cdv)) → DSs (CxD P w K mg base N__law_right "_law_right" s__law_right a__law_right cdv A outer s H E) (fun cls d _ H => E cls d H) (defBody s__law_right) B__law_right := fun cdv A outer s H E hr =>
  (dss_cons (ds_set (i := 1) S__law_right.nd (de_mul (de_sub (de_callO (i := 0) F__law_take (hr.mono (by decide)) e__law_take k__law_take b__law_take pass_cx (da_cons de_int da_nil) (alenO (alenS alen0))) de_int) (de_callO (i := 0) F__law_of (hr.mono (by decide)) e__law_of k__law_of b__law_of pass_cx (da_cons (de_df (df_lst (da_cons de_int (da_cons de_int (da_cons de_int (da_cons (de_pow de_int de_int) (da_cons (de_callO (i := 0) F__law_take (hr.mono (by decide)) e__law_take k__law_take b__law_take pass_cx (da_cons de_int da_nil) (alenO (alenS alen0))) da_nil))))))) da_nil) (alenO (alenS alen0)))))
  (dss_one (ds_ret (de_call F__law_made_right (hr.mono (by decide)) e__law_made_right k__law_made_right b__law_made_right pass_cx (da_cons (de_var 1) (da_cons (de_tuplec (da_cons (de_df (df_lc (own := [("lap", 2)]) rfl S__law_right.nd (di_range1 m_range (da_cons (de_callO (i := 0) F__law_take (hr.mono (by decide)) e__law_take k__law_take b__law_take pass_cx (da_cons de_int da_nil) (alenO (alenS alen0))) da_nil)) (blkOk_by (N := N__law_right) (sc := defScope s__law_right) (own := [("lap", 2)]) (by decide +kernel)) (fun _ _ _ _ _ => (dgc_name (i := 2) S__law_right.nd (by decide))) (fun _ _ _ _ _ => dts_nil) (fun _ _ _ _ _ => (de_callO (i := 0) F__law_take (hr.mono (by decide)) e__law_take k__law_take b__law_take pass0 (da_cons de_int da_nil) (alenO (alenS alen0)))))) da_nil) m_tuple) da_nil)) (alenS (alenS alen0))))))
theorem ok__law_right {a__law_right : Addr} {fd__law_right : FuncData} (F : Fun K "_law_right" "_law_right" s__law_right a__law_right fd__law_right)
    {a__law_made_right : Addr} {fd__law_made_right : FuncData} (F__law_made_right : FnOk P w K mg base (L2.CX P w) 17 a__law_made_right fd__law_made_right ["digit", "trail_so"] (spD K mg 2 g__law_made_right)) (e__law_made_right : mg "_law_made_right" = some (.ref a__law_made_right)) (k__law_made_right : PySem.W.keepIn K (.ref a__law_made_right) = true) (b__law_made_right : Binds K fd__law_made_right ["digit", "trail_so"] [])
    {a__law_of : Addr} {fd__law_of : FuncData} (F__law_of : FnOk P w K mg base (L2.CX P w) 2 a__law_of fd__law_of ["tin", "goods_so"] (spD K mg 2 g__law_of)) (e__law_of : mg "_law_of" = some (.ref a__law_of)) (k__law_of : PySem.W.keepIn K (.ref a__law_of) = true) (b__law_of : Binds K fd__law_of ["tin", "goods_so"] [])
    {a__law_take : Addr} {fd__law_take : FuncData} (F__law_take : FnOk P w K mg base (L2.CX P w) 1 a__law_take fd__law_take ["tin", "below_so"] (spD K mg 2 g__law_take)) (e__law_take : mg "_law_take" = some (.ref a__law_take)) (k__law_take : PySem.W.keepIn K (.ref a__law_take) = true) (b__law_take : Binds K fd__law_take ["tin", "below_so"] [])
    (m_range : mg "range" = none)
    (m_tuple : mg "tuple" = none) :
    FnOk P w K mg base (L2.CX P w) 18 a__law_right fd__law_right ["tin"] (spD K mg 1 g__law_right) :=
  fn_d (k := 17) (N := N__law_right) (ps := ["tin"]) (gs := B__law_right) F S__law_right (by decide) (bd__law_right F__law_made_right e__law_made_right k__law_made_right b__law_made_right F__law_of e__law_of k__law_of b__law_of F__law_take e__law_take k__law_take b__law_take m_range m_tuple)
theorem bd_law {a_law : Addr}
    {a__law_box : Addr} {fd__law_box : FuncData} (F__law_box : FnOk P w K mg base (L2.CX P w) 1 a__law_box fd__law_box ["script", "k"] (spF K mg 2 g__law_box)) (e__law_box : mg "_law_box" = some (.ref a__law_box)) (k__law_box : PySem.W.keepIn K (.ref a__law_box) = true) (b__law_box : Binds K fd__law_box ["script", "k"] [])
    {a__law_cells : Addr} {fd__law_cells : FuncData} (F__law_cells : FnOk P w K mg base (L2.CX P w) 1 a__law_cells fd__law_cells ["script", "most_so"] (spD K mg 2 g__law_cells)) (e__law_cells : mg "_law_cells" = some (.ref a__law_cells)) (k__law_cells : PySem.W.keepIn K (.ref a__law_cells) = true) (b__law_cells : Binds K fd__law_cells ["script", "most_so"] [])
    {a__law_made_right : Addr} {fd__law_made_right : FuncData} (F__law_made_right : FnOk P w K mg base (L2.CX P w) 17 a__law_made_right fd__law_made_right ["digit", "trail_so"] (spD K mg 2 g__law_made_right)) (e__law_made_right : mg "_law_made_right" = some (.ref a__law_made_right)) (k__law_made_right : PySem.W.keepIn K (.ref a__law_made_right) = true) (b__law_made_right : Binds K fd__law_made_right ["digit", "trail_so"] [])
    {a__law_right : Addr} {fd__law_right : FuncData} (F__law_right : FnOk P w K mg base (L2.CX P w) 18 a__law_right fd__law_right ["tin"] (spD K mg 1 g__law_right)) (e__law_right : mg "_law_right" = some (.ref a__law_right)) (k__law_right : PySem.W.keepIn K (.ref a__law_right) = true) (b__law_right : Binds K fd__law_right ["tin"] [])
    (m_all : mg "all" = none)
    (m_len : mg "len" = none)
    (m_range : mg "range" = none) :
    ∀ (cdv : Value) (A : Around) (outer : List PySem.Env) (s : Shared) (H : Hp) (E : XK), Room 18 (A.deeper (envOfC "law" (defScope s_law) s.heap.objs.size a_law cdv)) → DSs (CxD P w K mg base N_law "law" s_law a_law cdv A outer s H E) (fun cls d _ H => E cls d H) (defBody s_law) B_law := fun cdv A outer s H E hr =>
  (dss_cons (ds_if (dt_not (dt_tru (de_all (da_cons (de_df (df_lc (own := [("its", 2)]) rfl S_law.nd (di_seq (de_tup (da_cons (de_tup (da_cons de_int (da_cons (de_tup da_nil) da_nil))) (da_cons (de_tup (da_cons (de_neg de_int) (da_cons (de_tup (da_cons de_int da_nil)) da_nil))) (da_cons (de_tup (da_cons (de_pow de_int de_int) (da_cons (de_tup (da_cons de_int (da_cons de_int (da_cons de_int da_nil)))) da_nil))) da_nil))))) (blkOk_by (N := N_law) (sc := defScope s_law) (own := [("its", 2)]) (by decide +kernel)) (fun _ _ _ _ _ => (dgc_name (i := 2) S_law.nd (by decide))) (fun _ _ _ _ _ => dts_nil) (fun _ _ _ _ _ => (de_call F__law_made_right (hr.mono (by decide)) e__law_made_right k__law_made_right b__law_made_right pass0 (da_cons (de_ix (fun _ _ => rfl) (de_var 2) de_int) (da_cons (de_ix (fun _ _ => rfl) (de_var 2) de_int) da_nil)) (alenS (alenS alen0)))))) da_nil) m_all))) (dss_one (ds_ret de_bl)) dss_nil)
  (dss_cons (ds_set (i := 1) S_law.nd (de_call F__law_cells (hr.mono (by decide)) e__law_cells k__law_cells b__law_cells pass_cx (da_cons (de_var 0) (da_cons de_int da_nil)) (alenS (alenS alen0))))
  (dss_one (ds_ret (de_all (da_cons (de_df (df_lc (own := [("nth_so", 3)]) rfl S_law.nd (di_range1 m_range (da_cons (de_len (da_cons (de_var 1) da_nil) m_len) da_nil)) (blkOk_by (N := N_law) (sc := defScope s_law) (own := [("nth_so", 3)]) (by decide +kernel)) (fun _ _ _ _ _ => (dgc_name (i := 3) S_law.nd (by decide))) (fun _ _ _ _ _ => dts_nil) (fun _ _ _ _ _ => (de_callT F__law_right (hr.mono (by decide)) e__law_right k__law_right b__law_right pass0 (df_call F__law_box (hr.mono (by decide)) e__law_box k__law_box b__law_box pass0 (da_cons (de_var 1) (da_cons (de_var 3) da_nil)) (alenS (alenS alen0))))))) da_nil) m_all)))))
theorem ok_law {a_law : Addr} {fd_law : FuncData} (F : Fun K "law" "law" s_law a_law fd_law)
    {a__law_box : Addr} {fd__law_box : FuncData} (F__law_box : FnOk P w K mg base (L2.CX P w) 1 a__law_box fd__law_box ["script", "k"] (spF K mg 2 g__law_box)) (e__law_box : mg "_law_box" = some (.ref a__law_box)) (k__law_box : PySem.W.keepIn K (.ref a__law_box) = true) (b__law_box : Binds K fd__law_box ["script", "k"] [])
    {a__law_cells : Addr} {fd__law_cells : FuncData} (F__law_cells : FnOk P w K mg base (L2.CX P w) 1 a__law_cells fd__law_cells ["script", "most_so"] (spD K mg 2 g__law_cells)) (e__law_cells : mg "_law_cells" = some (.ref a__law_cells)) (k__law_cells : PySem.W.keepIn K (.ref a__law_cells) = true) (b__law_cells : Binds K fd__law_cells ["script", "most_so"] [])
    {a__law_made_right : Addr} {fd__law_made_right : FuncData} (F__law_made_right : FnOk P w K mg base (L2.CX P w) 17 a__law_made_right fd__law_made_right ["digit", "trail_so"] (spD K mg 2 g__law_made_right)) (e__law_made_right : mg "_law_made_right" = some (.ref a__law_made_right)) (k__law_made_right : PySem.W.keepIn K (.ref a__law_made_right) = true) (b__law_made_right : Binds K fd__law_made_right ["digit", "trail_so"] [])
    {a__law_right : Addr} {fd__law_right : FuncData} (F__law_right : FnOk P w K mg base (L2.CX P w) 18 a__law_right fd__law_right ["tin"] (spD K mg 1 g__law_right)) (e__law_right : mg "_law_right" = some (.ref a__law_right)) (k__law_right : PySem.W.keepIn K (.ref a__law_right) = true) (b__law_right : Binds K fd__law_right ["tin"] [])
    (m_all : mg "all" = none)
    (m_len : mg "len" = none)
    (m_range : mg "range" = none) :
    FnOk P w K mg base (L2.CX P w) 19 a_law fd_law ["script"] (spD K mg 1 g_law) :=
  fn_d (k := 18) (N := N_law) (ps := ["script"]) (gs := B_law) F S_law (by decide) (bd_law F__law_box e__law_box k__law_box b__law_box F__law_cells e__law_cells k__law_cells b__law_cells F__law_made_right e__law_made_right k__law_made_right b__law_made_right F__law_right e__law_right k__law_right b__law_right m_all m_len m_range)
end K00
end

section
set_option linter.all false
set_option maxRecDepth 100000
set_option maxHeartbeats 1000000
namespace K00
open PySem PD
theorem take_pos (x y z k : Int) (hk : 0 < k) (hd : divOk k = true) (hx : 0 < x) : g__law_take [.ow true [.int x, .int y, .int z], .fz (.int k)] = some (.ok (.int (x.fmod k)), [.ow true [.int (x.fdiv k), .int y, .int z], .fz (.int k)]) := by
  have h0 : k ≠ 0 := by omega
  simp [g__law_take, runD, B__law_take, sSeq, sIf, bnd, PD.ret, lif, xBool, xBin, xIxO, xCall, sAsg, sSub, sRet, sSkip, gtD, intsD, ixD, L2.atI, L2.ixN, boolD, modD, fdivD, intD, xVar, sName, keepO, keepD, Cell.free, hx, h0, hd]

theorem sm_mod (w : Int) : small64 (w.fmod 40009 + 7) = true := by
  have h1 := Int.fmod_nonneg_of_pos w (b := 40009) (by decide)
  have h2 := Int.fmod_lt_of_pos w (b := 40009) (by decide)
  unfold small64
  simp only [Bool.and_eq_true, decide_eq_true_eq]
  omega
theorem sm_z {z : Int} (h1 : 0 ≤ z) (h2 : z < 1000000) : small64 (39373 + (z + 1)) = true := by
  unfold small64
  simp only [Bool.and_eq_true, decide_eq_true_eq]
  omega
theorem take_neg (x y z k : Int) (hk : 0 < k) (hd : divOk k = true) (hx : ¬ 0 < x) (z0 : 0 ≤ z) (z1 : z < 1000000) : ∃ v : Int, g__law_take [.ow true [.int x, .int y, .int z], .fz (.int k)] = some (.ok (.int (v.fmod k)), [.ow true [.int x, .int y, .int (z + 1)], .fz (.int k)]) := by
  have h0 : k ≠ 0 := by omega
  have d1 : divOk 1000003 = true := by decide
  have d2 : divOk 64 = true := by decide
  have s1 : small64 48271 = true := by decide
  have s2 := sm_z z0 z1
  refine ⟨?v, ?h⟩
  case h =>
   simp [g__law_take, runD, B__law_take, sSeq, sIf, bnd, PD.ret, lif, xBool, xBin, xIxO, xCall, sAsg, sSub, sRet, sSkip, gtD, intsD, ixD, L2.atI, L2.ixN, boolD, modD, fdivD, intD, addD, addI, mulD, mulI, mulOk, xVar, sName, keepO, keepD, Cell.free, hx, h0, d1, d2, s1, s2, sm_mod]
   rfl
theorem take_any (x y z k : Int) (hk : 0 < k) (hd : divOk k = true) (z0 : 0 ≤ z) (z1 : z < 1000000) : ∃ v x' z' : Int, g__law_take [.ow true [.int x, .int y, .int z], .fz (.int k)] = some (.ok (.int v), [.ow true [.int x', .int y, .int z'], .fz (.int k)]) ∧ 0 ≤ v ∧ v < k ∧ 0 ≤ z' ∧ z' ≤ z + 1 := by
  by_cases hx : 0 < x
  · exact ⟨_, _, _, take_pos x y z k hk hd hx, Int.fmod_nonneg_of_pos _ hk, Int.fmod_lt_of_pos _ hk, z0, by omega⟩
  · obtain ⟨v, h⟩ := take_neg x y z k hk hd hx z0 z1
    exact ⟨_, _, _, h, Int.fmod_nonneg_of_pos _ hk, Int.fmod_lt_of_pos _ hk, by omega, by omega⟩
end K00
namespace K00
open PySem PD
theorem ints_map (l : List Int) : ints? (l.map .int) = some l := by
  induction l with
  | nil => rfl
  | cons x l ih => simp [ints?, ih]
theorem comp_mul {p : Int} {a b : PyData} {l m : List Int} (hl : l.length ≤ 1000) (hs : ∀ x ∈ l, small64 x = true) :
    compD [3, 4] (sTup 2 (sCons (sName 3) (sCons (sName 4) sNil))) (PD.ret true) (xBin mulD (xVar 3) (xVar 4)) (pairL (l.map .int) (m.map .int)) [] [.fz (.int p), .fz a, .fz b, .un, .un] = some ((List.zipWith (· * ·) l m).map .int, [.fz (.int p), .fz a, .fz b, .un, .un]) := by
  have q := comp_map (is := [3, 4]) (set := sTup 2 (sCons (sName 3) (sCons (sName 4) sNil))) (el := xBin mulD (xVar 3) (xVar 4)) (ds := pairL (l.map .int) (m.map .int)) (acc := []) (δ := [.fz (.int p), .fz a, .fz b, .un, .un])
    (fun d => match d with | .tuple [.int x, .int y] => .int (x * y) | _ => .none) (by rw [pairL_length]; simp; omega) (fun d hd => by
      rw [pairL_ints] at hd
      obtain ⟨x, y, hx, hd⟩ : ∃ x y, x ∈ l ∧ d = .tuple [.int x, .int y] := by
        obtain ⟨j, hj, e⟩ := List.getElem_of_mem hd
        rw [List.getElem_zipWith] at e
        exact ⟨_, _, List.getElem_mem _, e.symm⟩
      subst hd
      have h1 := hs x hx
      refine ⟨_, _, by simp [sTup, sCons, sName, sNil, Cell.free]; rfl, by simp [xBin, xVar, bnd, lif, mulD, mulI, intsD, mulOk, h1]; rfl, by simp [noOw], by simp [wipeD]⟩)
  rw [q, pairL_ints, List.map_zipWith, List.map_zipWith]
  rfl
end K00
namespace K00
open PySem PD
def lin (p : Int) (l m : List Int) (f : Int) : List Int := List.zipWith (fun o s => (o + f * s).fmod p) l m
theorem lin_map {p f : Int} {l m : List Int} : (pairL (l.map .int) (m.map .int)).map (fun d => match d with | .tuple [.int x, .int y] => PyData.int ((x + f * y).fmod p) | _ => .none) = (lin p l m f).map .int := by
  rw [pairL_ints, List.map_zipWith, lin, List.map_zipWith]
theorem pair_mem {l m : List Int} {d : PyData} (hd : d ∈ pairL (l.map .int) (m.map .int)) : ∃ x y : Int, d = .tuple [.int x, .int y] := by
  rw [pairL_ints] at hd
  obtain ⟨j, hj, e⟩ := List.getElem_of_mem hd
  rw [List.getElem_zipWith] at e
  exact ⟨_, _, e.symm⟩
theorem comp_lin {p f : Int} {a b : PyData} {l m : List Int} (hp : p ≠ 0) (hl : l.length ≤ 1000) (hf : small64 f = true) :
    compD [4, 5] (sTup 2 (sCons (sName 4) (sCons (sName 5) sNil))) (PD.ret true) (xBin modD (xCall intD (bnd (xBin addD (xVar 4) (xBin mulD (xVar 3) (xVar 5))) fun d => bnd (PD.ret []) fun ds => PD.ret (d :: ds))) (xVar 0)) (pairL (l.map .int) (m.map .int)) [] [.fz (.int p), .fz a, .fz b, .fz (.int f), .un, .un]
      = some ((lin p l m f).map .int, [.fz (.int p), .fz a, .fz b, .fz (.int f), .un, .un]) := by
  have q := PD.comp_map (is := [4, 5]) (set := sTup 2 (sCons (sName 4) (sCons (sName 5) sNil))) (el := xBin modD (xCall intD (bnd (xBin addD (xVar 4) (xBin mulD (xVar 3) (xVar 5))) fun d => bnd (PD.ret []) fun ds => PD.ret (d :: ds))) (xVar 0)) (ds := pairL (l.map .int) (m.map .int)) (acc := []) (δ := [.fz (.int p), .fz a, .fz b, .fz (.int f), .un, .un])
    (fun d => match d with | PyData.tuple [PyData.int x, PyData.int y] => PyData.int ((x + f * y).fmod p) | _ => PyData.none) (by rw [pairL_length]; simp; omega) (fun d hd => by
      obtain ⟨x, y, rfl⟩ := pair_mem hd
      exact ⟨_, _, by simp [sTup, sCons, sName, sNil, Cell.free]; rfl, by simp [xBin, xVar, xCall, bnd, lif, PD.ret, mulD, mulI, addD, addI, modD, intD, intsD, mulOk, hf, hp]; rfl, by simp [noOw], by simp [wipeD]⟩)
  rw [q, lin_map]
  rfl
end K00
namespace K00
open PySem PD
def comb (p : Int) : List Int → List (List Int) → List Int → List Int
  | line, r :: rows, f :: fs => comb p (lin p line r f) rows fs
  | line, _, _ => line
inductive Rows : List PyData → List (List Int) → Prop
  | nil : Rows [] []
  | cons {v : PyData} {vs : List PyData} {r : List Int} {rows : List (List Int)} : seqD v = some (r.map .int) → Rows vs rows → Rows (v :: vs) (r :: rows)
abbrev mixSet : Tg := sTup 2 (sCons (sName 5) (sCons (sName 6) sNil))
theorem lin_len {p f : Int} {l m : List Int} : (lin p l m f).length ≤ l.length := by
  unfold lin
  rw [List.length_zipWith]
  omega
end K00
namespace K00
open PySem PD
def combR (p : Int) : List Int → List (List Int) → List Int → List Int
  | line, r :: rows, f :: fs => combR p (if f = 0 then line else lin p line r f) rows fs
  | line, _, _ => line
def linD (p f : Int) (d : PyData) : PyData := match d with | PyData.tuple [PyData.int x, PyData.int y] => PyData.int ((x + f * y).fmod p) | _ => PyData.none
theorem linD_map {p f : Int} {l m : List Int} : (pairL (l.map .int) (m.map .int)).map (linD p f) = (lin p l m f).map .int := by
  rw [pairL_ints, List.map_zipWith, lin, List.map_zipWith]
  rfl
abbrev rowEl : M PyData := xBin modD (xBin addD (xVar 7) (xBin mulD (xVar 6) (xVar 8))) (xVar 0)
abbrev rowLc : M PyData := bnd (xComp (xCallF' zipD (bnd (xVar 4) fun d => bnd (bnd (xVar 5) fun d => bnd (PD.ret []) fun ds => PD.ret (d :: ds)) fun ds => PD.ret (d :: ds))) [7, 8] (sTup 2 (sCons (sName 7) (sCons (sName 8) sNil))) (PD.ret true) rowEl) fun ds => PD.ret (.list ds)
abbrev rowBody : MS := sIf (xTru (xVar 6)) (sAsg rowLc (sName 4)) sSkip
theorem comp_row {p f : Int} {a b n x y : PyData} {l m : List Int} (hp : p ≠ 0) (hl : l.length ≤ 1000) (hf : small64 f = true) :
    compD [7, 8] (sTup 2 (sCons (sName 7) (sCons (sName 8) sNil))) (PD.ret true) rowEl (pairL (l.map .int) (m.map .int)) [] [.fz (.int p), .fz a, .fz b, .fz n, .fz x, .fz y, .fz (.int f), .un, .un]
      = some ((lin p l m f).map .int, [.fz (.int p), .fz a, .fz b, .fz n, .fz x, .fz y, .fz (.int f), .un, .un]) := by
  have q := PD.comp_map (is := [7, 8]) (set := sTup 2 (sCons (sName 7) (sCons (sName 8) sNil))) (el := rowEl) (ds := pairL (l.map .int) (m.map .int)) (acc := []) (δ := [.fz (.int p), .fz a, .fz b, .fz n, .fz x, .fz y, .fz (.int f), .un, .un])
    (linD p f) (by rw [pairL_length]; simp; omega) (fun d hd => by
      obtain ⟨x, y, rfl⟩ := pair_mem hd
      exact ⟨_, _, by simp [sTup, sCons, sName, sNil, Cell.free]; rfl, by simp [rowEl, xBin, xVar, xCall, bnd, lif, PD.ret, mulD, mulI, addD, addI, modD, intD, intsD, mulOk, hf, hp, linD]; rfl, by simp [noOw], by simp [wipeD]⟩)
  rw [q, linD_map]
  rfl
theorem row_loop {p : Int} (hp : p ≠ 0) (a b n : PyData) : ∀ {vs : List PyData} {rows : List (List Int)}, Rows vs rows → ∀ (fs : List Int), (∀ f ∈ fs, small64 f = true) → ∀ (line : List Int), line.length ≤ 1000 → ∀ c5 c6 : Cell, c5.free = true → c6.free = true →
    ∃ c5' c6', loopD mixSet rowBody (pairL vs (fs.map .int)) [.fz (.int p), .fz a, .fz b, .fz n, .fz (.list (line.map .int)), c5, c6, .un, .un] = some (.ok .nx, [.fz (.int p), .fz a, .fz b, .fz n, .fz (.list ((combR p line rows fs).map .int)), c5', c6', .un, .un])
  | _, _, .nil, fs, _, line, _, c5, c6, _, _ => ⟨c5, c6, by simp [pairL, loopD, combR]⟩
  | _, _, .cons _ _, [], _, line, _, c5, c6, _, _ => ⟨c5, c6, by simp [pairL, loopD, combR]⟩
  | _, _, .cons (v := v) (r := r) hv t, f :: fs, hf, line, hl, c5, c6, h5, h6 => by
    have hl2 : (if f = 0 then line else lin p line r f).length ≤ 1000 := by
      split
      · exact hl
      · exact Nat.le_trans lin_len hl
    obtain ⟨d5, d6, e⟩ := row_loop hp a b n t fs (fun g hg => hf g (List.mem_cons_of_mem _ hg)) (if f = 0 then line else lin p line r f) hl2 (.fz v) (.fz (.int f)) rfl rfl
    refine ⟨d5, d6, ?_⟩
    have q := comp_row (p := p) (f := f) (a := a) (b := b) (n := n) (x := .list (line.map .int)) (y := v) (l := line) (m := r) hp hl (hf f (List.mem_cons_self ..))
    have h1 : mixSet (.tuple [v, .int f]) [.fz (.int p), .fz a, .fz b, .fz n, .fz (.list (line.map .int)), c5, c6, .un, .un] = some [.fz (.int p), .fz a, .fz b, .fz n, .fz (.list (line.map .int)), .fz v, .fz (.int f), .un, .un] := by
      simp [mixSet, sTup, sCons, sName, sNil, h5, h6]
    have hz : xCallF' zipD (bnd (xVar 4) fun d => bnd (bnd (xVar 5) fun d => bnd (PD.ret []) fun ds => PD.ret (d :: ds)) fun ds => PD.ret (d :: ds)) [.fz (.int p), .fz a, .fz b, .fz n, .fz (.list (line.map .int)), .fz v, .fz (.int f), .un, .un] = some (.ok (pairL (line.map .int) (r.map .int)), [.fz (.int p), .fz a, .fz b, .fz n, .fz (.list (line.map .int)), .fz v, .fz (.int f), .un, .un]) := by
      have hs : seqD (.list (line.map .int)) = some (line.map .int) := rfl
      simp [xCallF', bnd, xVar, PD.ret, lif, zipD, hs, hv]
    have hlc : rowLc [.fz (.int p), .fz a, .fz b, .fz n, .fz (.list (line.map .int)), .fz v, .fz (.int f), .un, .un] = some (.ok (.list ((lin p line r f).map .int)), [.fz (.int p), .fz a, .fz b, .fz n, .fz (.list (line.map .int)), .fz v, .fz (.int f), .un, .un]) := by
      have hx := xComp_eq (is := [7, 8]) (set := sTup 2 (sCons (sName 7) (sCons (sName 8) sNil))) hz (by simp [noOw]) q
      unfold rowLc
      rw [bnd_eq hx]
      rfl
    have h2 : rowBody [.fz (.int p), .fz a, .fz b, .fz n, .fz (.list (line.map .int)), .fz v, .fz (.int f), .un, .un] = some (.ok .nx, [.fz (.int p), .fz a, .fz b, .fz n, .fz (.list ((if f = 0 then line else lin p line r f).map .int)), .fz v, .fz (.int f), .un, .un]) := by
      by_cases h : f = 0
      · subst h
        simp [rowBody, sIf, xTru, xVar, bnd, lif, truthD, sSkip, PD.ret]
      · simp only [rowBody, sIf, xTru, xVar, bnd, lif, truthD, PD.ret]
        simp [h, sAsg, bnd, hlc, sName, Cell.free]
    show loopD mixSet rowBody (.tuple [v, .int f] :: pairL _ (fs.map .int)) _ = _
    unfold loopD
    simp only [h1, h2, e]
    rfl
end K00
namespace K00
open PySem PD
theorem rep_fits {n : Nat} (hn : n ≤ 1000) : 1 * (n : Int).toNat ≤ sizeLine := Nat.le_trans (by simp; exact hn) (Nat.le_trans (by decide : 1000 ≤ 16777216) (Nat.le_of_eq sizeLine_eq.symm))
theorem rep_row {n : Nat} (hn : n ≤ 1000) {f : M (List PyData)} {g : M PyData} {δ : Sg} (hl : f δ = some (.ok [.int 0], δ)) (hv : g δ = some (.ok (.int n), δ)) :
    xRepF f g δ = some (.ok ((List.replicate n (0 : Int)).map .int), δ) := by
  unfold xRepF
  rw [bnd_eq hl, bnd_eq hv]
  dsimp only
  rw [if_pos ⟨by omega, by omega, rep_fits hn⟩]
  simp [lif]
end K00
namespace K00
open PySem PD
def Tin (N : Int) (os : List PyData) : Prop := ∃ x y z : Int, os = [.int x, .int y, .int z] ∧ 0 ≤ z ∧ z ≤ N
theorem Tin.mono {N N' : Int} {os : List PyData} (h : Tin N os) (l : N ≤ N') : Tin N' os := by
  obtain ⟨x, y, z, e, h0, h1⟩ := h
  exact ⟨x, y, z, e, h0, by omega⟩
theorem take_tin {N k : Int} {os : List PyData} (h : Tin N os) (hN : N < 1000000) (hk : 0 < k) (hd : divOk k = true) :
    ∃ (v : Int) (os' : List PyData), g__law_take [.ow true os, .fz (.int k)] = some (.ok (.int v), [.ow true os', .fz (.int k)]) ∧ 0 ≤ v ∧ v < k ∧ Tin (N + 1) os' := by
  obtain ⟨x, y, z, rfl, z0, z1⟩ := h
  obtain ⟨v, x', z', e, h1, h2, h3, h4⟩ := take_any x y z k hk hd z0 (by omega)
  exact ⟨v, _, e, h1, h2, x', y, z', rfl, h3, by omega⟩
theorem w_take {b : Bool} {os : List PyData} {r : Sg} {N k : Int} {fs : M (List PyData)} {Q : PyData → Sg → Prop} (t : Tin N os) (hN : N < 1000000) (hk : 0 < k) (hd : divOk k = true)
    (f : Gd fs (.ow b os :: r) fun ds δ1 => ds = [.int k] ∧ δ1 = .ow b os :: r) (h : ∀ (v : Int) (os' : List PyData), 0 ≤ v → v < k → Tin (N + 1) os' → Q (.int v) (.ow b os' :: r)) : Gd (xDefO g__law_take 0 fs) (.ow b os :: r) Q := by
  obtain ⟨v, os', e, h1, h2, t'⟩ := take_tin t hN hk hd
  refine w_defO .z (f.imp fun ds δ1 q => ?_)
  obtain ⟨rfl, rfl⟩ := q
  exact ⟨b, os, true, os', .int v, _, _, .z, e, .z, h v os' h1 h2 t'⟩
theorem at_some {xs : List PyData} {v : Int} (h0 : 0 ≤ v) (h1 : v < xs.length) : ∃ d ∈ xs, L2.atI xs v = some d := by
  refine ⟨xs[v.toNat]'(by omega), List.getElem_mem _, ?_⟩
  unfold L2.atI L2.ixN
  rw [if_pos h0, if_pos h1]
  simp
theorem of_eq {N : Int} {os xs : List PyData} (t : Tin N os) (hN : N < 1000000) (h0 : 0 < xs.length) (h1 : xs.length < 1000000) :
    ∃ d ∈ xs, ∃ os', g__law_of [.ow true os, .fz (.list xs)] = some (.ok d, [.ow true os', .fz (.list xs)]) ∧ Tin (N + 1) os' := by
  have hd : divOk xs.length = true := by unfold divOk; simp only [Bool.and_eq_true, decide_eq_true_eq]; omega
  obtain ⟨v, os', e, v0, v1, t'⟩ := take_tin (k := xs.length) t hN (by omega) hd
  obtain ⟨d, hm, e2⟩ := at_some v0 v1
  refine ⟨d, hm, os', ?r, t'⟩
  walk_at "w_run"
  unfold B__law_of
  walk_at "wp"
  refine w_defO .z ?_
  walk_at "wp"
  refine w_lif rfl ?_
  walk_at "wp"
  refine ⟨_, _, _, _, _, _, _, .z, e, .z, ?_⟩
  refine w_lif e2 ?_
  exact ⟨rfl, rfl⟩
end K00
namespace K00
open PySem PD
end K00
namespace K00
open PySem PD
theorem all_map {f : PyData → Bool} {ds : List PyData} : allD [.list (ds.map fun d => .bool (f d))] = some (.bool (ds.all f)) := by
  have h : (ds.map fun d => PyData.bool (f d)) = (ds.map f).map .bool := by simp
  rw [h, o_all]
  simp
end K00
namespace K00
open PySem PD
inductive Sm : Nat → PyData → Prop
  | non {n : Nat} : Sm n .none
  | int {n : Nat} (i : Int) : Sm n (.int i)
  | bl {n : Nat} (b : Bool) : Sm n (.bool b)
  | tup {n : Nat} {ds : List PyData} (l : ds.length ≤ 1000000) (h : ∀ d ∈ ds, Sm n d) : Sm (n + 1) (.tuple ds)
  | lst {n : Nat} {ds : List PyData} (l : ds.length ≤ 1000000) (h : ∀ d ∈ ds, Sm n d) : Sm (n + 1) (.list ds)
theorem pair_self {ds : List PyData} {d : PyData} (h : d ∈ pairL ds ds) : ∃ x ∈ ds, d = .tuple [x, x] := by
  induction ds with
  | nil => cases h
  | cons y ds ih =>
    rcases List.mem_cons.mp h with rfl | h
    · exact ⟨y, List.mem_cons_self .., rfl⟩
    · obtain ⟨x, hx, e⟩ := ih h
      exact ⟨x, List.mem_cons_of_mem _ hx, e⟩
theorem same_comp {G : Sg → Option (Ans PyData × Sg)} {d : PyData} {ds : List PyData} (l : ds.length ≤ 1000000) (h : ∀ x ∈ ds, G [.fz x, .fz x] = some (.ok (.bool true), [.fz x, .fz x])) :
    compD [2, 3] (sTup 2 (sCons (sName 2) (sCons (sName 3) sNil))) (PD.ret true) (xDef G (bnd (xVar 2) fun d => bnd (bnd (xVar 3) fun d => bnd (PD.ret []) fun ds => PD.ret (d :: ds)) fun ds => PD.ret (d :: ds))) (pairL ds ds) [] [.fz d, .fz d, .un, .un]
      = some ((pairL ds ds).map (fun _ => .bool ((fun _ => true) d)), [.fz d, .fz d, .un, .un]) := by
  refine comp_fun _ (by rw [pairL_length]; omega) fun y hy => ?_
  obtain ⟨x, hx, rfl⟩ := pair_self hy
  walk_at "wp"
  exact ⟨_, _, h x hx, rfl, rfl, rfl⟩
theorem same_seq {G : Sg → Option (Ans PyData × Sg)} {d : PyData} {ds : List PyData} (hd : d = .tuple ds ∨ d = .list ds) (l : ds.length ≤ 1000000) (h : ∀ x ∈ ds, G [.fz x, .fz x] = some (.ok (.bool true), [.fz x, .fz x])) :
    runD 4 (B__law_same G) [.fz d, .fz d] = some (.ok (.bool true), [.fz d, .fz d]) := by
  have q := same_comp (d := d) l h
  have hs : seqD d = some ds := by rcases hd with rfl | rfl <;> rfl
  have hl : lenD [d] = some (.int ds.length) := by rcases hd with rfl | rfl <;> rfl
  have h1 : isiD ["list", "tuple"] d = some (.bool true) := by rcases hd with rfl | rfl <;> rfl
  walk_at "w_run"
  unfold B__law_same
  walk_at "wp"
  refine w_lif h1 ?_
  refine w_lif rfl ?_
  walk_at "wp"
  refine w_lif rfl ?_
  walk_at "wp"
  refine w_lif rfl ?_
  have hn : ∀ b : Bool, neD (.bool b) (.bool b) = some (.bool false) := by intro b; cases b <;> rfl
  refine w_lif (hn _) ?_
  refine w_lif rfl ?_
  walk_at "wp"
  refine w_lif rfl ?_
  walk_at "wp"
  refine w_lif rfl ?_
  refine w_lif (hn _) ?_
  refine w_lif rfl ?_
  walk_at "wp"
  refine w_lif hl ?_
  walk_at "wp"
  refine w_lif hl ?_
  refine w_lif (o_eqI _ _) ?_
  refine ⟨_, rfl, ?_⟩
  rw [decide_eq_true rfl]
  walk_at "wp"
  refine w_lif (o_zip hs hs) ?_
  refine ⟨rfl, _, _, q, ?_⟩
  walk_at "wp"
  refine w_lif (all_map (f := fun _ => true)) ?_
  exact ⟨by simp, rfl⟩
theorem same_eq : ∀ {n : Nat} {d : PyData}, Sm n d → ∀ m, n < m → gr__law_same m [.fz d, .fz d] = some (.ok (.bool true), [.fz d, .fz d])
  | _, _, _, 0, h => absurd h (by omega)
  | _, _, .non, m + 1, _ => by
    have h : ∀ b : Bool, eqD (.bool b) (.bool b) = some (.bool true) := by intro b; cases b <;> rfl
    show runD 4 (B__law_same (gr__law_same m)) _ = _
    walk_at "w_run"
    unfold B__law_same
    walk_at "wp"
    refine w_lif (a := .bool false) rfl ?_
    refine w_lif (a := false) rfl ?_
    walk_at "wp"
    refine w_lif (a := .bool true) rfl ?_
    refine w_lif (a := true) rfl ?_
    walk_at "wp"
    refine w_lif (a := .bool true) rfl ?_
    refine ⟨_, rfl, ?_⟩
    walk_at "wp"
    refine w_lif (a := .bool false) rfl ?_
    walk_at "wp"
    refine w_lif (a := .bool false) rfl ?_
    refine w_lif (h _) ?_
    refine ⟨_, rfl, ?_⟩
    walk_at "wp"
    refine w_lif (a := .bool true) rfl ?_
    walk_at "wp"
    refine w_lif (a := .bool true) rfl ?_
    refine w_lif (h _) ?_
    exact ⟨rfl, rfl⟩
  | _, _, .int i, m + 1, _ => by
    show runD 4 (B__law_same (gr__law_same m)) _ = _
    walk_at "w_run"
    unfold B__law_same
    walk_at "wp"
    refine w_lif (a := .bool false) rfl ?_
    refine w_lif (a := false) rfl ?_
    walk_at "wp"
    refine w_lif (a := .bool false) rfl ?_
    refine w_lif (a := false) rfl ?_
    walk_at "wp"
    refine w_lif (a := .bool false) rfl ?_
    refine w_lif (a := false) rfl ?_
    walk_at "wp"
    refine w_lif (a := .bool true) rfl ?_
    refine ⟨_, rfl, ?_⟩
    walk_at "wp"
    refine w_lif (a := .bool false) rfl ?_
    refine ⟨_, rfl, _, rfl, ?_⟩
    show Gd (cond true _ _) _ _
    walk_at "wp"
    refine w_lif (o_eqI _ _) ?_
    exact ⟨by simp, rfl⟩
  | _, _, .bl b, m + 1, _ => by
    have h : ∀ b : Bool, eqD (.bool b) (.bool b) = some (.bool true) := by intro b; cases b <;> rfl
    show runD 4 (B__law_same (gr__law_same m)) _ = _
    walk_at "w_run"
    unfold B__law_same
    walk_at "wp"
    refine w_lif (a := .bool false) rfl ?_
    refine w_lif (a := false) rfl ?_
    walk_at "wp"
    refine w_lif (a := .bool false) rfl ?_
    refine w_lif (a := false) rfl ?_
    walk_at "wp"
    refine w_lif (a := .bool true) rfl ?_
    refine w_lif (a := true) rfl ?_
    walk_at "wp"
    refine w_lif (h b) ?_
    refine ⟨_, rfl, ?_⟩
    walk_at "wp"
    refine w_lif (a := .bool true) rfl ?_
    walk_at "wp"
    refine w_lif (a := .bool true) rfl ?_
    refine w_lif (h _) ?_
    refine ⟨_, rfl, ?_⟩
    walk_at "wp"
    refine w_lif (a := .bool false) rfl ?_
    walk_at "wp"
    refine w_lif (a := .bool false) rfl ?_
    refine w_lif (h _) ?_
    exact ⟨rfl, rfl⟩
  | _, _, .tup l h, m + 1, hm => same_seq (.inl rfl) l fun x hx => same_eq (h x hx) m (by omega)
  | _, _, .lst l h, m + 1, hm => same_seq (.inr rfl) l fun x hx => same_eq (h x hx) m (by omega)
end K00
namespace K00
open PySem PD
/-! rows -/
def Res (p : Int) (r : List Int) : Prop := ∀ x ∈ r, 0 ≤ x ∧ x < p
abbrev rowT (r : List Int) : PyData := .tuple (r.map .int)
abbrev rowL (r : List Int) : PyData := .list (r.map .int)
theorem rows_T : ∀ rows : List (List Int), Rows (rows.map rowT) rows
  | [] => .nil
  | r :: rows => .cons rfl (rows_T rows)
theorem rows_L : ∀ rows : List (List Int), Rows (rows.map rowL) rows
  | [] => .nil
  | r :: rows => .cons rfl (rows_L rows)
theorem fmod_id {p x : Int} (h0 : 0 ≤ x) (h1 : x < p) : x.fmod p = x := by rw [Int.fmod_eq_emod_of_nonneg _ (by omega), Int.emod_eq_of_lt h0 h1]
theorem lin_res {p f : Int} {l m : List Int} (hp : 0 < p) : Res p (lin p l m f) := by
  intro x hx
  unfold lin at hx
  obtain ⟨i, hi, rfl⟩ := List.getElem_of_mem hx
  rw [List.getElem_zipWith]
  exact ⟨Int.fmod_nonneg_of_pos _ hp, Int.fmod_lt_of_pos _ hp⟩
theorem lin_length {p f : Int} {l m : List Int} : (lin p l m f).length = min l.length m.length := by
  unfold lin
  rw [List.length_zipWith]
theorem lin_zero {p : Int} {l m : List Int} (h : Res p l) (hl : l.length = m.length) : lin p l m 0 = l := by
  unfold lin
  apply List.ext_getElem
  · rw [List.length_zipWith]
    omega
  · intro i h1 h2
    rw [List.getElem_zipWith]
    obtain ⟨a, b⟩ := h l[i] (List.getElem_mem _)
    rw [Int.zero_mul, Int.add_zero]
    exact fmod_id a b
theorem comb_ok {p : Int} {n : Nat} (hp : 0 < p) : ∀ {rows : List (List Int)} {fs line : List Int}, (∀ r ∈ rows, r.length = n) → line.length = n → Res p line →
    combR p line rows fs = comb p line rows fs ∧ (comb p line rows fs).length = n ∧ Res p (comb p line rows fs)
  | [], fs, line, _, hl, hr => by simp [combR, comb, hl]; exact hr
  | r :: rows, [], line, _, hl, hr => by simp [combR, comb, hl]; exact hr
  | r :: rows, f :: fs, line, h, hl, hr => by
    have hrl : r.length = n := h r (List.mem_cons_self ..)
    have ih := comb_ok (n := n) hp (rows := rows) (fs := fs) (line := lin p line r f) (fun r hr => h r (List.mem_cons_of_mem _ hr)) (by rw [lin_length]; omega) (lin_res hp)
    refine ⟨?_, ih.2⟩
    show combR p (if f = 0 then line else lin p line r f) rows fs = comb p (lin p line r f) rows fs
    split
    · rename_i e
      rw [e] at ih ⊢
      rw [← ih.1, lin_zero hr (by omega)]
    · exact ih.1
theorem res_zero {p : Int} (hp : 0 < p) (n : Nat) : Res p (List.replicate n 0) := by
  intro x hx
  obtain ⟨_, rfl⟩ := List.mem_replicate.mp hx
  omega
/-! takes in a comprehension -/
theorem comp_take {b : Bool} {k : Int} {i : Nat} {r : Sg} {fs : M (List PyData)} (rv : PyData → Sg) (hs : ∀ os d, sName i d (.ow b os :: r) = some (.ow b os :: rv d)) (hw : ∀ os d, wipeD (.ow b os :: rv d) [i] = .ow b os :: r) (hn : ∀ os d, noOw (.ow b os :: rv d) [i] = true)
    (he : ∀ os d, Gd fs (.ow b os :: rv d) fun ds δ1 => ds = [.int k] ∧ δ1 = .ow b os :: rv d) (hk : 0 < k) (hd : divOk k = true) {N : Int} {os ds : List PyData} (t : Tin N os) (hN : 0 ≤ N) (hl : N + ds.length < 1000000) :
    ∃ (l : List Int) (os' : List PyData), l.length = ds.length ∧ Res k l ∧ Tin (N + ds.length) os' ∧ compD [i] (sName i) (PD.ret true) (xDefO g__law_take 0 fs) ds [] (.ow b os :: r) = some (l.map .int, .ow b os' :: r) := by
  obtain ⟨acc, δ', e, l, os', rfl, hj, hr, t', rfl⟩ := comp_inv (is := [i]) (set := sName i) (el := xDefO g__law_take 0 fs) (ds := ds) (acc := []) (δ := .ow b os :: r)
    (fun j acc δ => ∃ (l : List Int) (os' : List PyData), acc = l.map .int ∧ l.length = j ∧ Res k l ∧ Tin (N + j) os' ∧ δ = .ow b os' :: r)
    ⟨[], os, rfl, rfl, (fun x h => absurd h (List.not_mem_nil)), by simpa using t, rfl⟩ (by simp; omega) fun j d hj acc δ ⟨l, os', ea, el, hr, t', ed⟩ => by
      subst ea ed
      have hj' : j < ds.length := by
        obtain ⟨h, _⟩ := List.getElem?_eq_some_iff.mp hj
        exact h
      obtain ⟨y, δ3, e, v, os'', rfl, rfl, h0, h1, t''⟩ := w_take (b := b) (r := rv d) (Q := fun y δ3 => ∃ (v : Int) (os'' : List PyData), y = .int v ∧ δ3 = .ow b os'' :: rv d ∧ 0 ≤ v ∧ v < k ∧ Tin (N + j + 1) os'') t' (by omega) hk hd (he os' d)
        fun v os'' h0 h1 t'' => ⟨v, os'', rfl, rfl, h0, h1, t''⟩
      refine ⟨_, _, _, hs os' d, e, hn _ _, l ++ [v], os'', by simp, by simp [el], ?_, by rw [Int.natCast_add]; simpa [Int.add_assoc] using t'', hw _ _⟩
      intro x hx
      rcases List.mem_append.mp hx with hx | hx
      · exact hr x hx
      · rw [List.mem_singleton.mp hx]
        exact ⟨h0, h1⟩
  exact ⟨l, os', hj, hr, t', e⟩
end K00
namespace K00
open PySem PD
def Flat (n : Nat) (d : PyData) : Prop := d.canLay0 = true ∧ d.depth ≤ n
theorem flat_all {n : Nat} : ∀ {ds : List PyData}, (∀ d ∈ ds, Flat n d) → PyData.canLayAll0 ds = true ∧ PyData.depthAll ds ≤ n
  | [], _ => by simp [PyData.canLayAll0, PyData.depthAll]
  | d :: ds, h => by
    have h1 := h d (List.mem_cons_self ..)
    have h2 := flat_all fun x hx => h x (List.mem_cons_of_mem _ hx)
    rw [PyData.canLayAll0.eq_2, PyData.depthAll.eq_2]
    simp only [h1.1, h2.1, Bool.and_self, true_and]
    have := h1.2
    have := h2.2
    omega
theorem flat_int {n : Nat} (i : Int) : Flat n (.int i) := by simp [Flat, PyData.canLay0, PyData.depth]
theorem flat_tup {n : Nat} {ds : List PyData} (h : ∀ d ∈ ds, Flat n d) : Flat (n + 1) (.tuple ds) := by
  have := flat_all h
  simp [Flat, PyData.canLay0, PyData.depth, this.1]
  omega
theorem flat_lst {n : Nat} {ds : List PyData} (h : ∀ d ∈ ds, Flat n d) : Flat (n + 1) (.list ds) := by
  have := flat_all h
  simp [Flat, PyData.canLay0, PyData.depth, this.1]
  omega
theorem flat_row {r : List Int} : Flat 1 (rowT r) := flat_tup fun d hd => by
  obtain ⟨i, _, rfl⟩ := List.mem_map.mp hd
  exact flat_int i
theorem flat_rows {rows : List (List Int)} : Flat 2 (.list (rows.map rowT)) := flat_lst fun d hd => by
  obtain ⟨i, _, rfl⟩ := List.mem_map.mp hd
  exact flat_row
theorem Flat.shaped {n : Nat} {d : PyData} (h : Flat n d) (hn : n ≤ 64) : SeqAt.shaped d = true := by
  unfold SeqAt.shaped
  rw [h.1, decide_eq_true (Nat.le_trans h.2 hn)]
  rfl
theorem neD_nil {ds : List PyData} {n : Nat} (h : Flat n (.list ds)) (hn : n ≤ 64) : neD (.list ds) (.list []) = some (.bool (!ds.isEmpty)) := by
  have h2 : SeqAt.shaped (.list []) = true := rfl
  unfold neD
  rw [if_pos ⟨h.shaped hn, h2⟩]
  cases ds <;> simp [PyData.eqv, PyData.eqvAll]
theorem eqD_nil {ds : List PyData} {n : Nat} (h : Flat n (.list ds)) (hn : n ≤ 64) : eqD (.list ds) (.list []) = some (.bool ds.isEmpty) := by
  have h2 : SeqAt.shaped (.list []) = true := rfl
  unfold eqD
  rw [if_pos ⟨h.shaped hn, h2⟩]
  cases ds <;> simp [PyData.eqv, PyData.eqvAll]
structure Rw (p : Int) (n : Nat) (r : List Int) : Prop where
  len : r.length = n
  res : Res p r
def VI (p : Int) (m : PyData) (n : Nat) (N : Int) (j : Nat) (δ : Sg) : Prop := ∃ (rows : List (List Int)) (os : List PyData) (c5 c6 : Cell), δ = [.ow true os, .fz (.int p), .fz m, .fz (.int n), .ow false (rows.map rowT), c5, c6, .un] ∧ c5.free = true ∧ c6.free = true ∧ rows.length = j ∧ (∀ r ∈ rows, Rw p n r) ∧ Tin (N + 8 * j) os
theorem VI.more {p : Int} {m : PyData} {n : Nat} {N : Int} {j : Nat} {rows : List (List Int)} {os : List PyData} {c5 c6 : Cell} {r : List Int} (f5 : c5.free = true) (f6 : c6.free = true) (hj : rows.length = j) (hr : ∀ r ∈ rows, Rw p n r) (h : Rw p n r) (t : Tin (N + 8 * (j + 1)) os) :
    VI p m n N (j + 1) [.ow true os, .fz (.int p), .fz m, .fz (.int n), .ow false (rows.map rowT ++ [rowT r]), c5, c6, .un] :=
  ⟨rows ++ [r], os, c5, c6, by simp, f5, f6, by simp [hj], fun x hx => by
    rcases List.mem_append.mp hx with hx | hx
    · exact hr x hx
    · rw [List.mem_singleton.mp hx]; exact h, by simpa using t⟩
theorem range_take {j : Int} (h0 : 0 ≤ j) (h : j < 1000000) : range1D [.int j] = some (rangeL 0 j.toNat) := by
  unfold range1D fit62
  dsimp only
  rw [if_pos]
  simp only [Bool.and_eq_true, decide_eq_true_eq]
  omega
theorem rangeL_length (lo : Int) (n : Nat) : (rangeL lo n).length = n := by simp [rangeL]
end K00
namespace K00
open PySem PD
theorem comp_filter {is : List Nat} {set : Tg} {t : M Bool} {el : M PyData} {δ : Sg} (f : PyData → Bool) : ∀ {ds acc : List PyData}, acc.length + ds.length ≤ 1000000 →
    (∀ d ∈ ds, Gs set d δ fun δ1 => Gd t δ1 fun b δ2 => b = f d ∧ (b = true → Gd el δ2 fun y δ3 => y = d ∧ noOw δ3 is = true ∧ wipeD δ3 is = δ) ∧ (b = false → noOw δ2 is = true ∧ wipeD δ2 is = δ)) →
    compD is set t el ds acc δ = some (acc ++ ds.filter f, δ)
  | [], acc, _, _ => by simp [compD]
  | d :: ds, acc, hl, h => by
    obtain ⟨δ1, e1, b, δ2, e2, hb, h1, h2⟩ := h d (List.mem_cons_self ..)
    have hs : acc.length < sizeLine := by rw [sizeLine_eq]; simp at hl; omega
    cases b with
    | true =>
      obtain ⟨y, δ3, e3, rfl, n, w⟩ := h1 rfl
      have q := comp_filter (is := is) (set := set) (t := t) (el := el) (δ := δ) f (ds := ds) (acc := acc ++ [y]) (by simp at hl ⊢; omega) fun d' hd => h d' (List.mem_cons_of_mem _ hd)
      unfold compD
      simp only [e1, e2, e3, hs, n, and_self, if_true, w, q, List.filter_cons, ← hb]
      simp
    | false =>
      obtain ⟨n, w⟩ := h2 rfl
      have q := comp_filter (is := is) (set := set) (t := t) (el := el) (δ := δ) f (ds := ds) (acc := acc) (by simp at hl ⊢; omega) fun d' hd => h d' (List.mem_cons_of_mem _ hd)
      unfold compD
      simp only [e1, e2, n, if_true, w, q, List.filter_cons, ← hb]
      simp
theorem o_list {xs : List PyData} (h : xs.length ≤ 1000000) : listD [.tuple xs] = some xs := by
  unfold listD
  dsimp only
  rw [if_pos (Nat.le_trans h (by rw [sizeLine_eq]; decide))]
theorem o_listL {xs : List PyData} (h : xs.length ≤ 1000000) : listD [.list xs] = some xs := by
  unfold listD
  dsimp only
  rw [if_pos (Nat.le_trans h (by rw [sizeLine_eq]; decide))]
theorem o_cat {xs ys : List PyData} (h : xs.length + ys.length ≤ 1000000) : catL (.list xs) (.list ys) = some (xs ++ ys) := by
  unfold catL
  dsimp only
  rw [if_pos (Nat.le_trans h (by rw [sizeLine_eq]; decide))]
theorem res_small {p : Int} {r : List Int} (hp2 : p < 1000) (h : Res p r) : ∀ x ∈ r, small64 x = true := fun x hx => by
  have := h x hx
  unfold small64
  simp only [Bool.and_eq_true, decide_eq_true_eq]
  omega
end K00
end

section
set_option Elab.async false
set_option linter.all false
set_option maxRecDepth 100000
set_option maxHeartbeats 4000000
namespace K00
open PySem PySem.Spec PyProof.Rows L2 PD
variable {P : Program} {w : World} {K : PySem.W.Frag} {mg : Str → Option Value} {base : Heap}
theorem sr_un3 {H : Hp} {v : V} : SR K ph0 am0 (L2.start ["a", "b", "c"] [v]) H [.un, .un, .un] := sr0_of rfl fun i c h => by
  match i, h with
  | 0, h => cases h; exact .inl rfl
  | 1, h => cases h; exact .inl rfl
  | 2, h => cases h; exact .inl rfl
theorem ok_under {fa : Addr} {fd : FuncData} (F : Fun K "_law_under" "_law_under" s__law_under fa fd)
    (m_isinstance : mg "isinstance" = none) (m_LookupError : mg "LookupError" = none) (m_ValueError : mg "ValueError" = none) (m_TypeError : mg "TypeError" = none) (m_KeyError : mg "KeyError" = none) (m_IndexError : mg "IndexError" = none)
    (m_RuntimeError : mg "RuntimeError" = none) (m_AttributeError : mg "AttributeError" = none) (m_Exception : mg "Exception" = none) :
    FnOk P w K mg base (L2.CX P w) 1 fa fd ["error_so"] (spIs K [.type "LookupError", .type "ValueError", .type "TypeError", .type "KeyError", .type "IndexError", .type "RuntimeError", .type "AttributeError", .type "Exception"]) := by
  refine F.okX S__law_under (fun vs H Q E h => by obtain ⟨_, _, _, rfl, _⟩ := h; rfl) (fun cdv A outer s H vs Q E hr h => ?_)
  obtain ⟨a, C, bl, rfl, ha, hE, hk, k⟩ := h
  match bl, hk with
  | [b0, b1, b2, b3, b4, b5, b6, b7], ⟨k0, k1, k2, k3, k4, k5, k6, k7, _⟩ =>
    have hL : ∀ {L : List (Nat × VP)}, (0, vE C) ∈ (0, vE C) :: L := fun {_} => List.mem_cons_self ..
    have R : RSs (CxD P w K mg base N__law_under "_law_under" s__law_under fa cdv A outer s H E) (defBody s__law_under) (ivS K ph0 [.un, .un, .un] [(0, vE C)]).pre (vD K ph0 (.list [.bool b0, .bool b1, .bool b2, .bool b3, .bool b4, .bool b5, .bool b6, .bool b7])).p :=
      rss_setD (i := 1) (d := .list [.bool b0, .bool b1, .bool b2]) S__law_under.nd (rx_lstD (rxs_cons (rx_isB "LookupError" m_isinstance m_LookupError rfl hE k0 (rx_varS hL)) (rxs_cons (rx_isB "ValueError" m_isinstance m_ValueError rfl hE k1 (rx_varS hL)) (rxs_cons (rx_isB "TypeError" m_isinstance m_TypeError rfl hE k2 (rx_varS hL)) rxs_nil))) (by rw [sizeLine_eq]; simp))
      (rss_setD (i := 2) (d := .list [.bool b3, .bool b4]) S__law_under.nd (rx_lstD (rxs_cons (rx_isB "KeyError" m_isinstance m_KeyError rfl hE k3 (rx_varS hL)) (rxs_cons (rx_isB "IndexError" m_isinstance m_IndexError rfl hE k4 (rx_varS hL)) rxs_nil)) (by rw [sizeLine_eq]; simp))
      (rss_ret (rx_cat (xs := [.bool b0, .bool b1, .bool b2, .bool b3, .bool b4]) (ys := [.bool b5, .bool b6, .bool b7]) opf_catL op_catL
        (rx_cat (xs := [.bool b0, .bool b1, .bool b2]) (ys := [.bool b3, .bool b4]) opf_catL op_catL (rx_deS (W := fun cls d _ H => E cls d H) (de_var 1) ⟨_, rfl⟩) (rx_deS (W := fun cls d _ H => E cls d H) (de_var 2) ⟨_, rfl⟩) (catL_some (by simp)))
        (rx_lstD (rxs_cons (rx_isB "RuntimeError" m_isinstance m_RuntimeError rfl hE k5 (rx_varS hL)) (rxs_cons (rx_isB "AttributeError" m_isinstance m_AttributeError rfl hE k6 (rx_varS hL)) (rxs_cons (rx_isB "Exception" m_isinstance m_Exception rfl hE k7 (rx_varS hL)) rxs_nil))) (by rw [sizeLine_eq]; simp))
        (catL_some (by simp)))))
    obtain ⟨t, pt, qt⟩ := R.ex
    refine ⟨t, pt, qt _ _ H ⟨sr_un3, ⟨⟨.ref a, rfl, ha⟩, trivial⟩, trivial⟩ fun v H' sm p => k v H' sm ?_⟩
    have p' : Dq K (hid ph0 am0 H') v _ := p
    rw [hid0] at p'
    exact p'
theorem ok_which {fa : Addr} {fd : FuncData} {C_BadLine C_CanNot C_NoBlock C_NoBus C_NoItem C_NoLine C_NoPerson C_NoRegister C_NothingDone C_TooMany C_Unfit : Addr} (F : Fun K "_law_which" "_law_which" s__law_which fa fd) (m_isinstance : mg "isinstance" = none) (XG_BadLine : mg "BadLine" = some (.ref C_BadLine)) (XG_CanNot : mg "CanNot" = some (.ref C_CanNot)) (XG_NoBlock : mg "NoBlock" = some (.ref C_NoBlock)) (XG_NoBus : mg "NoBus" = some (.ref C_NoBus)) (XG_NoItem : mg "NoItem" = some (.ref C_NoItem)) (XG_NoLine : mg "NoLine" = some (.ref C_NoLine)) (XG_NoPerson : mg "NoPerson" = some (.ref C_NoPerson)) (XG_NoRegister : mg "NoRegister" = some (.ref C_NoRegister)) (XG_NothingDone : mg "NothingDone" = some (.ref C_NothingDone)) (XG_TooMany : mg "TooMany" = some (.ref C_TooMany)) (XG_Unfit : mg "Unfit" = some (.ref C_Unfit)) :
    FnOk P w K mg base (L2.CX P w) 1 fa fd ["error_so"] (spIs K [.ref C_BadLine, .ref C_CanNot, .ref C_NoBlock, .ref C_NoBus, .ref C_NoItem, .ref C_NoLine, .ref C_NoPerson, .ref C_NoRegister, .ref C_NothingDone, .ref C_TooMany, .ref C_Unfit]) := by
  refine F.okX S__law_which (fun vs H Q E h => by obtain ⟨_, _, _, rfl, _⟩ := h; rfl) (fun cdv A outer s H vs Q E hr h => ?_)
  obtain ⟨a, C, bl, rfl, ha, hE, hk, k⟩ := h
  match bl, hk with
  | [b0, b1, b2, b3, b4, b5, b6, b7, b8, b9, b10], ⟨k0, k1, k2, k3, k4, k5, k6, k7, k8, k9, k10, _⟩ =>
    have hL : ∀ {L : List (Nat × VP)}, (0, vE C) ∈ (0, vE C) :: L := fun {_} => List.mem_cons_self ..
    have R : RSs (CxD P w K mg base N__law_which "_law_which" s__law_which fa cdv A outer s H E) (defBody s__law_which) (ivS K ph0 [.un, .un] [(0, vE C)]).pre (vD K ph0 (.list [.bool b0, .bool b1, .bool b2, .bool b3, .bool b4, .bool b5, .bool b6, .bool b7, .bool b8, .bool b9, .bool b10])).p :=
      rss_setD (i := 1) (d := .list [.bool b0, .bool b1, .bool b2, .bool b3]) S__law_which.nd (rx_lstD (rxs_cons (rx_isC m_isinstance XG_BadLine hE k0 (rx_varS hL)) (rxs_cons (rx_isC m_isinstance XG_CanNot hE k1 (rx_varS hL)) (rxs_cons (rx_isC m_isinstance XG_NoBlock hE k2 (rx_varS hL)) (rxs_cons (rx_isC m_isinstance XG_NoBus hE k3 (rx_varS hL)) rxs_nil)))) (by rw [sizeLine_eq]; simp))
      (rss_setD (i := 1) (d := .list [.bool b0, .bool b1, .bool b2, .bool b3, .bool b4, .bool b5, .bool b6, .bool b7]) S__law_which.nd (rx_cat (xs := [.bool b0, .bool b1, .bool b2, .bool b3]) (ys := [.bool b4, .bool b5, .bool b6, .bool b7]) opf_catL op_catL (rx_deS (W := fun cls d _ H => E cls d H) (de_var 1) ⟨_, rfl⟩) (rx_lstD (rxs_cons (rx_isC m_isinstance XG_NoItem hE k4 (rx_varS hL)) (rxs_cons (rx_isC m_isinstance XG_NoLine hE k5 (rx_varS hL)) (rxs_cons (rx_isC m_isinstance XG_NoPerson hE k6 (rx_varS hL)) (rxs_cons (rx_isC m_isinstance XG_NoRegister hE k7 (rx_varS hL)) rxs_nil)))) (by rw [sizeLine_eq]; simp)) (catL_some (by simp)))
      (rss_ret (rx_cat (xs := [.bool b0, .bool b1, .bool b2, .bool b3, .bool b4, .bool b5, .bool b6, .bool b7]) (ys := [.bool b8, .bool b9, .bool b10]) opf_catL op_catL (rx_deS (W := fun cls d _ H => E cls d H) (de_var 1) ⟨_, rfl⟩) (rx_lstD (rxs_cons (rx_isC m_isinstance XG_NothingDone hE k8 (rx_varS hL)) (rxs_cons (rx_isC m_isinstance XG_TooMany hE k9 (rx_varS hL)) (rxs_cons (rx_isC m_isinstance XG_Unfit hE k10 (rx_varS hL)) rxs_nil))) (by rw [sizeLine_eq]; simp)) (catL_some (by simp)))))
    obtain ⟨t, pt, qt⟩ := R.ex
    refine ⟨t, pt, qt _ _ H ⟨sr0_of rfl fun i c h => ?_, ⟨⟨.ref a, rfl, ha⟩, trivial⟩, trivial⟩ fun v H' sm p => k v H' sm ?_⟩
    · match i, h with
      | 0, h => cases h; exact .inl rfl
      | 1, h => cases h; exact .inl rfl
    · have p' : Dq K (hid ph0 am0 H') v _ := p
      rw [hid0] at p'
      exact p'
/-- all that is known of a class with an __init__ that keeps its argument -/
structure XIni (P : Program) (w : World) (K : PySem.W.Frag) (mg : Str → Option Value) (base : Heap) (x : Str) (C fI : Addr) (fd : FuncData) (pn fld : Str) (B newId initId : String) (bm : List Value) : Prop where
  T : OexG K C B newId initId bm
  g : mg x = some (.ref C)
  i : PySem.W.findIn K (.ref C) "__init__" = some (some (.ref fI))
  t : PySem.W.typeIn K (.ref fI) = some (.type "function")
  F : FnOk P w K mg base (L2.CX P w) 1 fI fd ["self", pn] (spLe C fld)
  b : Binds K fd ["self", pn] []
  bk : ∀ a b : Value, bindArgs fd ⟨[a], [(pn, b)]⟩ = (pure [(("self" : Str), a), (pn, b)] : Sem (List (Str × Value)))
  hE : ExcC K C
  hF : XfC K C
  no : PySem.W.findIn K (.ref C) fld = some none
def valU : List Bool := [false, true, false, false, false, false, false, true]
def lookU : List Bool := [true, false, false, false, false, false, false, true]
def blU (k : Nat) : List Bool := if 2 ≤ k ∧ k ≤ 8 then lookU else valU
def blW (k : Nat) : List Bool := (List.range 11).map fun j => decide (j = k)
def bls (l : List Bool) : PyData := .list (l.map .bool)
def gotL (b : List PyData) : Nat → List PyData
  | 0 => b
  | k + 1 => gotL b k ++ [bls (blU k), bls (blW k)]
def rowI (i : Int) (ds : List PyData) : PyData := .list [.int i, .int i, .int i, .tuple ds, .int i, .int i, .int i]
def dlI (i : Int) (ds : List PyData) (k : Nat) : Sg := [.fz (.int i), .fz (.tuple ds), .fz (bls valU), .fz (bls lookU), .un, .fz (.list (gotL [rowI i ds, rowI i ds] k)), .fz (.list (gotL [rowI i ds, rowI i ds] k)), .un, .un, .un]
abbrev tsU : List Value := [.type "LookupError", .type "ValueError", .type "TypeError", .type "KeyError", .type "IndexError", .type "RuntimeError", .type "AttributeError", .type "Exception"]
theorem gotL_len {b : List PyData} : ∀ k, (gotL b k).length = b.length + 2 * k
  | 0 => rfl
  | k + 1 => by
    unfold gotL
    rw [List.length_append, gotL_len k]
    simp
    omega
theorem sm_bls (l : List Bool) (h : l.length ≤ 1000) : Sm 2 (bls l) := by
  unfold bls
  refine .lst (by simp; omega) fun x hx => ?_
  obtain ⟨b, _, rfl⟩ := List.mem_map.mp hx
  exact .bl b
def fE : M PyData := (bnd (xBinF catL (xVar 6) (bnd (xLst (bnd (xIf (xBool (xChain leD leD (ret (.int 2)) (xVar 7) (ret (.int 8)))) (xVar 3) (xVar 2)) fun d => bnd (bnd (bnd (xComp (xCallF' range1D (bnd (ret (.int 11)) fun d => bnd (ret []) fun ds => ret (d :: ds))) [9] (sName 9) (ret true) (xBin eqD (xVar 9) (xVar 7))) fun ds => ret (.list ds)) fun d => bnd (ret []) fun ds => ret (d :: ds)) fun ds => ret (d :: ds))) fun ds => ret (.list ds))) fun ds => ret (.list ds))
def dlE (i : Int) (ds : List PyData) (k : Nat) : Sg := [.fz (.int i), .fz (.tuple ds), .fz (bls valU), .fz (bls lookU), .un, .fz (.list (gotL [rowI i ds, rowI i ds] (k + 1))), .fz (.list (gotL [rowI i ds, rowI i ds] k)), .fz (.int (k : Nat)), .un, .un]
theorem ev_0 {i : Int} {ds : List PyData} : fE (dlE i ds 0) = some (.ok (.list (gotL [rowI i ds, rowI i ds] 1)), dlE i ds 0) := by kernel_rfl
theorem ev_1 {i : Int} {ds : List PyData} : fE (dlE i ds 1) = some (.ok (.list (gotL [rowI i ds, rowI i ds] 2)), dlE i ds 1) := by kernel_rfl
theorem ev_2 {i : Int} {ds : List PyData} : fE (dlE i ds 2) = some (.ok (.list (gotL [rowI i ds, rowI i ds] 3)), dlE i ds 2) := by kernel_rfl
theorem ev_3 {i : Int} {ds : List PyData} : fE (dlE i ds 3) = some (.ok (.list (gotL [rowI i ds, rowI i ds] 4)), dlE i ds 3) := by kernel_rfl
theorem ev_4 {i : Int} {ds : List PyData} : fE (dlE i ds 4) = some (.ok (.list (gotL [rowI i ds, rowI i ds] 5)), dlE i ds 4) := by kernel_rfl
theorem ev_5 {i : Int} {ds : List PyData} : fE (dlE i ds 5) = some (.ok (.list (gotL [rowI i ds, rowI i ds] 6)), dlE i ds 5) := by kernel_rfl
theorem ev_6 {i : Int} {ds : List PyData} : fE (dlE i ds 6) = some (.ok (.list (gotL [rowI i ds, rowI i ds] 7)), dlE i ds 6) := by kernel_rfl
theorem ev_7 {i : Int} {ds : List PyData} : fE (dlE i ds 7) = some (.ok (.list (gotL [rowI i ds, rowI i ds] 8)), dlE i ds 7) := by kernel_rfl
theorem ev_8 {i : Int} {ds : List PyData} : fE (dlE i ds 8) = some (.ok (.list (gotL [rowI i ds, rowI i ds] 9)), dlE i ds 8) := by kernel_rfl
theorem ev_9 {i : Int} {ds : List PyData} : fE (dlE i ds 9) = some (.ok (.list (gotL [rowI i ds, rowI i ds] 10)), dlE i ds 9) := by kernel_rfl
theorem ev_10 {i : Int} {ds : List PyData} : fE (dlE i ds 10) = some (.ok (.list (gotL [rowI i ds, rowI i ds] 11)), dlE i ds 10) := by kernel_rfl
theorem xdef_some {G : Sg → Option (Ans PyData × Sg)} {fs : M (List PyData)} {l : List PyData} {δ δ1 c : Sg} {d : PyData} (h1 : fs δ = some (.ok l, δ1)) (h2 : G (l.map .fz) = some (.ok d, c)) : xDef G fs δ = some (.ok d, δ1) := by
  unfold xDef bnd
  simp only [h1, h2]
theorem same_end {i : Int} {ds : List PyData} (hds : Sm 1 (.tuple ds)) : ∃ δ', xDef g__law_same (bnd (xVar 5) fun d => bnd (bnd (xVar 6) fun d => bnd (ret []) fun ds => ret (d :: ds)) fun ds => ret (d :: ds)) (dlI i ds 11) = some (.ok (.bool true), δ') := by
  have hrow : Sm 2 (rowI i ds) := .lst (by simp) fun x hx => by
    simp only [List.mem_cons, List.not_mem_nil, or_false] at hx
    rcases hx with rfl | rfl | rfl | rfl | rfl | rfl | rfl <;> first | exact .int _ | exact hds
  have hgot : ∀ k, ∀ x ∈ gotL [rowI i ds, rowI i ds] k, Sm 2 x := fun k => by
    induction k with
    | zero =>
      intro x hx
      simp only [gotL, List.mem_cons, List.not_mem_nil, or_false] at hx
      rcases hx with rfl | rfl <;> exact hrow
    | succ k ih =>
      intro x hx
      unfold gotL at hx
      rcases List.mem_append.mp hx with hx | hx
      · exact ih x hx
      · simp only [List.mem_cons, List.not_mem_nil, or_false] at hx
        rcases hx with rfl | rfl
        · refine sm_bls _ ?_
          unfold blU lookU valU
          split <;> simp
        · refine sm_bls _ ?_
          unfold blW
          simp
  have h := same_eq (n := 3) (d := .list (gotL [rowI i ds, rowI i ds] 11)) (.lst (by rw [gotL_len]; simp) (hgot 11)) 16 (by omega)
  have hg : g__law_same = gr__law_same 16 := rfl
  rw [hg]
  exact ⟨_, xdef_some (l := [.list (gotL [rowI i ds, rowI i ds] 11), .list (gotL [rowI i ds, rowI i ds] 11)]) (δ1 := dlI i ds 11) rfl h⟩
abbrev PsI (K : PySem.W.Frag) (i : Int) (ds : List PyData) (C_BadLine C_CanNot C_NoBlock C_NoBus C_NoItem C_NoLine C_NoPerson C_NoRegister C_NothingDone C_TooMany C_Unfit : Addr) : List VP := [vX K ph0 C_BadLine "number" (.int i), vX0 C_CanNot, vX K ph0 C_NoBlock "number" (.int i), vX K ph0 C_NoBus "number" (.int i), vX K ph0 C_NoItem "path" (.tuple ds), vX K ph0 C_NoLine "number" (.int i), vX K ph0 C_NoPerson "number" (.int i), vX K ph0 C_NoRegister "number" (.int i), vX0 C_NothingDone, vX0 C_TooMany, vX0 C_Unfit]
section
variable {C_BadLine C_CanNot C_NoBlock C_NoBus C_NoItem C_NoLine C_NoPerson C_NoRegister C_NothingDone C_TooMany C_Unfit : Addr}
theorem psI_cls {i : Int} {ds : List PyData} {k : Nat} {P : VP} (h : (PsI K i ds C_BadLine C_CanNot C_NoBlock C_NoBus C_NoItem C_NoLine C_NoPerson C_NoRegister C_NothingDone C_TooMany C_Unfit)[k]? = some P) : ∃ C, ([C_BadLine, C_CanNot, C_NoBlock, C_NoBus, C_NoItem, C_NoLine, C_NoPerson, C_NoRegister, C_NothingDone, C_TooMany, C_Unfit] : List Addr)[k]? = some C ∧ ∀ H v, P.p H v → (vE C).p H v := by
  match k, h with
  | 0, h => cases h; exact ⟨_, rfl, fun _ _ q => vX_E q⟩
  | 1, h => cases h; exact ⟨_, rfl, fun _ _ q => vX0_E q⟩
  | 2, h => cases h; exact ⟨_, rfl, fun _ _ q => vX_E q⟩
  | 3, h => cases h; exact ⟨_, rfl, fun _ _ q => vX_E q⟩
  | 4, h => cases h; exact ⟨_, rfl, fun _ _ q => vX_E q⟩
  | 5, h => cases h; exact ⟨_, rfl, fun _ _ q => vX_E q⟩
  | 6, h => cases h; exact ⟨_, rfl, fun _ _ q => vX_E q⟩
  | 7, h => cases h; exact ⟨_, rfl, fun _ _ q => vX_E q⟩
  | 8, h => cases h; exact ⟨_, rfl, fun _ _ q => vX0_E q⟩
  | 9, h => cases h; exact ⟨_, rfl, fun _ _ q => vX0_E q⟩
  | 10, h => cases h; exact ⟨_, rfl, fun _ _ q => vX0_E q⟩
  | n + 11, h => simp at h
abbrev bmVE : List Value := [.type "ValueError", .type "Exception", .type "BaseException", .type "object"]
theorem body_made {fa : Addr} {fd : FuncData} {iV iL : String} {B_CanNot nI_CanNot iI_CanNot : String} {bm_CanNot : List Value} {B_NothingDone nI_NothingDone iI_NothingDone : String} {bm_NothingDone : List Value} {B_TooMany nI_TooMany iI_TooMany : String} {bm_TooMany : List Value} {B_Unfit nI_Unfit iI_Unfit : String} {bm_Unfit : List Value}
    {fI_BadLine : Addr} {fdI_BadLine : FuncData} (XI_BadLine : XIni P w K mg base "BadLine" C_BadLine fI_BadLine fdI_BadLine "number" "number" "ValueError" "ValueError.__new__" iV bmVE) {fI_NoBlock : Addr} {fdI_NoBlock : FuncData} (XI_NoBlock : XIni P w K mg base "NoBlock" C_NoBlock fI_NoBlock fdI_NoBlock "number" "number" "LookupError" "LookupError.__new__" iL bmLE) {fI_NoBus : Addr} {fdI_NoBus : FuncData} (XI_NoBus : XIni P w K mg base "NoBus" C_NoBus fI_NoBus fdI_NoBus "number" "number" "LookupError" "LookupError.__new__" iL bmLE) {fI_NoItem : Addr} {fdI_NoItem : FuncData} (XI_NoItem : XIni P w K mg base "NoItem" C_NoItem fI_NoItem fdI_NoItem "path" "path" "LookupError" "LookupError.__new__" iL bmLE) {fI_NoLine : Addr} {fdI_NoLine : FuncData} (XI_NoLine : XIni P w K mg base "NoLine" C_NoLine fI_NoLine fdI_NoLine "number" "number" "LookupError" "LookupError.__new__" iL bmLE) {fI_NoPerson : Addr} {fdI_NoPerson : FuncData} (XI_NoPerson : XIni P w K mg base "NoPerson" C_NoPerson fI_NoPerson fdI_NoPerson "number" "number" "LookupError" "LookupError.__new__" iL bmLE) {fI_NoRegister : Addr} {fdI_NoRegister : FuncData} (XI_NoRegister : XIni P w K mg base "NoRegister" C_NoRegister fI_NoRegister fdI_NoRegister "number" "number" "LookupError" "LookupError.__new__" iL bmLE)
    (X0_CanNot : ExcT K mg "CanNot" C_CanNot B_CanNot nI_CanNot iI_CanNot bm_CanNot) (X0_NothingDone : ExcT K mg "NothingDone" C_NothingDone B_NothingDone nI_NothingDone iI_NothingDone bm_NothingDone) (X0_TooMany : ExcT K mg "TooMany" C_TooMany B_TooMany nI_TooMany iI_TooMany bm_TooMany) (X0_Unfit : ExcT K mg "Unfit" C_Unfit B_Unfit nI_Unfit iI_Unfit bm_Unfit)
    {f_u : Addr} {fd_u : FuncData} (F_u : FnOk P w K mg base (L2.CX P w) 1 f_u fd_u ["error_so"] (spIs K tsU)) (e_u : mg "_law_under" = some (.ref f_u)) (k_u : PySem.W.keepIn K (.ref f_u) = true) (b_u : Binds K fd_u ["error_so"] [])
    {f_w : Addr} {fd_w : FuncData} (F_w : FnOk P w K mg base (L2.CX P w) 1 f_w fd_w ["error_so"] (spIs K [.ref C_BadLine, .ref C_CanNot, .ref C_NoBlock, .ref C_NoBus, .ref C_NoItem, .ref C_NoLine, .ref C_NoPerson, .ref C_NoRegister, .ref C_NothingDone, .ref C_TooMany, .ref C_Unfit])) (e_w : mg "_law_which" = some (.ref f_w)) (k_w : PySem.W.keepIn K (.ref f_w) = true) (b_w : Binds K fd_w ["error_so"] [])
    {a__law_same : Addr} {fd__law_same : FuncData} (F__law_same : FnOk P w K mg base (L2.CX P w) 16 a__law_same fd__law_same ["got", "due"] (spD K mg 2 g__law_same)) (e__law_same : mg "_law_same" = some (.ref a__law_same)) (k__law_same : PySem.W.keepIn K (.ref a__law_same) = true) (b__law_same : Binds K fd__law_same ["got", "due"] [])
    (hEs : ∀ (k : Nat) (C : Addr), ([C_BadLine, C_CanNot, C_NoBlock, C_NoBus, C_NoItem, C_NoLine, C_NoPerson, C_NoRegister, C_NothingDone, C_TooMany, C_Unfit] : List Addr)[k]? = some C → ExcC K C) (hKs : ∀ (k : Nat) (C : Addr), ([C_BadLine, C_CanNot, C_NoBlock, C_NoBus, C_NoItem, C_NoLine, C_NoPerson, C_NoRegister, C_NothingDone, C_TooMany, C_Unfit] : List Addr)[k]? = some C → Kits K C tsU (blU k) ∧ Kits K C [.ref C_BadLine, .ref C_CanNot, .ref C_NoBlock, .ref C_NoBus, .ref C_NoItem, .ref C_NoLine, .ref C_NoPerson, .ref C_NoRegister, .ref C_NothingDone, .ref C_TooMany, .ref C_Unfit] (blW k))
    (m_enumerate : mg "enumerate" = none) (m_range : mg "range" = none)
    {i : Int} {ds : List PyData} (hds : Sm 1 (.tuple ds)) (cdv : Value) (A : Around) (outer : List PySem.Env) (s : Shared) (H : Hp) (E : XK) (hr : Room 16 (A.deeper (envOfC "_law_made_right" (defScope s__law_made_right) s.heap.objs.size fa cdv))) :
    RSs (CxD P w K mg base N__law_made_right "_law_made_right" s__law_made_right fa cdv A outer s H E) (defBody s__law_made_right) (ivS K ph0 [.fz (.int i), .fz (.tuple ds), .un, .un, .un, .un, .un, .un, .un, .un] []).pre (vD K ph0 (.bool true)).p := by
  have hM : (4, vL (PsI K i ds C_BadLine C_CanNot C_NoBlock C_NoBus C_NoItem C_NoLine C_NoPerson C_NoRegister C_NothingDone C_TooMany C_Unfit)) ∈ [(4, vL (PsI K i ds C_BadLine C_CanNot C_NoBlock C_NoBus C_NoItem C_NoLine C_NoPerson C_NoRegister C_NothingDone C_TooMany C_Unfit))] := List.mem_cons_self ..
  refine rss_ds (W := fun cls d _ H => E cls d H) (δ2 := [.fz (.int i), .fz (.tuple ds), .fz (bls valU), .fz (bls lookU), .un, .un, .un, .un, .un, .un]) (ds_par2 (i := 2) (j := 3) rfl S__law_made_right.nd (da_cons (de_df (df_cat (de_df (df_cat (de_df (df_lst (da_cons de_bl (da_cons de_bl da_nil)))) (de_df (df_rep (df_lst (da_cons de_bl da_nil)) de_int)))) (de_df (df_lst (da_cons de_bl da_nil))))) (da_cons (de_df (df_cat (de_df (df_cat (de_df (df_lst (da_cons de_bl da_nil))) (de_df (df_rep (df_lst (da_cons de_bl da_nil)) de_int)))) (de_df (df_lst (da_cons de_bl da_nil))))) da_nil))) ⟨_, rfl, rfl⟩ rfl ?_
  refine rss_setV (i := 4) S__law_made_right.nd (rx_lst (Ps := PsI K i ds C_BadLine C_CanNot C_NoBlock C_NoBus C_NoItem C_NoLine C_NoPerson C_NoRegister C_NothingDone C_TooMany C_Unfit) (rxs_cons (rx_mk XI_BadLine.T XI_BadLine.i XI_BadLine.t XI_BadLine.F (hr.mono (by decide)) XI_BadLine.b XI_BadLine.g (rx_deS (W := fun cls d _ H => E cls d H) (de_var 0) ⟨_, rfl⟩)) (rxs_cons (rx_mk0 X0_CanNot) (rxs_cons (rx_mk XI_NoBlock.T XI_NoBlock.i XI_NoBlock.t XI_NoBlock.F (hr.mono (by decide)) XI_NoBlock.b XI_NoBlock.g (rx_deS (W := fun cls d _ H => E cls d H) (de_var 0) ⟨_, rfl⟩)) (rxs_cons (rx_mk XI_NoBus.T XI_NoBus.i XI_NoBus.t XI_NoBus.F (hr.mono (by decide)) XI_NoBus.b XI_NoBus.g (rx_deS (W := fun cls d _ H => E cls d H) (de_var 0) ⟨_, rfl⟩)) (rxs_cons (rx_mk XI_NoItem.T XI_NoItem.i XI_NoItem.t XI_NoItem.F (hr.mono (by decide)) XI_NoItem.b XI_NoItem.g (rx_deS (W := fun cls d _ H => E cls d H) (de_var 1) ⟨_, rfl⟩)) (rxs_cons (rx_mk XI_NoLine.T XI_NoLine.i XI_NoLine.t XI_NoLine.F (hr.mono (by decide)) XI_NoLine.b XI_NoLine.g (rx_deS (W := fun cls d _ H => E cls d H) (de_var 0) ⟨_, rfl⟩)) (rxs_cons (rx_mk XI_NoPerson.T XI_NoPerson.i XI_NoPerson.t XI_NoPerson.F (hr.mono (by decide)) XI_NoPerson.b XI_NoPerson.g (rx_deS (W := fun cls d _ H => E cls d H) (de_var 0) ⟨_, rfl⟩)) (rxs_cons (rx_mk XI_NoRegister.T XI_NoRegister.i XI_NoRegister.t XI_NoRegister.F (hr.mono (by decide)) XI_NoRegister.b XI_NoRegister.g (rx_deS (W := fun cls d _ H => E cls d H) (de_var 0) ⟨_, rfl⟩)) (rxs_cons (rx_mk0 X0_NothingDone) (rxs_cons (rx_mk0 X0_TooMany) (rxs_cons (rx_mk0 X0_Unfit) rxs_nil))))))))))) (by rw [sizeLine_eq]; simp)) ?_
  refine rss_app (i := 5) (ds := [rowI i ds]) (d := rowI i ds) S__law_made_right.nd (rn_lst (rxs_cons (rx_lstD (ds := [.int i, .int i, .int i, .tuple ds, .int i, .int i, .int i]) (rxs_cons (rx_fld XI_BadLine.hF XI_BadLine.no (rx_ix (P := vX K ph0 C_BadLine "number" (.int i)) (rx_varS (i := 4) hM) rfl)) (rxs_cons (rx_fld XI_NoBlock.hF XI_NoBlock.no (rx_ix (P := vX K ph0 C_NoBlock "number" (.int i)) (rx_varS (i := 4) hM) rfl)) (rxs_cons (rx_fld XI_NoBus.hF XI_NoBus.no (rx_ix (P := vX K ph0 C_NoBus "number" (.int i)) (rx_varS (i := 4) hM) rfl)) (rxs_cons (rx_fld XI_NoItem.hF XI_NoItem.no (rx_ix (P := vX K ph0 C_NoItem "path" (.tuple ds)) (rx_varS (i := 4) hM) rfl)) (rxs_cons (rx_fld XI_NoLine.hF XI_NoLine.no (rx_ix (P := vX K ph0 C_NoLine "number" (.int i)) (rx_varS (i := 4) hM) rfl)) (rxs_cons (rx_fld XI_NoPerson.hF XI_NoPerson.no (rx_ix (P := vX K ph0 C_NoPerson "number" (.int i)) (rx_varS (i := 4) hM) rfl)) (rxs_cons (rx_fld XI_NoRegister.hF XI_NoRegister.no (rx_ix (P := vX K ph0 C_NoRegister "number" (.int i)) (rx_varS (i := 4) hM) rfl)) rxs_nil))))))) (by rw [sizeLine_eq]; simp)) rxs_nil) (by rw [sizeLine_eq]; simp))
    (fun p vs => rx_lstD (ds := [.int i, .int i, .int i, .tuple ds, .int i, .int i, .int i]) (rxs_cons (rx_fld XI_BadLine.hF XI_BadLine.no (rx_mkK XI_BadLine.T XI_BadLine.i XI_BadLine.t XI_BadLine.F (hr.mono (by decide)) XI_BadLine.bk XI_BadLine.g (rx_deS (W := fun cls d _ H => E cls d H) (de_var 0) ⟨_, rfl⟩))) (rxs_cons (rx_fld XI_NoBlock.hF XI_NoBlock.no (rx_mkK XI_NoBlock.T XI_NoBlock.i XI_NoBlock.t XI_NoBlock.F (hr.mono (by decide)) XI_NoBlock.bk XI_NoBlock.g (rx_deS (W := fun cls d _ H => E cls d H) (de_var 0) ⟨_, rfl⟩))) (rxs_cons (rx_fld XI_NoBus.hF XI_NoBus.no (rx_mkK XI_NoBus.T XI_NoBus.i XI_NoBus.t XI_NoBus.F (hr.mono (by decide)) XI_NoBus.bk XI_NoBus.g (rx_deS (W := fun cls d _ H => E cls d H) (de_var 0) ⟨_, rfl⟩))) (rxs_cons (rx_fld XI_NoItem.hF XI_NoItem.no (rx_mkK XI_NoItem.T XI_NoItem.i XI_NoItem.t XI_NoItem.F (hr.mono (by decide)) XI_NoItem.bk XI_NoItem.g (rx_deS (W := fun cls d _ H => E cls d H) (de_var 1) ⟨_, rfl⟩))) (rxs_cons (rx_fld XI_NoLine.hF XI_NoLine.no (rx_mkK XI_NoLine.T XI_NoLine.i XI_NoLine.t XI_NoLine.F (hr.mono (by decide)) XI_NoLine.bk XI_NoLine.g (rx_deS (W := fun cls d _ H => E cls d H) (de_var 0) ⟨_, rfl⟩))) (rxs_cons (rx_fld XI_NoPerson.hF XI_NoPerson.no (rx_mkK XI_NoPerson.T XI_NoPerson.i XI_NoPerson.t XI_NoPerson.F (hr.mono (by decide)) XI_NoPerson.bk XI_NoPerson.g (rx_deS (W := fun cls d _ H => E cls d H) (de_var 0) ⟨_, rfl⟩))) (rxs_cons (rx_fld XI_NoRegister.hF XI_NoRegister.no (rx_mkK XI_NoRegister.T XI_NoRegister.i XI_NoRegister.t XI_NoRegister.F (hr.mono (by decide)) XI_NoRegister.bk XI_NoRegister.g (rx_deS (W := fun cls d _ H => E cls d H) (de_var 0) ⟨_, rfl⟩))) rxs_nil))))))) (by rw [sizeLine_eq]; simp)) (by rw [sizeLine_eq]; simp) ?_
  refine rss_setD (i := 6) (d := .list [rowI i ds, rowI i ds]) S__law_made_right.nd (rx_deS (W := fun cls d _ H => E cls d H) (de_df (df_rep (df_lst (da_cons (de_df (df_lst (da_cons (de_var 0) (da_cons (de_var 0) (da_cons (de_var 0) (da_cons (de_var 1) (da_cons (de_var 0) (da_cons (de_var 0) (da_cons (de_var 0) da_nil))))))))) da_nil)) de_int)) ⟨_, rfl⟩) ?_
  refine rss_for2 (Ps := PsI K i ds C_BadLine C_CanNot C_NoBlock C_NoBus C_NoItem C_NoLine C_NoPerson C_NoRegister C_NothingDone C_TooMany C_Unfit) (i0 := 4) (ia := 7) (ib := 8) (i1 := 5) (i2 := 6) (dl := dlI i ds) (d1 := fun k => .list (gotL [rowI i ds, rowI i ds] (k + 1))) (d2 := fun k => .list (gotL [rowI i ds, rowI i ds] (k + 1))) (P := vE 0) own_cx rfl m_enumerate S__law_made_right.nd (List.mem_cons_self ..) (fun k P hP => ?_) (fun k P hP => ?_) (fun k => rfl) ?_ (fun k => rfl) (fun k => rfl) (fun k => rfl) (fun k => rfl)
  · obtain ⟨C, hC, wE⟩ := psI_cls hP
    have hk : k < 11 := (List.getElem?_eq_some_iff.mp hC).1
    refine rx_cat (xs := gotL [rowI i ds, rowI i ds] k) (ys := [bls (blU k), bls (blW k)]) opf_catL op_catL (rx_deS (W := fun cls d _ H => E cls d H) (de_var 5) ⟨_, rfl⟩) (rx_lstD (ds := [bls (blU k), bls (blW k)]) (rxs_cons (rx_callI F_u (hr.mono (by decide)) e_u k_u b_u (hEs k C hC) (hKs k C hC).1 (rx_weak (rx_varS (i := 8) (List.mem_cons_self ..)) wE)) (rxs_cons (rx_callI F_w (hr.mono (by decide)) e_w k_w b_w (hEs k C hC) (hKs k C hC).2 (rx_weak (rx_varS (i := 8) (List.mem_cons_self ..)) wE)) rxs_nil)) (by rw [sizeLine_eq]; simp)) (catL_some ?_)
    rw [gotL_len]
    simp
    omega
  · refine rx_deS (W := fun cls d _ H => E cls d H) (de_df (df_cat (de_var 6) (de_df (df_lst (da_cons (de_if (dt_chain opd_le opd_le op_le op_le de_int (de_var 7) de_int) (de_var 3) (de_var 2)) (da_cons (de_df (df_lc (own := [("k", 9)]) rfl S__law_made_right.nd (di_range1 m_range (da_cons de_int da_nil)) (blkOk_by (N := N__law_made_right) (sc := defScope s__law_made_right) (own := [("k", 9)]) (by decide +kernel)) (fun _ _ _ _ _ => (dgc_name (i := 9) S__law_made_right.nd (by decide))) (fun _ _ _ _ _ => dts_nil) (fun _ _ _ _ _ => (de_eq (hu64 hr) (de_var 9) (de_var 7))))) da_nil)))))) ?_
    match k, hP with
    | 0, _ => exact ⟨_, ev_0⟩
    | 1, _ => exact ⟨_, ev_1⟩
    | 2, _ => exact ⟨_, ev_2⟩
    | 3, _ => exact ⟨_, ev_3⟩
    | 4, _ => exact ⟨_, ev_4⟩
    | 5, _ => exact ⟨_, ev_5⟩
    | 6, _ => exact ⟨_, ev_6⟩
    | 7, _ => exact ⟨_, ev_7⟩
    | 8, _ => exact ⟨_, ev_8⟩
    | 9, _ => exact ⟨_, ev_9⟩
    | 10, _ => exact ⟨_, ev_10⟩
    | n + 11, h => simp at h
  · exact rss_ret (rx_deS (W := fun cls d _ H => E cls d H) (de_call F__law_same (hr.mono (by decide)) e__law_same k__law_same b__law_same pass_cx (da_cons (de_var 5) (da_cons (de_var 6) da_nil)) (alenS (alenS alen0))) (same_end hds))
theorem ok_made {fa : Addr} {fd : FuncData} (F : Fun K "_law_made_right" "_law_made_right" s__law_made_right fa fd) {iV iL : String} {B_CanNot nI_CanNot iI_CanNot : String} {bm_CanNot : List Value} {B_NothingDone nI_NothingDone iI_NothingDone : String} {bm_NothingDone : List Value} {B_TooMany nI_TooMany iI_TooMany : String} {bm_TooMany : List Value} {B_Unfit nI_Unfit iI_Unfit : String} {bm_Unfit : List Value}
    {fI_BadLine : Addr} {fdI_BadLine : FuncData} (XI_BadLine : XIni P w K mg base "BadLine" C_BadLine fI_BadLine fdI_BadLine "number" "number" "ValueError" "ValueError.__new__" iV bmVE) {fI_NoBlock : Addr} {fdI_NoBlock : FuncData} (XI_NoBlock : XIni P w K mg base "NoBlock" C_NoBlock fI_NoBlock fdI_NoBlock "number" "number" "LookupError" "LookupError.__new__" iL bmLE) {fI_NoBus : Addr} {fdI_NoBus : FuncData} (XI_NoBus : XIni P w K mg base "NoBus" C_NoBus fI_NoBus fdI_NoBus "number" "number" "LookupError" "LookupError.__new__" iL bmLE) {fI_NoItem : Addr} {fdI_NoItem : FuncData} (XI_NoItem : XIni P w K mg base "NoItem" C_NoItem fI_NoItem fdI_NoItem "path" "path" "LookupError" "LookupError.__new__" iL bmLE) {fI_NoLine : Addr} {fdI_NoLine : FuncData} (XI_NoLine : XIni P w K mg base "NoLine" C_NoLine fI_NoLine fdI_NoLine "number" "number" "LookupError" "LookupError.__new__" iL bmLE) {fI_NoPerson : Addr} {fdI_NoPerson : FuncData} (XI_NoPerson : XIni P w K mg base "NoPerson" C_NoPerson fI_NoPerson fdI_NoPerson "number" "number" "LookupError" "LookupError.__new__" iL bmLE) {fI_NoRegister : Addr} {fdI_NoRegister : FuncData} (XI_NoRegister : XIni P w K mg base "NoRegister" C_NoRegister fI_NoRegister fdI_NoRegister "number" "number" "LookupError" "LookupError.__new__" iL bmLE)
    (X0_CanNot : ExcT K mg "CanNot" C_CanNot B_CanNot nI_CanNot iI_CanNot bm_CanNot) (X0_NothingDone : ExcT K mg "NothingDone" C_NothingDone B_NothingDone nI_NothingDone iI_NothingDone bm_NothingDone) (X0_TooMany : ExcT K mg "TooMany" C_TooMany B_TooMany nI_TooMany iI_TooMany bm_TooMany) (X0_Unfit : ExcT K mg "Unfit" C_Unfit B_Unfit nI_Unfit iI_Unfit bm_Unfit)
    {f_u : Addr} {fd_u : FuncData} (F_u : FnOk P w K mg base (L2.CX P w) 1 f_u fd_u ["error_so"] (spIs K tsU)) (e_u : mg "_law_under" = some (.ref f_u)) (k_u : PySem.W.keepIn K (.ref f_u) = true) (b_u : Binds K fd_u ["error_so"] [])
    {f_w : Addr} {fd_w : FuncData} (F_w : FnOk P w K mg base (L2.CX P w) 1 f_w fd_w ["error_so"] (spIs K [.ref C_BadLine, .ref C_CanNot, .ref C_NoBlock, .ref C_NoBus, .ref C_NoItem, .ref C_NoLine, .ref C_NoPerson, .ref C_NoRegister, .ref C_NothingDone, .ref C_TooMany, .ref C_Unfit])) (e_w : mg "_law_which" = some (.ref f_w)) (k_w : PySem.W.keepIn K (.ref f_w) = true) (b_w : Binds K fd_w ["error_so"] [])
    {a__law_same : Addr} {fd__law_same : FuncData} (F__law_same : FnOk P w K mg base (L2.CX P w) 16 a__law_same fd__law_same ["got", "due"] (spD K mg 2 g__law_same)) (e__law_same : mg "_law_same" = some (.ref a__law_same)) (k__law_same : PySem.W.keepIn K (.ref a__law_same) = true) (b__law_same : Binds K fd__law_same ["got", "due"] [])
    (hEs : ∀ (k : Nat) (C : Addr), ([C_BadLine, C_CanNot, C_NoBlock, C_NoBus, C_NoItem, C_NoLine, C_NoPerson, C_NoRegister, C_NothingDone, C_TooMany, C_Unfit] : List Addr)[k]? = some C → ExcC K C) (hKs : ∀ (k : Nat) (C : Addr), ([C_BadLine, C_CanNot, C_NoBlock, C_NoBus, C_NoItem, C_NoLine, C_NoPerson, C_NoRegister, C_NothingDone, C_TooMany, C_Unfit] : List Addr)[k]? = some C → Kits K C tsU (blU k) ∧ Kits K C [.ref C_BadLine, .ref C_CanNot, .ref C_NoBlock, .ref C_NoBus, .ref C_NoItem, .ref C_NoLine, .ref C_NoPerson, .ref C_NoRegister, .ref C_NothingDone, .ref C_TooMany, .ref C_Unfit] (blW k))
    (m_enumerate : mg "enumerate" = none) (m_range : mg "range" = none) :
    FnOk P w K mg base (L2.CX P w) 17 fa fd ["digit", "trail_so"] (spD K mg 2 g__law_made_right) := by
  refine F.okX S__law_made_right (fun vs H Q E h => h.1) (fun cdv A outer s H vs Q E hr h => ?_)
  obtain ⟨hl, ph, cells, ans, cells', s0, q, k1, kx⟩ := h
  obtain ⟨i, ds, rfl, hi, rfl, rfl⟩ : ∃ i ds, cells = [.fz (.int i), .fz (.tuple ds)] ∧ (ds.all isI && decide (ds.length ≤ 100)) = true ∧ ans = .ok (.bool true) ∧ cells' = cells := by
    unfold g__law_made_right at q
    split at q
    · rename_i i ds
      split at q
      · rename_i hc
        cases q
        exact ⟨i, ds, rfl, hc, rfl, rfl⟩
      · cases q
    · cases q
  have hds : Sm 1 (.tuple ds) := by
    rw [Bool.and_eq_true, List.all_eq_true, decide_eq_true_eq] at hi
    refine .tup (by omega) fun x hx => ?_
    have := hi.1 x hx
    cases x <;> first | exact .int _ | cases this
  match vs, hl with
  | [v0, v1], _ =>
    obtain ⟨u0, e0, d0⟩ := s0.fz 0 _ rfl
    obtain ⟨u1, e1, d1⟩ := s0.fz 1 _ rfl
    cases e0
    cases e1
    obtain ⟨t, pt, qt⟩ := (body_made (P := P) (w := w) (base := base) (fa := fa) (fd := fd) (i := i) (ds := ds) XI_BadLine XI_NoBlock XI_NoBus XI_NoItem XI_NoLine XI_NoPerson XI_NoRegister X0_CanNot X0_NothingDone X0_TooMany X0_Unfit F_u e_u k_u b_u F_w e_w k_w b_w F__law_same e__law_same k__law_same b__law_same hEs hKs m_enumerate m_range hds cdv A outer s H E hr).ex
    refine ⟨t, pt, qt _ _ H ⟨sr0_of rfl fun j c h => ?_, trivial, trivial⟩ fun v H' sm p => ?_⟩
    · match j, h with
      | 0, h => cases h; exact .inr ⟨_, v0, rfl, rfl, dp_mono hid_sub d0⟩
      | 1, h => cases h; exact .inr ⟨_, v1, rfl, rfl, dp_mono hid_sub d1⟩
      | 2, h => cases h; exact .inl rfl
      | 3, h => cases h; exact .inl rfl
      | 4, h => cases h; exact .inl rfl
      | 5, h => cases h; exact .inl rfl
      | 6, h => cases h; exact .inl rfl
      | 7, h => cases h; exact .inl rfl
      | 8, h => cases h; exact .inl rfl
      | 9, h => cases h; exact .inl rfl
    · have p' : Dq K (hid ph0 am0 H') v (.bool true) := p
      cases p' with
      | bl b => exact k1 _ rfl _ H' (Step.of sm) (s0.same sm) (.bl true)
end
end K00
end

section
set_option Elab.async false
set_option linter.all false
set_option maxRecDepth 100000
set_option maxHeartbeats 2000000
namespace K00
open PySem PD
theorem w_runE {m : Nat} {g : MS} {cells : Sg} {d : PyData} (h : Gd g (cells ++ List.replicate (m - cells.length) .un) fun fl δ' => fl = .rt d ∧ cells.length ≤ δ'.length) : ∃ o, runD m g cells = some (.ok d, o) := by
  obtain ⟨fl, δ', e, rfl, k⟩ := h
  unfold runD keepO
  rw [e]
  dsimp only
  rw [if_pos k]
  exact ⟨_, rfl⟩
theorem made_eq {i : Int} {l : List Int} (h : l.length ≤ 100) : g__law_made_right [.fz (.int i), .fz (.tuple (l.map .int))] = some (.ok (.bool true), [.fz (.int i), .fz (.tuple (l.map .int))]) := by
  unfold g__law_made_right
  dsimp only
  rw [if_pos]
  rw [Bool.and_eq_true, List.all_eq_true, decide_eq_true_eq]
  refine ⟨fun x hx => ?_, by rw [List.length_map]; exact h⟩
  obtain ⟨y, _, rfl⟩ := List.mem_map.mp hx
  rfl
theorem right_all {os : List PyData} {N : Int} (t : Tin N os) (h0 : 0 ≤ N) (h1 : N < 900) : ∃ o, g__law_right [.ow true os] = some (.ok (.bool true), o) := by
  suffices H : Gd B__law_right [.ow true os, .un, .un] (fun fl δ' => fl = .rt (.bool true) ∧ 1 ≤ δ'.length) from w_runE H
  have hp : powD (.int 10) (.int 6) = some (.int 1000000) := by
    unfold powD intsD powOk
    simp
  unfold B__law_right
  walk_at "wp"
  refine w_take (k := 3) t (by omega) (by decide) (by decide) (by walk_at "wp"; exact ⟨rfl, rfl⟩) fun v os1 v0 v1 t1 => ?_
  walk_at "wp"
  refine w_lif (o_sub _ _) ?_
  walk_at "wp"
  refine w_defO .z ?_
  walk_at "wp"
  refine w_lif hp ?_
  walk_at "wp"
  refine w_take (k := 1000) t1 (by omega) (by decide) (by decide) (by walk_at "wp"; exact ⟨rfl, rfl⟩) fun v' os2 v0' v1' t2 => ?_
  walk_at "wp"
  obtain ⟨d, hd, os3, eof, t3⟩ := of_eq (xs := [.int 0, .int 1, .int 7, .int 1000000, .int v']) t2 (by omega) (by simp) (by simp)
  obtain ⟨y, rfl⟩ : ∃ y : Int, d = .int y := by
    simp only [List.mem_cons, List.not_mem_nil, or_false] at hd
    rcases hd with h | h | h | h | h <;> exact ⟨_, h⟩
  refine ⟨_, _, _, _, _, _, _, .z, eof, .z, ?_⟩
  refine w_lif (o_mul ?_) ?_
  · unfold mulOk small64
    simp only [Bool.or_eq_true, Bool.and_eq_true, decide_eq_true_eq]
    left
    omega
  walk_at "wp"
  refine w_take (k := 4) t3 (by omega) (by decide) (by decide) (by walk_at "wp"; exact ⟨rfl, rfl⟩) fun n os4 n0 n1 t4 => ?_
  walk_at "wp"
  refine w_lif (range_take n0 (by omega)) ?_
  obtain ⟨l, os5, hl, hr, t5, q⟩ := comp_take (b := true) (k := 5) (i := 2) (r := [.fz (.int ((v - 1) * y)), .un]) (fs := bnd (PD.ret (PyData.int 5)) fun d => bnd (PD.ret []) fun ds => PD.ret (d :: ds)) (fun d => [.fz (.int ((v - 1) * y)), .fz d]) (ds := rangeL 0 n.toNat)
    (fun _ _ => rfl) (fun _ _ => rfl) (fun _ _ => rfl) (fun _ _ => by walk_at "wp"; exact ⟨rfl, rfl⟩) (by omega) (by decide) t4 (by omega) (by rw [rangeL_length]; omega)
  rw [rangeL_length] at hl
  refine ⟨rfl, _, _, q, ?_⟩
  show Gd (PD.ret _) [.ow true os5, .fz (.int ((v - 1) * y)), .un] _
  walk_at "wp"
  refine w_lif (a := .tuple (l.map .int)) rfl ?_
  walk_at "wp"
  exact ⟨_, _, made_eq (by omega), rfl, by simp⟩
theorem cut_take {ns : List Int} : cutD (ns.map PyData.int) none (some 2) = (ns.take 2).map .int := by
  unfold cutD HT.sIx
  simp [List.map_take]
theorem cut_drop {ns : List Int} : ∃ zs : List Int, cutD (ns.map PyData.int) (some 2) (some 63) = zs.map .int ∧ zs.length ≤ 63 ∧ (ns.length ≤ 2 → zs = []) := by
  refine ⟨(ns.drop (min 2 ns.length)).take (min 63 ns.length - min 2 ns.length), ?_, ?_, fun h => ?_⟩
  · unfold cutD HT.sIx
    simp [List.map_take]
  · simp
    omega
  · simp
    omega
theorem w_runFE {m : Nat} {g : MS} {cells : Sg} {P : List PyData → Prop} (h : Gd g (cells ++ List.replicate (m - cells.length) .un) fun fl δ' => ∃ ds, fl = .rf ds ∧ P ds ∧ cells.length ≤ δ'.length) : ∃ ds o, runF m g cells = some (.ok ds, o) ∧ P ds := by
  obtain ⟨fl, δ', e, ds, rfl, p, k⟩ := h
  unfold runF keepO
  rw [e]
  dsimp only
  rw [if_pos k]
  exact ⟨_, _, rfl, p⟩
theorem box_eq (cs : List Int) (i : Nat) (hi : i < cs.length) (h2 : cs.length ≤ 2) : ∃ os o, g__law_box [.fz (.list (cs.map .int)), .fz (.int i)] = some (.ok os, o) ∧ Tin 0 os := by
  have hx : ixD (.list (cs.map .int)) (.int i) = some (.int cs[i]) := by
    show L2.atI (cs.map PyData.int) (i : Int) = _
    unfold L2.atI L2.ixN
    rw [if_pos (by omega), if_pos (by simp; omega)]
    simp [hi]
  have hp : powD (.int 10) (.int 18) = some (.int 1000000000000000000) := by
    unfold powD intsD powOk
    simp
  have hs : ∀ b : Bool, small64 (if b = true then 1 else 0) = true := by decide
  refine w_runFE (P := Tin 0) ?_
  simp only [List.length_cons, List.length_nil, List.replicate, List.cons_append, List.nil_append, Nat.reduceAdd, Nat.reduceSub]
  unfold B__law_box
  walk_at "wp"
  refine w_lif rfl ?_
  walk_at "wp"
  refine w_lif (o_lt _ _) ?_
  refine w_lif rfl ?_
  rw [decide_eq_true (by simp; omega)]
  walk_at "wp"
  refine w_lif hx ?_
  walk_at "wp"
  refine w_lif rfl ?_
  walk_at "wp"
  refine w_lif rfl ?_
  walk_at "wp"
  refine w_lif hp ?_
  refine w_lif (o_ge _ _) ?_
  walk_at "wp"
  refine w_lif rfl ?_
  refine w_lif (o_mul ?_) ?_
  · unfold mulOk
    rw [hs, Bool.or_true]
  walk_at "wp"
  refine w_lif rfl ?_
  walk_at "wp"
  refine w_lif (o_mod (by decide)) ?_
  walk_at "wp"
  refine w_lif (o_mul ?_) ?_
  · unfold mulOk
    rw [show small64 39373 = true by decide]
    rfl
  refine w_lif (o_add _ _) ?_
  walk_at "wp"
  refine w_lif (o_add _ _) ?_
  walk_at "wp"
  exact ⟨_, rfl, ⟨_, _, 0, rfl, by omega, by omega⟩, by simp⟩
/-- what a turn of the loop over the rest leaves -/
def CI (s : PyData) (δ : Sg) : Prop := ∃ (cs : List Int) (c3 c4 c5 : Cell), cs.length = 2 ∧ c3.free = true ∧ c4.free = true ∧ c5.free = true ∧ δ = [.fz s, .fz (.int 2), .ow false (cs.map .int), c3, c4, c5]
theorem cells_eq (ns : List Int) (h : ns.length ≤ 63) : ∃ (cs : List Int), 0 < cs.length ∧ cs.length ≤ 2 ∧ ∃ o, g__law_cells [.fz (.list (ns.map .int)), .fz (.int 2)] = some (.ok (.list (cs.map .int)), o) := by
  obtain ⟨zs, hz1, hz2, hz3⟩ := cut_drop (ns := ns)
  suffices H : ∃ cs : List Int, 0 < cs.length ∧ cs.length ≤ 2 ∧ Gd B__law_cells [.fz (.list (ns.map .int)), .fz (.int 2), .un, .un, .un, .un] (fun fl δ' => fl = .rt (.list (cs.map .int)) ∧ 2 ≤ δ'.length) by
    obtain ⟨cs, h1, h2, H⟩ := H
    exact ⟨cs, h1, h2, w_runE H⟩
  by_cases hn : ns.length < 2
  · have hz : zs = [] := hz3 (by omega)
    refine ⟨if ns = [] then [0] else ns, ?_, ?_, ?_⟩
    · split
      · simp
      · rename_i e; exact List.length_pos_iff.mpr e
    · split
      · simp
      · omega
    · unfold B__law_cells
      walk_at "wp"
      refine ⟨_, rfl, ?_⟩
      refine w_lif rfl ?_
      walk_at "wp"
      rw [cut_take]
      refine w_lif (o_listL (by simp; omega)) ?_
      have ht : ns.take 2 = ns := List.take_of_length_le (by omega)
      rw [ht]
      refine Gd.imp (Q := fun ds δ => ds = (if ns = [] then [0] else ns).map PyData.int ∧ δ = [.fz (.list (ns.map .int)), .fz (.int 2), .un, .un, .un, .un]) ?_ ?_
      · refine w_by (fun h => ?_) fun h => ?_
        · walk_at "wp"
          have : ns = [] := by simpa using h
          simp [this]
        · walk_at "wp"
          have : ns ≠ [] := by rintro rfl; simp at h
          simp [this]
      rintro _ _ ⟨rfl, rfl⟩
      refine ⟨_, _, .s (.s .z), rfl, .s (.s .z), ?_⟩
      walk_at "wp"
      refine ⟨_, rfl, ?_⟩
      walk_at "wp"
      refine ⟨_, rfl, ?_⟩
      refine w_lif rfl ?_
      walk_at "wp"
      rw [hz1, hz]
      refine w_lif rfl ?_
      refine w_eq rfl ?_
      walk_at "wp"
      refine w_varO (.s (.s .z)) (.s (.s .z)) ?_
      exact ⟨rfl, by simp⟩
  · suffices H : Gd B__law_cells [.fz (.list (ns.map .int)), .fz (.int 2), .un, .un, .un, .un] (fun fl δ' => ∃ cs : List Int, cs.length = 2 ∧ fl = .rt (.list (cs.map .int)) ∧ 2 ≤ δ'.length) by
      obtain ⟨fl, δ', e, cs, h1, h2, h3⟩ := H
      exact ⟨cs, by omega, by omega, fl, δ', e, h2, h3⟩
    unfold B__law_cells
    walk_at "wp"
    refine ⟨_, rfl, ?_⟩
    refine w_lif rfl ?_
    walk_at "wp"
    rw [cut_take]
    refine w_lif (o_listL (by simp; omega)) ?_
    have hl : (ns.take 2).length = 2 := by simp; omega
    have he : ((ns.take 2).map PyData.int).isEmpty = false := by
      cases e : ns.take 2 with
      | nil => rw [e] at hl; cases hl
      | cons => rfl
    rw [he]
    walk_at "wp"
    refine ⟨_, _, .s (.s .z), rfl, .s (.s .z), ?_⟩
    walk_at "wp"
    refine ⟨_, rfl, ?_⟩
    walk_at "wp"
    refine ⟨_, rfl, ?_⟩
    refine w_lif rfl ?_
    walk_at "wp"
    rw [hz1]
    refine w_lif rfl ?_
    refine w_loop (fun _ δ => CI (.list (ns.map .int)) δ) ⟨ns.take 2, .un, .un, .un, hl, rfl, rfl, rfl, rfl⟩ (fun j d hj δ hi => ?_) ?_
    · obtain ⟨cs, c3, c4, c5, hc, f3, f4, f5, rfl⟩ := hi
      obtain ⟨v, rfl⟩ : ∃ v : Int, d = .tuple [.int (j : Nat), .int v] := by
        unfold enumL at hj
        rw [List.getElem?_map, List.getElem?_zipIdx, List.getElem?_map] at hj
        cases e : zs[j]? with
        | none => rw [e] at hj; cases hj
        | some v => rw [e] at hj; cases hj; exact ⟨v, by simp⟩
      have hjl : j < 63 := by
        obtain ⟨h, _⟩ := List.getElem?_eq_some_iff.mp hj
        simp [enumL] at h
        omega
      have b0 : 0 ≤ (j : Int).fmod 2 := Int.fmod_nonneg_of_pos _ (by omega)
      have b1 : (j : Int).fmod 2 < 2 := Int.fmod_lt_of_pos _ (by omega)
      have hix : ixD (.list (cs.map .int)) (.int ((j : Int).fmod 2)) = some (.int (cs[((j : Int).fmod 2).toNat]'(by omega))) := by
        show L2.atI (cs.map PyData.int) _ = _
        unfold L2.atI L2.ixN
        rw [if_pos b0, if_pos (by simp; omega)]
        have : ((j : Int).fmod 2).toNat < cs.length := by omega
        simp [this]
      walk_at "wp"
      refine w_lif rfl ?_
      walk_at "wp"
      refine w_lif (o_mod (by decide)) ?_
      walk_at "wp"
      refine w_sub ?_
      walk_at "wp"
      refine w_ixO (.s (.s .z)) ?_
      walk_at "wp"
      refine ⟨_, _, .s (.s .z), ?_⟩
      refine w_lif hix ?_
      walk_at "wp"
      refine w_lif (o_add _ _) ?_
      refine w_lif (o_mul ?_) ?_
      · unfold mulOk small64
        simp only [Bool.or_eq_true, Bool.and_eq_true, decide_eq_true_eq]
        right
        omega
      refine w_lif (o_add _ _) ?_
      refine ⟨_, _, .s (.s .z), ?_⟩
      walk_at "wp"
      refine ⟨_, _, (j : Int).fmod 2, ((j : Int).fmod 2).toNat, _, rfl, .s (.s .z), ?_, .s (.s .z), rfl, ?_⟩
      · unfold L2.ixN
        rw [if_pos b0, if_pos (by simp; omega)]
      · rw [← List.map_set]
        exact ⟨_, _, _, _, by simpa using hc, rfl, rfl, rfl, rfl⟩
    · rintro δ ⟨cs, c3, c4, c5, hc, f3, f4, f5, rfl⟩
      walk_at "wp"
      refine w_varO (.s (.s .z)) (.s (.s .z)) ?_
      exact ⟨cs, hc, rfl, by simp⟩

theorem law_true : ∀ ns : List Int, ns.length ≤ 63 → ∃ c, g_law [.fz (.list (ns.map .int))] = some (.ok (.bool true), c) := by
  intro ns h
  obtain ⟨cs, h1, h2, o, e⟩ := cells_eq ns h
  refine w_runE ?_
  simp only [List.length_cons, List.length_nil, List.replicate, List.cons_append, List.nil_append, Nat.reduceAdd, Nat.reduceSub]
  unfold B_law
  walk_at "wp"
  have hp : powD (.int 10) (.int 6) = some (.int 1000000) := by
    unfold powD intsD powOk
    simp
  refine w_lif (a := .int (-1)) rfl ?_
  walk_at "wp"
  refine w_lif hp ?_
  walk_at "wp"
  refine w_lif rfl ?_
  have q0 : compD [2] (sName 2) (PD.ret true) (xDef g__law_made_right (bnd (xBin ixD (xVar 2) (PD.ret (PyData.int 0))) fun d => bnd (bnd (xBin ixD (xVar 2) (PD.ret (PyData.int 1))) fun d => bnd (PD.ret []) fun ds => PD.ret (d :: ds)) fun ds => PD.ret (d :: ds)))
    [.tuple [.int 0, .tuple []], .tuple [.int (-1), .tuple [.int 0]], .tuple [.int 1000000, .tuple [.int 2, .int 0, .int 1]]] [] [.fz (.list (ns.map .int)), .un, .un, .un] = some ([.bool true, .bool true, .bool true], [.fz (.list (ns.map .int)), .un, .un, .un]) := by kernel_rfl
  refine ⟨rfl, _, _, q0, ?_⟩
  show Gd (PD.ret _) [.fz (.list (ns.map .int)), .un, .un, .un] _
  walk_at "wp"
  refine w_lif (a := .bool true) rfl ?_
  refine w_lif (a := true) rfl ?_
  show Gd (cond false _ _) _ _
  walk_at "wp"
  refine ⟨_, _, e, ?_⟩
  walk_at "wp"
  refine w_lif rfl ?_
  walk_at "wp"
  refine w_lif (range_take (by omega) (by simp; omega)) ?_
  have q := comp_fun (is := [3]) (set := sName 3) (el := xDefT g__law_right (xDefF g__law_box (bnd (xVar 1) fun d => bnd (bnd (xVar 3) fun d => bnd (PD.ret []) fun ds => PD.ret (d :: ds)) fun ds => PD.ret (d :: ds)))) (ds := rangeL 0 (((cs.map PyData.int).length : Nat) : Int).toNat)
    (δ := [.fz (.list (ns.map .int)), .fz (.list (cs.map .int)), .un, .un]) (fun _ => .bool ((fun _ => true) PyData.none)) (by rw [rangeL_length]; simp; omega) fun d hd => by
    obtain ⟨i, hi, rfl⟩ : ∃ i : Nat, i < cs.length ∧ d = .int i := by
      unfold rangeL at hd
      obtain ⟨i, hi, rfl⟩ := List.mem_map.mp hd
      have := List.mem_range.mp hi
      exact ⟨i, by simpa using this, by simp⟩
    obtain ⟨os, ob, eb, tb⟩ := box_eq cs i hi h2
    obtain ⟨orr, er⟩ := right_all tb (by omega) (by omega)
    walk_at "wp"
    refine ⟨_, _, eb, ?_⟩
    exact ⟨_, _, er, rfl, rfl, rfl⟩
  refine ⟨rfl, _, _, q, ?_⟩
  walk_at "wp"
  refine w_lif (all_map (f := fun _ => true)) ?_
  exact ⟨by simp, by simp [backD]⟩
end K00
end

section
set_option linter.all false
set_option maxRecDepth 100000
set_option maxHeartbeats 4000000
namespace K00
open PySem PySem.Spec PyProof.Rows L2 PD
abbrev s_ini_BadLine : Stmt := match topS 8 with | .ClassDef _ _ _ body .. => body.getD 0 (.Pass ⟨0, 0, 0, 0⟩) | _ => .Pass ⟨0, 0, 0, 0⟩
theorem SI_BadLine : FnScope ["self", "number"] ["self", "number"] (defScope s_ini_BadLine) := ⟨rfl, rfl, rfl, by decide +kernel, rfl, by decide +kernel, by decide +kernel⟩
theorem ini_BadLine {P : Program} {w : World} {K : PySem.W.Frag} {mg : Str → Option Value} {base : Heap} {C fI : Addr} {fd : FuncData} {B newId initId : String} {bm : List Value} (T : OexG K C B newId initId bm) (hno : PySem.W.findIn K (.ref C) "number" = some none) (F : Fun K "__init__" "BadLine.__init__" s_ini_BadLine fI fd) : FnOk P w K mg base (L2.CX P w) 1 fI fd ["self", "number"] (spLe C "number") :=
  fn_leG (k := 0) T hno F SI_BadLine rfl rfl (.inl rfl) (.inl rfl) (by decide) (by decide) (by decide) (by decide) (fun _ => rfl)
abbrev s_ini_NoBlock : Stmt := match topS 1 with | .ClassDef _ _ _ body .. => body.getD 0 (.Pass ⟨0, 0, 0, 0⟩) | _ => .Pass ⟨0, 0, 0, 0⟩
theorem SI_NoBlock : FnScope ["self", "number"] ["self", "number"] (defScope s_ini_NoBlock) := ⟨rfl, rfl, rfl, by decide +kernel, rfl, by decide +kernel, by decide +kernel⟩
theorem ini_NoBlock {P : Program} {w : World} {K : PySem.W.Frag} {mg : Str → Option Value} {base : Heap} {C fI : Addr} {fd : FuncData} {B newId initId : String} {bm : List Value} (T : OexG K C B newId initId bm) (hno : PySem.W.findIn K (.ref C) "number" = some none) (F : Fun K "__init__" "NoBlock.__init__" s_ini_NoBlock fI fd) : FnOk P w K mg base (L2.CX P w) 1 fI fd ["self", "number"] (spLe C "number") :=
  fn_leG (k := 0) T hno F SI_NoBlock rfl rfl (.inl rfl) (.inl rfl) (by decide) (by decide) (by decide) (by decide) (fun _ => rfl)
abbrev s_ini_NoBus : Stmt := match topS 3 with | .ClassDef _ _ _ body .. => body.getD 0 (.Pass ⟨0, 0, 0, 0⟩) | _ => .Pass ⟨0, 0, 0, 0⟩
theorem SI_NoBus : FnScope ["self", "number"] ["self", "number"] (defScope s_ini_NoBus) := ⟨rfl, rfl, rfl, by decide +kernel, rfl, by decide +kernel, by decide +kernel⟩
theorem ini_NoBus {P : Program} {w : World} {K : PySem.W.Frag} {mg : Str → Option Value} {base : Heap} {C fI : Addr} {fd : FuncData} {B newId initId : String} {bm : List Value} (T : OexG K C B newId initId bm) (hno : PySem.W.findIn K (.ref C) "number" = some none) (F : Fun K "__init__" "NoBus.__init__" s_ini_NoBus fI fd) : FnOk P w K mg base (L2.CX P w) 1 fI fd ["self", "number"] (spLe C "number") :=
  fn_leG (k := 0) T hno F SI_NoBus rfl rfl (.inl rfl) (.inl rfl) (by decide) (by decide) (by decide) (by decide) (fun _ => rfl)
abbrev s_ini_NoItem : Stmt := match topS 5 with | .ClassDef _ _ _ body .. => body.getD 0 (.Pass ⟨0, 0, 0, 0⟩) | _ => .Pass ⟨0, 0, 0, 0⟩
theorem SI_NoItem : FnScope ["self", "path"] ["self", "path"] (defScope s_ini_NoItem) := ⟨rfl, rfl, rfl, by decide +kernel, rfl, by decide +kernel, by decide +kernel⟩
theorem ini_NoItem {P : Program} {w : World} {K : PySem.W.Frag} {mg : Str → Option Value} {base : Heap} {C fI : Addr} {fd : FuncData} {B newId initId : String} {bm : List Value} (T : OexG K C B newId initId bm) (hno : PySem.W.findIn K (.ref C) "path" = some none) (F : Fun K "__init__" "NoItem.__init__" s_ini_NoItem fI fd) : FnOk P w K mg base (L2.CX P w) 1 fI fd ["self", "path"] (spLe C "path") :=
  fn_leG (k := 0) T hno F SI_NoItem rfl rfl (.inl rfl) (.inl rfl) (by decide) (by decide) (by decide) (by decide) (fun _ => rfl)
abbrev s_ini_NoLine : Stmt := match topS 4 with | .ClassDef _ _ _ body .. => body.getD 0 (.Pass ⟨0, 0, 0, 0⟩) | _ => .Pass ⟨0, 0, 0, 0⟩
theorem SI_NoLine : FnScope ["self", "number"] ["self", "number"] (defScope s_ini_NoLine) := ⟨rfl, rfl, rfl, by decide +kernel, rfl, by decide +kernel, by decide +kernel⟩
theorem ini_NoLine {P : Program} {w : World} {K : PySem.W.Frag} {mg : Str → Option Value} {base : Heap} {C fI : Addr} {fd : FuncData} {B newId initId : String} {bm : List Value} (T : OexG K C B newId initId bm) (hno : PySem.W.findIn K (.ref C) "number" = some none) (F : Fun K "__init__" "NoLine.__init__" s_ini_NoLine fI fd) : FnOk P w K mg base (L2.CX P w) 1 fI fd ["self", "number"] (spLe C "number") :=
  fn_leG (k := 0) T hno F SI_NoLine rfl rfl (.inl rfl) (.inl rfl) (by decide) (by decide) (by decide) (by decide) (fun _ => rfl)
abbrev s_ini_NoPerson : Stmt := match topS 6 with | .ClassDef _ _ _ body .. => body.getD 0 (.Pass ⟨0, 0, 0, 0⟩) | _ => .Pass ⟨0, 0, 0, 0⟩
theorem SI_NoPerson : FnScope ["self", "number"] ["self", "number"] (defScope s_ini_NoPerson) := ⟨rfl, rfl, rfl, by decide +kernel, rfl, by decide +kernel, by decide +kernel⟩
theorem ini_NoPerson {P : Program} {w : World} {K : PySem.W.Frag} {mg : Str → Option Value} {base : Heap} {C fI : Addr} {fd : FuncData} {B newId initId : String} {bm : List Value} (T : OexG K C B newId initId bm) (hno : PySem.W.findIn K (.ref C) "number" = some none) (F : Fun K "__init__" "NoPerson.__init__" s_ini_NoPerson fI fd) : FnOk P w K mg base (L2.CX P w) 1 fI fd ["self", "number"] (spLe C "number") :=
  fn_leG (k := 0) T hno F SI_NoPerson rfl rfl (.inl rfl) (.inl rfl) (by decide) (by decide) (by decide) (by decide) (fun _ => rfl)
abbrev s_ini_NoRegister : Stmt := match topS 2 with | .ClassDef _ _ _ body .. => body.getD 0 (.Pass ⟨0, 0, 0, 0⟩) | _ => .Pass ⟨0, 0, 0, 0⟩
theorem SI_NoRegister : FnScope ["self", "number"] ["self", "number"] (defScope s_ini_NoRegister) := ⟨rfl, rfl, rfl, by decide +kernel, rfl, by decide +kernel, by decide +kernel⟩
theorem ini_NoRegister {P : Program} {w : World} {K : PySem.W.Frag} {mg : Str → Option Value} {base : Heap} {C fI : Addr} {fd : FuncData} {B newId initId : String} {bm : List Value} (T : OexG K C B newId initId bm) (hno : PySem.W.findIn K (.ref C) "number" = some none) (F : Fun K "__init__" "NoRegister.__init__" s_ini_NoRegister fI fd) : FnOk P w K mg base (L2.CX P w) 1 fI fd ["self", "number"] (spLe C "number") :=
  fn_leG (k := 0) T hno F SI_NoRegister rfl rfl (.inl rfl) (.inl rfl) (by decide) (by decide) (by decide) (by decide) (fun _ => rfl)
theorem kit_ref {K : PySem.W.Frag} {C D : Addr} {b : Bool} (hd : PySem.W.hasDictIn K D = true) (ht : PySem.W.typeIn K (.ref D) = some (.type "type")) (hself : PySem.W.subIn K (.ref D) (.ref D) = some true) (hs : PySem.W.subIn K (.ref C) (.ref D) = some b) : PySem.W.kitOne K (.ref C) (.ref D) = some b := by
  unfold PySem.W.kitOne
  split
  · rename_i h
    have e : C = D := by simpa using h
    subst e
    rw [hself] at hs
    exact hs
  · have hc : (PySem.W.clsIn K D).isSome = true := by
      unfold PySem.W.hasDictIn at hd
      cases e : PySem.W.clsIn K D with
      | none => rw [e] at hd; cases hd
      | some c => rfl
    show (if ((PySem.W.clsIn K D).isSome && PySem.W.typeIn K (.ref D) == some (.type "type")) = true then PySem.W.subIn K (.ref C) (.ref D) else none) = some b
    rw [if_pos (by rw [hc, ht]; rfl)]
    exact hs
theorem fn_weak {P : Program} {w : World} {K : PySem.W.Frag} {mg : Str → Option Value} {base : Heap} {k : Nat} {f : Addr} {fd : FuncData} {ps : List Str} {sp sp2 : Sp} {CX : CXT} (F : FnOk P w K mg base CX k f fd ps sp) (h : ∀ vs H Q E, sp2 vs H Q E → sp vs H Q E) : FnOk P w K mg base CX k f fd ps sp2 :=
  ⟨fun vs H Q E q => F.1 vs H Q E (h _ _ _ _ q), fun A outer s H args us vs Q E a b c d q => F.2 A outer s H args us vs Q E a b c d (h _ _ _ _ q)⟩
theorem kit_exc {K : PySem.W.Frag} {C : Addr} {T : String} {b : Bool} (hm : PySem.W.kitMeta T = true) (hs : PySem.W.subIn K (.ref C) (.type T) = some b) : PySem.W.kitOne K (.ref C) (.type T) = some b := by
  unfold PySem.W.kitOne PySem.W.kitCls
  rw [if_neg (by simp)]
  show (if PySem.W.kitMeta T = true then PySem.W.subIn K (.ref C) (.type T) else none) = some b
  rw [if_pos hm]
  exact hs
theorem ints_dq {K : PySem.W.Frag} {H : Hp} : ∀ ns : List Int, DqAll K H (ns.map V.int) (ns.map PyData.int)
  | [] => .nil
  | n :: r => .cons (.int n) (ints_dq r)
/-- the promise of the law, whatever the names stand for -/
def spL (K : PySem.W.Frag) : Sp := fun vs H Q E => ∀ mg, spD K mg 1 g_law vs H Q E
theorem law_start {K : PySem.W.Frag} {H : Hp} {a : Addr} {ns : List Int} (hS : SqL K H a (ns.map V.int)) (hm : ∃ c, g_law [.fz (.list (ns.map .int))] = some (.ok (.bool true), c)) :
    spL K [.ref a] H (fun v _ => v = .bl true) fun _ _ _ => False := by
  intro mg
  obtain ⟨c, hm⟩ := hm
  have e : hid ⟨fun _ => False, fun _ => none⟩ (fun _ => none) H = H := by
    funext b
    unfold hid Hid
    simp
  refine ⟨rfl, ⟨fun _ => False, fun _ => none⟩, [.fz (.list (ns.map .int))], _, c, ⟨rfl, fun i d q => ?_, fun i b ds q => ?_, fun i a q => (by cases q), fun i j a q => (by cases q), fun b q => q.elim, fun i a q => (by cases q), fun i o q => ?_⟩, hm, fun d ed v H' _ _ dv => ?_, fun c fs z => by cases z⟩
  · match i, q with
    | 0, q =>
      cases q
      refine ⟨.ref a, rfl, ?_⟩
      rw [e]
      exact .lst hS (ints_dq ns)
  · match i, q with
    | 0, q => cases q
  · match i, q with
    | 0, q => cases q
  · cases ed
    cases dv with
    | bl b => rfl
set_option maxHeartbeats 0 in
theorem all_mk {l : PySem.W.OpenLaw} {w : World} {K : PySem.W.Frag} {h : Heap} {mg : Str → Option Value} {fa : Addr} {f__law_box f__law_take f__law_cells f__law_of f__law_same f__law_under f__law_which f__law_made_right f__law_right f_law : Addr} {od__law_box an__law_box od__law_take an__law_take od__law_cells an__law_cells od__law_of an__law_of od__law_same an__law_same od__law_under an__law_under od__law_which an__law_which od__law_made_right an__law_made_right od__law_right an__law_right od_law an_law : Option Addr} {sl__law_box sl__law_take sl__law_cells sl__law_of sl__law_same sl__law_under sl__law_which sl__law_made_right sl__law_right sl_law : Array (Option Value)} {oc__law_box kV__law_box dc__law_box pm__law_box cd__law_box ct__law_box oc__law_take kV__law_take dc__law_take pm__law_take cd__law_take ct__law_take oc__law_cells kV__law_cells dc__law_cells pm__law_cells cd__law_cells ct__law_cells oc__law_of kV__law_of dc__law_of pm__law_of cd__law_of ct__law_of oc__law_same kV__law_same dc__law_same pm__law_same cd__law_same ct__law_same oc__law_under kV__law_under dc__law_under pm__law_under cd__law_under ct__law_under oc__law_which kV__law_which dc__law_which pm__law_which cd__law_which ct__law_which oc__law_made_right kV__law_made_right dc__law_made_right pm__law_made_right cd__law_made_right ct__law_made_right oc__law_right kV__law_right dc__law_right pm__law_right cd__law_right ct__law_right oc_law kV_law dc_law pm_law cd_law ct_law : Value} {C_BadLine : Addr} {fI_BadLine : Addr} {odI_BadLine anI_BadLine : Option Addr} {slI_BadLine : Array (Option Value)} {ocI_BadLine kVI_BadLine dcI_BadLine pmI_BadLine cdI_BadLine ctI_BadLine : Value} {C_CanNot : Addr} {C_NoBlock : Addr} {fI_NoBlock : Addr} {odI_NoBlock anI_NoBlock : Option Addr} {slI_NoBlock : Array (Option Value)} {ocI_NoBlock kVI_NoBlock dcI_NoBlock pmI_NoBlock cdI_NoBlock ctI_NoBlock : Value} {C_NoBus : Addr} {fI_NoBus : Addr} {odI_NoBus anI_NoBus : Option Addr} {slI_NoBus : Array (Option Value)} {ocI_NoBus kVI_NoBus dcI_NoBus pmI_NoBus cdI_NoBus ctI_NoBus : Value} {C_NoItem : Addr} {fI_NoItem : Addr} {odI_NoItem anI_NoItem : Option Addr} {slI_NoItem : Array (Option Value)} {ocI_NoItem kVI_NoItem dcI_NoItem pmI_NoItem cdI_NoItem ctI_NoItem : Value} {C_NoLine : Addr} {fI_NoLine : Addr} {odI_NoLine anI_NoLine : Option Addr} {slI_NoLine : Array (Option Value)} {ocI_NoLine kVI_NoLine dcI_NoLine pmI_NoLine cdI_NoLine ctI_NoLine : Value} {C_NoPerson : Addr} {fI_NoPerson : Addr} {odI_NoPerson anI_NoPerson : Option Addr} {slI_NoPerson : Array (Option Value)} {ocI_NoPerson kVI_NoPerson dcI_NoPerson pmI_NoPerson cdI_NoPerson ctI_NoPerson : Value} {C_NoRegister : Addr} {fI_NoRegister : Addr} {odI_NoRegister anI_NoRegister : Option Addr} {slI_NoRegister : Array (Option Value)} {ocI_NoRegister kVI_NoRegister dcI_NoRegister pmI_NoRegister cdI_NoRegister ctI_NoRegister : Value} {C_NothingDone : Addr} {C_TooMany : Addr} {C_Unfit : Addr} (X : K.In h) (G : h.Ns mainGlobals mg) (hfa : mg "law" = some (.ref fa))
    (a__law_box : PySem.W.nsIn K mainGlobals "_law_box" = some (some (.ref f__law_box))) (l__law_box : K.lookup f__law_box = some ⟨oc__law_box, od__law_box, .func (PySem.W.fnOf "_law_box" "_law_box" (defArgs s__law_box) (defBody s__law_box) (defScope s__law_box) .none kV__law_box dc__law_box pm__law_box an__law_box cd__law_box ct__law_box), sl__law_box⟩) (c__law_box : PySem.W.codeIn K cd__law_box "_law_box" = true) (k__law_box : PySem.W.keepIn K (.ref f__law_box) = true)
    (a__law_take : PySem.W.nsIn K mainGlobals "_law_take" = some (some (.ref f__law_take))) (l__law_take : K.lookup f__law_take = some ⟨oc__law_take, od__law_take, .func (PySem.W.fnOf "_law_take" "_law_take" (defArgs s__law_take) (defBody s__law_take) (defScope s__law_take) .none kV__law_take dc__law_take pm__law_take an__law_take cd__law_take ct__law_take), sl__law_take⟩) (c__law_take : PySem.W.codeIn K cd__law_take "_law_take" = true) (k__law_take : PySem.W.keepIn K (.ref f__law_take) = true)
    (a__law_cells : PySem.W.nsIn K mainGlobals "_law_cells" = some (some (.ref f__law_cells))) (l__law_cells : K.lookup f__law_cells = some ⟨oc__law_cells, od__law_cells, .func (PySem.W.fnOf "_law_cells" "_law_cells" (defArgs s__law_cells) (defBody s__law_cells) (defScope s__law_cells) .none kV__law_cells dc__law_cells pm__law_cells an__law_cells cd__law_cells ct__law_cells), sl__law_cells⟩) (c__law_cells : PySem.W.codeIn K cd__law_cells "_law_cells" = true) (k__law_cells : PySem.W.keepIn K (.ref f__law_cells) = true)
    (a__law_of : PySem.W.nsIn K mainGlobals "_law_of" = some (some (.ref f__law_of))) (l__law_of : K.lookup f__law_of = some ⟨oc__law_of, od__law_of, .func (PySem.W.fnOf "_law_of" "_law_of" (defArgs s__law_of) (defBody s__law_of) (defScope s__law_of) .none kV__law_of dc__law_of pm__law_of an__law_of cd__law_of ct__law_of), sl__law_of⟩) (c__law_of : PySem.W.codeIn K cd__law_of "_law_of" = true) (k__law_of : PySem.W.keepIn K (.ref f__law_of) = true)
    (a__law_same : PySem.W.nsIn K mainGlobals "_law_same" = some (some (.ref f__law_same))) (l__law_same : K.lookup f__law_same = some ⟨oc__law_same, od__law_same, .func (PySem.W.fnOf "_law_same" "_law_same" (defArgs s__law_same) (defBody s__law_same) (defScope s__law_same) .none kV__law_same dc__law_same pm__law_same an__law_same cd__law_same ct__law_same), sl__law_same⟩) (c__law_same : PySem.W.codeIn K cd__law_same "_law_same" = true) (k__law_same : PySem.W.keepIn K (.ref f__law_same) = true)
    (a__law_under : PySem.W.nsIn K mainGlobals "_law_under" = some (some (.ref f__law_under))) (l__law_under : K.lookup f__law_under = some ⟨oc__law_under, od__law_under, .func (PySem.W.fnOf "_law_under" "_law_under" (defArgs s__law_under) (defBody s__law_under) (defScope s__law_under) .none kV__law_under dc__law_under pm__law_under an__law_under cd__law_under ct__law_under), sl__law_under⟩) (c__law_under : PySem.W.codeIn K cd__law_under "_law_under" = true) (k__law_under : PySem.W.keepIn K (.ref f__law_under) = true)
    (a__law_which : PySem.W.nsIn K mainGlobals "_law_which" = some (some (.ref f__law_which))) (l__law_which : K.lookup f__law_which = some ⟨oc__law_which, od__law_which, .func (PySem.W.fnOf "_law_which" "_law_which" (defArgs s__law_which) (defBody s__law_which) (defScope s__law_which) .none kV__law_which dc__law_which pm__law_which an__law_which cd__law_which ct__law_which), sl__law_which⟩) (c__law_which : PySem.W.codeIn K cd__law_which "_law_which" = true) (k__law_which : PySem.W.keepIn K (.ref f__law_which) = true)
    (a__law_made_right : PySem.W.nsIn K mainGlobals "_law_made_right" = some (some (.ref f__law_made_right))) (l__law_made_right : K.lookup f__law_made_right = some ⟨oc__law_made_right, od__law_made_right, .func (PySem.W.fnOf "_law_made_right" "_law_made_right" (defArgs s__law_made_right) (defBody s__law_made_right) (defScope s__law_made_right) .none kV__law_made_right dc__law_made_right pm__law_made_right an__law_made_right cd__law_made_right ct__law_made_right), sl__law_made_right⟩) (c__law_made_right : PySem.W.codeIn K cd__law_made_right "_law_made_right" = true) (k__law_made_right : PySem.W.keepIn K (.ref f__law_made_right) = true)
    (a__law_right : PySem.W.nsIn K mainGlobals "_law_right" = some (some (.ref f__law_right))) (l__law_right : K.lookup f__law_right = some ⟨oc__law_right, od__law_right, .func (PySem.W.fnOf "_law_right" "_law_right" (defArgs s__law_right) (defBody s__law_right) (defScope s__law_right) .none kV__law_right dc__law_right pm__law_right an__law_right cd__law_right ct__law_right), sl__law_right⟩) (c__law_right : PySem.W.codeIn K cd__law_right "_law_right" = true) (k__law_right : PySem.W.keepIn K (.ref f__law_right) = true)
    (a_law : PySem.W.nsIn K mainGlobals "law" = some (some (.ref f_law))) (l_law : K.lookup f_law = some ⟨oc_law, od_law, .func (PySem.W.fnOf "law" "law" (defArgs s_law) (defBody s_law) (defScope s_law) .none kV_law dc_law pm_law an_law cd_law ct_law), sl_law⟩) (c_law : PySem.W.codeIn K cd_law "law" = true) (k_law : PySem.W.keepIn K (.ref f_law) = true)
    (z_abs : PySem.W.nsIn K mainGlobals "abs" = some none) (z_all : PySem.W.nsIn K mainGlobals "all" = some none) (z_bool : PySem.W.nsIn K mainGlobals "bool" = some none) (z_enumerate : PySem.W.nsIn K mainGlobals "enumerate" = some none) (z_int : PySem.W.nsIn K mainGlobals "int" = some none) (z_isinstance : PySem.W.nsIn K mainGlobals "isinstance" = some none) (z_len : PySem.W.nsIn K mainGlobals "len" = some none) (z_list : PySem.W.nsIn K mainGlobals "list" = some none) (z_range : PySem.W.nsIn K mainGlobals "range" = some none) (z_str : PySem.W.nsIn K mainGlobals "str" = some none) (z_tuple : PySem.W.nsIn K mainGlobals "tuple" = some none) (z_zip : PySem.W.nsIn K mainGlobals "zip" = some none)
    (z_LookupError : PySem.W.nsIn K mainGlobals "LookupError" = some none)
    (z_ValueError : PySem.W.nsIn K mainGlobals "ValueError" = some none)
    (z_TypeError : PySem.W.nsIn K mainGlobals "TypeError" = some none)
    (z_KeyError : PySem.W.nsIn K mainGlobals "KeyError" = some none)
    (z_IndexError : PySem.W.nsIn K mainGlobals "IndexError" = some none)
    (z_RuntimeError : PySem.W.nsIn K mainGlobals "RuntimeError" = some none)
    (z_AttributeError : PySem.W.nsIn K mainGlobals "AttributeError" = some none)
    (z_Exception : PySem.W.nsIn K mainGlobals "Exception" = some none)
    (xg_BadLine : PySem.W.nsIn K mainGlobals "BadLine" = some (some (.ref C_BadLine))) (xk_BadLine : PySem.W.keepIn K (.ref C_BadLine) = true) (xb_BadLine : PySem.W.subIn K (.ref C_BadLine) (.type "BaseException") = some true) (xt_BadLine : PySem.W.typeIn K (.ref C_BadLine) = some (.type "type"))
    (xc1_BadLine : PySem.W.findIn K (.ref C_BadLine) "__getattribute__" = some (some (.builtin "BaseException.__getattribute__"))) (xc2_BadLine : PySem.W.findIn K (.ref C_BadLine) "__getattr__" = some none) (xc3_BadLine : PySem.W.hasDictIn K C_BadLine = true) (xc4_BadLine : PySem.W.findIn K (.ref C_BadLine) "__class__" = some (some (.builtin "object.__class__"))) (xc5_BadLine : PySem.W.specialIn K (.builtin "object.__class__") "__get__" = some (some (.builtin "getset_descriptor.__get__"))) (xc6_BadLine : PySem.W.takesIn K (.builtin "object.__class__") = some true) (xc7_BadLine : PySem.W.mroIn K C_BadLine (.type "object") = some true)
    (yq_BadLine : PySem.W.excInitIn K C_BadLine bmVE "ValueError.__new__" = true) (yo_BadLine : PySem.W.excOver K C_BadLine bmVE = true) (ysa_BadLine : PySem.W.findIn K (.ref C_BadLine) "__setattr__" = some (some (.builtin "object.__setattr__")))
    (yi_BadLine : PySem.W.findIn K (.ref C_BadLine) "__init__" = some (some (.ref fI_BadLine))) (yt_BadLine : PySem.W.typeIn K (.ref fI_BadLine) = some (.type "function")) (yl_BadLine : K.lookup fI_BadLine = some ⟨ocI_BadLine, odI_BadLine, .func (PySem.W.fnOf "__init__" "BadLine.__init__" (defArgs s_ini_BadLine) (defBody s_ini_BadLine) (defScope s_ini_BadLine) .none kVI_BadLine dcI_BadLine pmI_BadLine anI_BadLine cdI_BadLine ctI_BadLine), slI_BadLine⟩) (yc_BadLine : PySem.W.codeIn K cdI_BadLine "BadLine.__init__" = true) (yk_BadLine : PySem.W.keepIn K (.ref fI_BadLine) = true) (yn_BadLine : PySem.W.findIn K (.ref C_BadLine) "number" = some none)
    (xg_CanNot : PySem.W.nsIn K mainGlobals "CanNot" = some (some (.ref C_CanNot))) (xk_CanNot : PySem.W.keepIn K (.ref C_CanNot) = true) (xb_CanNot : PySem.W.subIn K (.ref C_CanNot) (.type "BaseException") = some true) (xt_CanNot : PySem.W.typeIn K (.ref C_CanNot) = some (.type "type"))
    (xc1_CanNot : PySem.W.findIn K (.ref C_CanNot) "__getattribute__" = some (some (.builtin "BaseException.__getattribute__"))) (xc2_CanNot : PySem.W.findIn K (.ref C_CanNot) "__getattr__" = some none) (xc3_CanNot : PySem.W.hasDictIn K C_CanNot = true) (xc4_CanNot : PySem.W.findIn K (.ref C_CanNot) "__class__" = some (some (.builtin "object.__class__"))) (xc5_CanNot : PySem.W.specialIn K (.builtin "object.__class__") "__get__" = some (some (.builtin "getset_descriptor.__get__"))) (xc6_CanNot : PySem.W.takesIn K (.builtin "object.__class__") = some true) (xc7_CanNot : PySem.W.mroIn K C_CanNot (.type "object") = some true)
    (xq_CanNot : PySem.W.excIn K C_CanNot bmVE "ValueError.__new__" = true)
    (xg_NoBlock : PySem.W.nsIn K mainGlobals "NoBlock" = some (some (.ref C_NoBlock))) (xk_NoBlock : PySem.W.keepIn K (.ref C_NoBlock) = true) (xb_NoBlock : PySem.W.subIn K (.ref C_NoBlock) (.type "BaseException") = some true) (xt_NoBlock : PySem.W.typeIn K (.ref C_NoBlock) = some (.type "type"))
    (xc1_NoBlock : PySem.W.findIn K (.ref C_NoBlock) "__getattribute__" = some (some (.builtin "BaseException.__getattribute__"))) (xc2_NoBlock : PySem.W.findIn K (.ref C_NoBlock) "__getattr__" = some none) (xc3_NoBlock : PySem.W.hasDictIn K C_NoBlock = true) (xc4_NoBlock : PySem.W.findIn K (.ref C_NoBlock) "__class__" = some (some (.builtin "object.__class__"))) (xc5_NoBlock : PySem.W.specialIn K (.builtin "object.__class__") "__get__" = some (some (.builtin "getset_descriptor.__get__"))) (xc6_NoBlock : PySem.W.takesIn K (.builtin "object.__class__") = some true) (xc7_NoBlock : PySem.W.mroIn K C_NoBlock (.type "object") = some true)
    (yq_NoBlock : PySem.W.excInitIn K C_NoBlock bmLE "LookupError.__new__" = true) (yo_NoBlock : PySem.W.excOver K C_NoBlock bmLE = true) (ysa_NoBlock : PySem.W.findIn K (.ref C_NoBlock) "__setattr__" = some (some (.builtin "object.__setattr__")))
    (yi_NoBlock : PySem.W.findIn K (.ref C_NoBlock) "__init__" = some (some (.ref fI_NoBlock))) (yt_NoBlock : PySem.W.typeIn K (.ref fI_NoBlock) = some (.type "function")) (yl_NoBlock : K.lookup fI_NoBlock = some ⟨ocI_NoBlock, odI_NoBlock, .func (PySem.W.fnOf "__init__" "NoBlock.__init__" (defArgs s_ini_NoBlock) (defBody s_ini_NoBlock) (defScope s_ini_NoBlock) .none kVI_NoBlock dcI_NoBlock pmI_NoBlock anI_NoBlock cdI_NoBlock ctI_NoBlock), slI_NoBlock⟩) (yc_NoBlock : PySem.W.codeIn K cdI_NoBlock "NoBlock.__init__" = true) (yk_NoBlock : PySem.W.keepIn K (.ref fI_NoBlock) = true) (yn_NoBlock : PySem.W.findIn K (.ref C_NoBlock) "number" = some none)
    (xg_NoBus : PySem.W.nsIn K mainGlobals "NoBus" = some (some (.ref C_NoBus))) (xk_NoBus : PySem.W.keepIn K (.ref C_NoBus) = true) (xb_NoBus : PySem.W.subIn K (.ref C_NoBus) (.type "BaseException") = some true) (xt_NoBus : PySem.W.typeIn K (.ref C_NoBus) = some (.type "type"))
    (xc1_NoBus : PySem.W.findIn K (.ref C_NoBus) "__getattribute__" = some (some (.builtin "BaseException.__getattribute__"))) (xc2_NoBus : PySem.W.findIn K (.ref C_NoBus) "__getattr__" = some none) (xc3_NoBus : PySem.W.hasDictIn K C_NoBus = true) (xc4_NoBus : PySem.W.findIn K (.ref C_NoBus) "__class__" = some (some (.builtin "object.__class__"))) (xc5_NoBus : PySem.W.specialIn K (.builtin "object.__class__") "__get__" = some (some (.builtin "getset_descriptor.__get__"))) (xc6_NoBus : PySem.W.takesIn K (.builtin "object.__class__") = some true) (xc7_NoBus : PySem.W.mroIn K C_NoBus (.type "object") = some true)
    (yq_NoBus : PySem.W.excInitIn K C_NoBus bmLE "LookupError.__new__" = true) (yo_NoBus : PySem.W.excOver K C_NoBus bmLE = true) (ysa_NoBus : PySem.W.findIn K (.ref C_NoBus) "__setattr__" = some (some (.builtin "object.__setattr__")))
    (yi_NoBus : PySem.W.findIn K (.ref C_NoBus) "__init__" = some (some (.ref fI_NoBus))) (yt_NoBus : PySem.W.typeIn K (.ref fI_NoBus) = some (.type "function")) (yl_NoBus : K.lookup fI_NoBus = some ⟨ocI_NoBus, odI_NoBus, .func (PySem.W.fnOf "__init__" "NoBus.__init__" (defArgs s_ini_NoBus) (defBody s_ini_NoBus) (defScope s_ini_NoBus) .none kVI_NoBus dcI_NoBus pmI_NoBus anI_NoBus cdI_NoBus ctI_NoBus), slI_NoBus⟩) (yc_NoBus : PySem.W.codeIn K cdI_NoBus "NoBus.__init__" = true) (yk_NoBus : PySem.W.keepIn K (.ref fI_NoBus) = true) (yn_NoBus : PySem.W.findIn K (.ref C_NoBus) "number" = some none)
    (xg_NoItem : PySem.W.nsIn K mainGlobals "NoItem" = some (some (.ref C_NoItem))) (xk_NoItem : PySem.W.keepIn K (.ref C_NoItem) = true) (xb_NoItem : PySem.W.subIn K (.ref C_NoItem) (.type "BaseException") = some true) (xt_NoItem : PySem.W.typeIn K (.ref C_NoItem) = some (.type "type"))
    (xc1_NoItem : PySem.W.findIn K (.ref C_NoItem) "__getattribute__" = some (some (.builtin "BaseException.__getattribute__"))) (xc2_NoItem : PySem.W.findIn K (.ref C_NoItem) "__getattr__" = some none) (xc3_NoItem : PySem.W.hasDictIn K C_NoItem = true) (xc4_NoItem : PySem.W.findIn K (.ref C_NoItem) "__class__" = some (some (.builtin "object.__class__"))) (xc5_NoItem : PySem.W.specialIn K (.builtin "object.__class__") "__get__" = some (some (.builtin "getset_descriptor.__get__"))) (xc6_NoItem : PySem.W.takesIn K (.builtin "object.__class__") = some true) (xc7_NoItem : PySem.W.mroIn K C_NoItem (.type "object") = some true)
    (yq_NoItem : PySem.W.excInitIn K C_NoItem bmLE "LookupError.__new__" = true) (yo_NoItem : PySem.W.excOver K C_NoItem bmLE = true) (ysa_NoItem : PySem.W.findIn K (.ref C_NoItem) "__setattr__" = some (some (.builtin "object.__setattr__")))
    (yi_NoItem : PySem.W.findIn K (.ref C_NoItem) "__init__" = some (some (.ref fI_NoItem))) (yt_NoItem : PySem.W.typeIn K (.ref fI_NoItem) = some (.type "function")) (yl_NoItem : K.lookup fI_NoItem = some ⟨ocI_NoItem, odI_NoItem, .func (PySem.W.fnOf "__init__" "NoItem.__init__" (defArgs s_ini_NoItem) (defBody s_ini_NoItem) (defScope s_ini_NoItem) .none kVI_NoItem dcI_NoItem pmI_NoItem anI_NoItem cdI_NoItem ctI_NoItem), slI_NoItem⟩) (yc_NoItem : PySem.W.codeIn K cdI_NoItem "NoItem.__init__" = true) (yk_NoItem : PySem.W.keepIn K (.ref fI_NoItem) = true) (yn_NoItem : PySem.W.findIn K (.ref C_NoItem) "path" = some none)
    (xg_NoLine : PySem.W.nsIn K mainGlobals "NoLine" = some (some (.ref C_NoLine))) (xk_NoLine : PySem.W.keepIn K (.ref C_NoLine) = true) (xb_NoLine : PySem.W.subIn K (.ref C_NoLine) (.type "BaseException") = some true) (xt_NoLine : PySem.W.typeIn K (.ref C_NoLine) = some (.type "type"))
    (xc1_NoLine : PySem.W.findIn K (.ref C_NoLine) "__getattribute__" = some (some (.builtin "BaseException.__getattribute__"))) (xc2_NoLine : PySem.W.findIn K (.ref C_NoLine) "__getattr__" = some none) (xc3_NoLine : PySem.W.hasDictIn K C_NoLine = true) (xc4_NoLine : PySem.W.findIn K (.ref C_NoLine) "__class__" = some (some (.builtin "object.__class__"))) (xc5_NoLine : PySem.W.specialIn K (.builtin "object.__class__") "__get__" = some (some (.builtin "getset_descriptor.__get__"))) (xc6_NoLine : PySem.W.takesIn K (.builtin "object.__class__") = some true) (xc7_NoLine : PySem.W.mroIn K C_NoLine (.type "object") = some true)
    (yq_NoLine : PySem.W.excInitIn K C_NoLine bmLE "LookupError.__new__" = true) (yo_NoLine : PySem.W.excOver K C_NoLine bmLE = true) (ysa_NoLine : PySem.W.findIn K (.ref C_NoLine) "__setattr__" = some (some (.builtin "object.__setattr__")))
    (yi_NoLine : PySem.W.findIn K (.ref C_NoLine) "__init__" = some (some (.ref fI_NoLine))) (yt_NoLine : PySem.W.typeIn K (.ref fI_NoLine) = some (.type "function")) (yl_NoLine : K.lookup fI_NoLine = some ⟨ocI_NoLine, odI_NoLine, .func (PySem.W.fnOf "__init__" "NoLine.__init__" (defArgs s_ini_NoLine) (defBody s_ini_NoLine) (defScope s_ini_NoLine) .none kVI_NoLine dcI_NoLine pmI_NoLine anI_NoLine cdI_NoLine ctI_NoLine), slI_NoLine⟩) (yc_NoLine : PySem.W.codeIn K cdI_NoLine "NoLine.__init__" = true) (yk_NoLine : PySem.W.keepIn K (.ref fI_NoLine) = true) (yn_NoLine : PySem.W.findIn K (.ref C_NoLine) "number" = some none)
    (xg_NoPerson : PySem.W.nsIn K mainGlobals "NoPerson" = some (some (.ref C_NoPerson))) (xk_NoPerson : PySem.W.keepIn K (.ref C_NoPerson) = true) (xb_NoPerson : PySem.W.subIn K (.ref C_NoPerson) (.type "BaseException") = some true) (xt_NoPerson : PySem.W.typeIn K (.ref C_NoPerson) = some (.type "type"))
    (xc1_NoPerson : PySem.W.findIn K (.ref C_NoPerson) "__getattribute__" = some (some (.builtin "BaseException.__getattribute__"))) (xc2_NoPerson : PySem.W.findIn K (.ref C_NoPerson) "__getattr__" = some none) (xc3_NoPerson : PySem.W.hasDictIn K C_NoPerson = true) (xc4_NoPerson : PySem.W.findIn K (.ref C_NoPerson) "__class__" = some (some (.builtin "object.__class__"))) (xc5_NoPerson : PySem.W.specialIn K (.builtin "object.__class__") "__get__" = some (some (.builtin "getset_descriptor.__get__"))) (xc6_NoPerson : PySem.W.takesIn K (.builtin "object.__class__") = some true) (xc7_NoPerson : PySem.W.mroIn K C_NoPerson (.type "object") = some true)
    (yq_NoPerson : PySem.W.excInitIn K C_NoPerson bmLE "LookupError.__new__" = true) (yo_NoPerson : PySem.W.excOver K C_NoPerson bmLE = true) (ysa_NoPerson : PySem.W.findIn K (.ref C_NoPerson) "__setattr__" = some (some (.builtin "object.__setattr__")))
    (yi_NoPerson : PySem.W.findIn K (.ref C_NoPerson) "__init__" = some (some (.ref fI_NoPerson))) (yt_NoPerson : PySem.W.typeIn K (.ref fI_NoPerson) = some (.type "function")) (yl_NoPerson : K.lookup fI_NoPerson = some ⟨ocI_NoPerson, odI_NoPerson, .func (PySem.W.fnOf "__init__" "NoPerson.__init__" (defArgs s_ini_NoPerson) (defBody s_ini_NoPerson) (defScope s_ini_NoPerson) .none kVI_NoPerson dcI_NoPerson pmI_NoPerson anI_NoPerson cdI_NoPerson ctI_NoPerson), slI_NoPerson⟩) (yc_NoPerson : PySem.W.codeIn K cdI_NoPerson "NoPerson.__init__" = true) (yk_NoPerson : PySem.W.keepIn K (.ref fI_NoPerson) = true) (yn_NoPerson : PySem.W.findIn K (.ref C_NoPerson) "number" = some none)
    (xg_NoRegister : PySem.W.nsIn K mainGlobals "NoRegister" = some (some (.ref C_NoRegister))) (xk_NoRegister : PySem.W.keepIn K (.ref C_NoRegister) = true) (xb_NoRegister : PySem.W.subIn K (.ref C_NoRegister) (.type "BaseException") = some true) (xt_NoRegister : PySem.W.typeIn K (.ref C_NoRegister) = some (.type "type"))
    (xc1_NoRegister : PySem.W.findIn K (.ref C_NoRegister) "__getattribute__" = some (some (.builtin "BaseException.__getattribute__"))) (xc2_NoRegister : PySem.W.findIn K (.ref C_NoRegister) "__getattr__" = some none) (xc3_NoRegister : PySem.W.hasDictIn K C_NoRegister = true) (xc4_NoRegister : PySem.W.findIn K (.ref C_NoRegister) "__class__" = some (some (.builtin "object.__class__"))) (xc5_NoRegister : PySem.W.specialIn K (.builtin "object.__class__") "__get__" = some (some (.builtin "getset_descriptor.__get__"))) (xc6_NoRegister : PySem.W.takesIn K (.builtin "object.__class__") = some true) (xc7_NoRegister : PySem.W.mroIn K C_NoRegister (.type "object") = some true)
    (yq_NoRegister : PySem.W.excInitIn K C_NoRegister bmLE "LookupError.__new__" = true) (yo_NoRegister : PySem.W.excOver K C_NoRegister bmLE = true) (ysa_NoRegister : PySem.W.findIn K (.ref C_NoRegister) "__setattr__" = some (some (.builtin "object.__setattr__")))
    (yi_NoRegister : PySem.W.findIn K (.ref C_NoRegister) "__init__" = some (some (.ref fI_NoRegister))) (yt_NoRegister : PySem.W.typeIn K (.ref fI_NoRegister) = some (.type "function")) (yl_NoRegister : K.lookup fI_NoRegister = some ⟨ocI_NoRegister, odI_NoRegister, .func (PySem.W.fnOf "__init__" "NoRegister.__init__" (defArgs s_ini_NoRegister) (defBody s_ini_NoRegister) (defScope s_ini_NoRegister) .none kVI_NoRegister dcI_NoRegister pmI_NoRegister anI_NoRegister cdI_NoRegister ctI_NoRegister), slI_NoRegister⟩) (yc_NoRegister : PySem.W.codeIn K cdI_NoRegister "NoRegister.__init__" = true) (yk_NoRegister : PySem.W.keepIn K (.ref fI_NoRegister) = true) (yn_NoRegister : PySem.W.findIn K (.ref C_NoRegister) "number" = some none)
    (xg_NothingDone : PySem.W.nsIn K mainGlobals "NothingDone" = some (some (.ref C_NothingDone))) (xk_NothingDone : PySem.W.keepIn K (.ref C_NothingDone) = true) (xb_NothingDone : PySem.W.subIn K (.ref C_NothingDone) (.type "BaseException") = some true) (xt_NothingDone : PySem.W.typeIn K (.ref C_NothingDone) = some (.type "type"))
    (xc1_NothingDone : PySem.W.findIn K (.ref C_NothingDone) "__getattribute__" = some (some (.builtin "BaseException.__getattribute__"))) (xc2_NothingDone : PySem.W.findIn K (.ref C_NothingDone) "__getattr__" = some none) (xc3_NothingDone : PySem.W.hasDictIn K C_NothingDone = true) (xc4_NothingDone : PySem.W.findIn K (.ref C_NothingDone) "__class__" = some (some (.builtin "object.__class__"))) (xc5_NothingDone : PySem.W.specialIn K (.builtin "object.__class__") "__get__" = some (some (.builtin "getset_descriptor.__get__"))) (xc6_NothingDone : PySem.W.takesIn K (.builtin "object.__class__") = some true) (xc7_NothingDone : PySem.W.mroIn K C_NothingDone (.type "object") = some true)
    (xq_NothingDone : PySem.W.excIn K C_NothingDone bmLE "LookupError.__new__" = true)
    (xg_TooMany : PySem.W.nsIn K mainGlobals "TooMany" = some (some (.ref C_TooMany))) (xk_TooMany : PySem.W.keepIn K (.ref C_TooMany) = true) (xb_TooMany : PySem.W.subIn K (.ref C_TooMany) (.type "BaseException") = some true) (xt_TooMany : PySem.W.typeIn K (.ref C_TooMany) = some (.type "type"))
    (xc1_TooMany : PySem.W.findIn K (.ref C_TooMany) "__getattribute__" = some (some (.builtin "BaseException.__getattribute__"))) (xc2_TooMany : PySem.W.findIn K (.ref C_TooMany) "__getattr__" = some none) (xc3_TooMany : PySem.W.hasDictIn K C_TooMany = true) (xc4_TooMany : PySem.W.findIn K (.ref C_TooMany) "__class__" = some (some (.builtin "object.__class__"))) (xc5_TooMany : PySem.W.specialIn K (.builtin "object.__class__") "__get__" = some (some (.builtin "getset_descriptor.__get__"))) (xc6_TooMany : PySem.W.takesIn K (.builtin "object.__class__") = some true) (xc7_TooMany : PySem.W.mroIn K C_TooMany (.type "object") = some true)
    (xq_TooMany : PySem.W.excIn K C_TooMany bmVE "ValueError.__new__" = true)
    (xg_Unfit : PySem.W.nsIn K mainGlobals "Unfit" = some (some (.ref C_Unfit))) (xk_Unfit : PySem.W.keepIn K (.ref C_Unfit) = true) (xb_Unfit : PySem.W.subIn K (.ref C_Unfit) (.type "BaseException") = some true) (xt_Unfit : PySem.W.typeIn K (.ref C_Unfit) = some (.type "type"))
    (xc1_Unfit : PySem.W.findIn K (.ref C_Unfit) "__getattribute__" = some (some (.builtin "BaseException.__getattribute__"))) (xc2_Unfit : PySem.W.findIn K (.ref C_Unfit) "__getattr__" = some none) (xc3_Unfit : PySem.W.hasDictIn K C_Unfit = true) (xc4_Unfit : PySem.W.findIn K (.ref C_Unfit) "__class__" = some (some (.builtin "object.__class__"))) (xc5_Unfit : PySem.W.specialIn K (.builtin "object.__class__") "__get__" = some (some (.builtin "getset_descriptor.__get__"))) (xc6_Unfit : PySem.W.takesIn K (.builtin "object.__class__") = some true) (xc7_Unfit : PySem.W.mroIn K C_Unfit (.type "object") = some true)
    (xq_Unfit : PySem.W.excIn K C_Unfit bmVE "ValueError.__new__" = true)
    (su_BadLine_LookupError : PySem.W.subIn K (.ref C_BadLine) (.type "LookupError") = some false)
    (su_BadLine_ValueError : PySem.W.subIn K (.ref C_BadLine) (.type "ValueError") = some true)
    (su_BadLine_TypeError : PySem.W.subIn K (.ref C_BadLine) (.type "TypeError") = some false)
    (su_BadLine_KeyError : PySem.W.subIn K (.ref C_BadLine) (.type "KeyError") = some false)
    (su_BadLine_IndexError : PySem.W.subIn K (.ref C_BadLine) (.type "IndexError") = some false)
    (su_BadLine_RuntimeError : PySem.W.subIn K (.ref C_BadLine) (.type "RuntimeError") = some false)
    (su_BadLine_AttributeError : PySem.W.subIn K (.ref C_BadLine) (.type "AttributeError") = some false)
    (su_BadLine_Exception : PySem.W.subIn K (.ref C_BadLine) (.type "Exception") = some true)
    (sr_BadLine_BadLine : PySem.W.subIn K (.ref C_BadLine) (.ref C_BadLine) = some true)
    (sr_BadLine_CanNot : PySem.W.subIn K (.ref C_BadLine) (.ref C_CanNot) = some false)
    (sr_BadLine_NoBlock : PySem.W.subIn K (.ref C_BadLine) (.ref C_NoBlock) = some false)
    (sr_BadLine_NoBus : PySem.W.subIn K (.ref C_BadLine) (.ref C_NoBus) = some false)
    (sr_BadLine_NoItem : PySem.W.subIn K (.ref C_BadLine) (.ref C_NoItem) = some false)
    (sr_BadLine_NoLine : PySem.W.subIn K (.ref C_BadLine) (.ref C_NoLine) = some false)
    (sr_BadLine_NoPerson : PySem.W.subIn K (.ref C_BadLine) (.ref C_NoPerson) = some false)
    (sr_BadLine_NoRegister : PySem.W.subIn K (.ref C_BadLine) (.ref C_NoRegister) = some false)
    (sr_BadLine_NothingDone : PySem.W.subIn K (.ref C_BadLine) (.ref C_NothingDone) = some false)
    (sr_BadLine_TooMany : PySem.W.subIn K (.ref C_BadLine) (.ref C_TooMany) = some false)
    (sr_BadLine_Unfit : PySem.W.subIn K (.ref C_BadLine) (.ref C_Unfit) = some false)
    (su_CanNot_LookupError : PySem.W.subIn K (.ref C_CanNot) (.type "LookupError") = some false)
    (su_CanNot_ValueError : PySem.W.subIn K (.ref C_CanNot) (.type "ValueError") = some true)
    (su_CanNot_TypeError : PySem.W.subIn K (.ref C_CanNot) (.type "TypeError") = some false)
    (su_CanNot_KeyError : PySem.W.subIn K (.ref C_CanNot) (.type "KeyError") = some false)
    (su_CanNot_IndexError : PySem.W.subIn K (.ref C_CanNot) (.type "IndexError") = some false)
    (su_CanNot_RuntimeError : PySem.W.subIn K (.ref C_CanNot) (.type "RuntimeError") = some false)
    (su_CanNot_AttributeError : PySem.W.subIn K (.ref C_CanNot) (.type "AttributeError") = some false)
    (su_CanNot_Exception : PySem.W.subIn K (.ref C_CanNot) (.type "Exception") = some true)
    (sr_CanNot_BadLine : PySem.W.subIn K (.ref C_CanNot) (.ref C_BadLine) = some false)
    (sr_CanNot_CanNot : PySem.W.subIn K (.ref C_CanNot) (.ref C_CanNot) = some true)
    (sr_CanNot_NoBlock : PySem.W.subIn K (.ref C_CanNot) (.ref C_NoBlock) = some false)
    (sr_CanNot_NoBus : PySem.W.subIn K (.ref C_CanNot) (.ref C_NoBus) = some false)
    (sr_CanNot_NoItem : PySem.W.subIn K (.ref C_CanNot) (.ref C_NoItem) = some false)
    (sr_CanNot_NoLine : PySem.W.subIn K (.ref C_CanNot) (.ref C_NoLine) = some false)
    (sr_CanNot_NoPerson : PySem.W.subIn K (.ref C_CanNot) (.ref C_NoPerson) = some false)
    (sr_CanNot_NoRegister : PySem.W.subIn K (.ref C_CanNot) (.ref C_NoRegister) = some false)
    (sr_CanNot_NothingDone : PySem.W.subIn K (.ref C_CanNot) (.ref C_NothingDone) = some false)
    (sr_CanNot_TooMany : PySem.W.subIn K (.ref C_CanNot) (.ref C_TooMany) = some false)
    (sr_CanNot_Unfit : PySem.W.subIn K (.ref C_CanNot) (.ref C_Unfit) = some false)
    (su_NoBlock_LookupError : PySem.W.subIn K (.ref C_NoBlock) (.type "LookupError") = some true)
    (su_NoBlock_ValueError : PySem.W.subIn K (.ref C_NoBlock) (.type "ValueError") = some false)
    (su_NoBlock_TypeError : PySem.W.subIn K (.ref C_NoBlock) (.type "TypeError") = some false)
    (su_NoBlock_KeyError : PySem.W.subIn K (.ref C_NoBlock) (.type "KeyError") = some false)
    (su_NoBlock_IndexError : PySem.W.subIn K (.ref C_NoBlock) (.type "IndexError") = some false)
    (su_NoBlock_RuntimeError : PySem.W.subIn K (.ref C_NoBlock) (.type "RuntimeError") = some false)
    (su_NoBlock_AttributeError : PySem.W.subIn K (.ref C_NoBlock) (.type "AttributeError") = some false)
    (su_NoBlock_Exception : PySem.W.subIn K (.ref C_NoBlock) (.type "Exception") = some true)
    (sr_NoBlock_BadLine : PySem.W.subIn K (.ref C_NoBlock) (.ref C_BadLine) = some false)
    (sr_NoBlock_CanNot : PySem.W.subIn K (.ref C_NoBlock) (.ref C_CanNot) = some false)
    (sr_NoBlock_NoBlock : PySem.W.subIn K (.ref C_NoBlock) (.ref C_NoBlock) = some true)
    (sr_NoBlock_NoBus : PySem.W.subIn K (.ref C_NoBlock) (.ref C_NoBus) = some false)
    (sr_NoBlock_NoItem : PySem.W.subIn K (.ref C_NoBlock) (.ref C_NoItem) = some false)
    (sr_NoBlock_NoLine : PySem.W.subIn K (.ref C_NoBlock) (.ref C_NoLine) = some false)
    (sr_NoBlock_NoPerson : PySem.W.subIn K (.ref C_NoBlock) (.ref C_NoPerson) = some false)
    (sr_NoBlock_NoRegister : PySem.W.subIn K (.ref C_NoBlock) (.ref C_NoRegister) = some false)
    (sr_NoBlock_NothingDone : PySem.W.subIn K (.ref C_NoBlock) (.ref C_NothingDone) = some false)
    (sr_NoBlock_TooMany : PySem.W.subIn K (.ref C_NoBlock) (.ref C_TooMany) = some false)
    (sr_NoBlock_Unfit : PySem.W.subIn K (.ref C_NoBlock) (.ref C_Unfit) = some false)
    (su_NoBus_LookupError : PySem.W.subIn K (.ref C_NoBus) (.type "LookupError") = some true)
    (su_NoBus_ValueError : PySem.W.subIn K (.ref C_NoBus) (.type "ValueError") = some false)
    (su_NoBus_TypeError : PySem.W.subIn K (.ref C_NoBus) (.type "TypeError") = some false)
    (su_NoBus_KeyError : PySem.W.subIn K (.ref C_NoBus) (.type "KeyError") = some false)
    (su_NoBus_IndexError : PySem.W.subIn K (.ref C_NoBus) (.type "IndexError") = some false)
    (su_NoBus_RuntimeError : PySem.W.subIn K (.ref C_NoBus) (.type "RuntimeError") = some false)
    (su_NoBus_AttributeError : PySem.W.subIn K (.ref C_NoBus) (.type "AttributeError") = some false)
    (su_NoBus_Exception : PySem.W.subIn K (.ref C_NoBus) (.type "Exception") = some true)
    (sr_NoBus_BadLine : PySem.W.subIn K (.ref C_NoBus) (.ref C_BadLine) = some false)
    (sr_NoBus_CanNot : PySem.W.subIn K (.ref C_NoBus) (.ref C_CanNot) = some false)
    (sr_NoBus_NoBlock : PySem.W.subIn K (.ref C_NoBus) (.ref C_NoBlock) = some false)
    (sr_NoBus_NoBus : PySem.W.subIn K (.ref C_NoBus) (.ref C_NoBus) = some true)
    (sr_NoBus_NoItem : PySem.W.subIn K (.ref C_NoBus) (.ref C_NoItem) = some false)
    (sr_NoBus_NoLine : PySem.W.subIn K (.ref C_NoBus) (.ref C_NoLine) = some false)
    (sr_NoBus_NoPerson : PySem.W.subIn K (.ref C_NoBus) (.ref C_NoPerson) = some false)
    (sr_NoBus_NoRegister : PySem.W.subIn K (.ref C_NoBus) (.ref C_NoRegister) = some false)
    (sr_NoBus_NothingDone : PySem.W.subIn K (.ref C_NoBus) (.ref C_NothingDone) = some false)
    (sr_NoBus_TooMany : PySem.W.subIn K (.ref C_NoBus) (.ref C_TooMany) = some false)
    (sr_NoBus_Unfit : PySem.W.subIn K (.ref C_NoBus) (.ref C_Unfit) = some false)
    (su_NoItem_LookupError : PySem.W.subIn K (.ref C_NoItem) (.type "LookupError") = some true)
    (su_NoItem_ValueError : PySem.W.subIn K (.ref C_NoItem) (.type "ValueError") = some false)
    (su_NoItem_TypeError : PySem.W.subIn K (.ref C_NoItem) (.type "TypeError") = some false)
    (su_NoItem_KeyError : PySem.W.subIn K (.ref C_NoItem) (.type "KeyError") = some false)
    (su_NoItem_IndexError : PySem.W.subIn K (.ref C_NoItem) (.type "IndexError") = some false)
    (su_NoItem_RuntimeError : PySem.W.subIn K (.ref C_NoItem) (.type "RuntimeError") = some false)
    (su_NoItem_AttributeError : PySem.W.subIn K (.ref C_NoItem) (.type "AttributeError") = some false)
    (su_NoItem_Exception : PySem.W.subIn K (.ref C_NoItem) (.type "Exception") = some true)
    (sr_NoItem_BadLine : PySem.W.subIn K (.ref C_NoItem) (.ref C_BadLine) = some false)
    (sr_NoItem_CanNot : PySem.W.subIn K (.ref C_NoItem) (.ref C_CanNot) = some false)
    (sr_NoItem_NoBlock : PySem.W.subIn K (.ref C_NoItem) (.ref C_NoBlock) = some false)
    (sr_NoItem_NoBus : PySem.W.subIn K (.ref C_NoItem) (.ref C_NoBus) = some false)
    (sr_NoItem_NoItem : PySem.W.subIn K (.ref C_NoItem) (.ref C_NoItem) = some true)
    (sr_NoItem_NoLine : PySem.W.subIn K (.ref C_NoItem) (.ref C_NoLine) = some false)
    (sr_NoItem_NoPerson : PySem.W.subIn K (.ref C_NoItem) (.ref C_NoPerson) = some false)
    (sr_NoItem_NoRegister : PySem.W.subIn K (.ref C_NoItem) (.ref C_NoRegister) = some false)
    (sr_NoItem_NothingDone : PySem.W.subIn K (.ref C_NoItem) (.ref C_NothingDone) = some false)
    (sr_NoItem_TooMany : PySem.W.subIn K (.ref C_NoItem) (.ref C_TooMany) = some false)
    (sr_NoItem_Unfit : PySem.W.subIn K (.ref C_NoItem) (.ref C_Unfit) = some false)
    (su_NoLine_LookupError : PySem.W.subIn K (.ref C_NoLine) (.type "LookupError") = some true)
    (su_NoLine_ValueError : PySem.W.subIn K (.ref C_NoLine) (.type "ValueError") = some false)
    (su_NoLine_TypeError : PySem.W.subIn K (.ref C_NoLine) (.type "TypeError") = some false)
    (su_NoLine_KeyError : PySem.W.subIn K (.ref C_NoLine) (.type "KeyError") = some false)
    (su_NoLine_IndexError : PySem.W.subIn K (.ref C_NoLine) (.type "IndexError") = some false)
    (su_NoLine_RuntimeError : PySem.W.subIn K (.ref C_NoLine) (.type "RuntimeError") = some false)
    (su_NoLine_AttributeError : PySem.W.subIn K (.ref C_NoLine) (.type "AttributeError") = some false)
    (su_NoLine_Exception : PySem.W.subIn K (.ref C_NoLine) (.type "Exception") = some true)
    (sr_NoLine_BadLine : PySem.W.subIn K (.ref C_NoLine) (.ref C_BadLine) = some false)
    (sr_NoLine_CanNot : PySem.W.subIn K (.ref C_NoLine) (.ref C_CanNot) = some false)
    (sr_NoLine_NoBlock : PySem.W.subIn K (.ref C_NoLine) (.ref C_NoBlock) = some false)
    (sr_NoLine_NoBus : PySem.W.subIn K (.ref C_NoLine) (.ref C_NoBus) = some false)
    (sr_NoLine_NoItem : PySem.W.subIn K (.ref C_NoLine) (.ref C_NoItem) = some false)
    (sr_NoLine_NoLine : PySem.W.subIn K (.ref C_NoLine) (.ref C_NoLine) = some true)
    (sr_NoLine_NoPerson : PySem.W.subIn K (.ref C_NoLine) (.ref C_NoPerson) = some false)
    (sr_NoLine_NoRegister : PySem.W.subIn K (.ref C_NoLine) (.ref C_NoRegister) = some false)
    (sr_NoLine_NothingDone : PySem.W.subIn K (.ref C_NoLine) (.ref C_NothingDone) = some false)
    (sr_NoLine_TooMany : PySem.W.subIn K (.ref C_NoLine) (.ref C_TooMany) = some false)
    (sr_NoLine_Unfit : PySem.W.subIn K (.ref C_NoLine) (.ref C_Unfit) = some false)
    (su_NoPerson_LookupError : PySem.W.subIn K (.ref C_NoPerson) (.type "LookupError") = some true)
    (su_NoPerson_ValueError : PySem.W.subIn K (.ref C_NoPerson) (.type "ValueError") = some false)
    (su_NoPerson_TypeError : PySem.W.subIn K (.ref C_NoPerson) (.type "TypeError") = some false)
    (su_NoPerson_KeyError : PySem.W.subIn K (.ref C_NoPerson) (.type "KeyError") = some false)
    (su_NoPerson_IndexError : PySem.W.subIn K (.ref C_NoPerson) (.type "IndexError") = some false)
    (su_NoPerson_RuntimeError : PySem.W.subIn K (.ref C_NoPerson) (.type "RuntimeError") = some false)
    (su_NoPerson_AttributeError : PySem.W.subIn K (.ref C_NoPerson) (.type "AttributeError") = some false)
    (su_NoPerson_Exception : PySem.W.subIn K (.ref C_NoPerson) (.type "Exception") = some true)
    (sr_NoPerson_BadLine : PySem.W.subIn K (.ref C_NoPerson) (.ref C_BadLine) = some false)
    (sr_NoPerson_CanNot : PySem.W.subIn K (.ref C_NoPerson) (.ref C_CanNot) = some false)
    (sr_NoPerson_NoBlock : PySem.W.subIn K (.ref C_NoPerson) (.ref C_NoBlock) = some false)
    (sr_NoPerson_NoBus : PySem.W.subIn K (.ref C_NoPerson) (.ref C_NoBus) = some false)
    (sr_NoPerson_NoItem : PySem.W.subIn K (.ref C_NoPerson) (.ref C_NoItem) = some false)
    (sr_NoPerson_NoLine : PySem.W.subIn K (.ref C_NoPerson) (.ref C_NoLine) = some false)
    (sr_NoPerson_NoPerson : PySem.W.subIn K (.ref C_NoPerson) (.ref C_NoPerson) = some true)
    (sr_NoPerson_NoRegister : PySem.W.subIn K (.ref C_NoPerson) (.ref C_NoRegister) = some false)
    (sr_NoPerson_NothingDone : PySem.W.subIn K (.ref C_NoPerson) (.ref C_NothingDone) = some false)
    (sr_NoPerson_TooMany : PySem.W.subIn K (.ref C_NoPerson) (.ref C_TooMany) = some false)
    (sr_NoPerson_Unfit : PySem.W.subIn K (.ref C_NoPerson) (.ref C_Unfit) = some false)
    (su_NoRegister_LookupError : PySem.W.subIn K (.ref C_NoRegister) (.type "LookupError") = some true)
    (su_NoRegister_ValueError : PySem.W.subIn K (.ref C_NoRegister) (.type "ValueError") = some false)
    (su_NoRegister_TypeError : PySem.W.subIn K (.ref C_NoRegister) (.type "TypeError") = some false)
    (su_NoRegister_KeyError : PySem.W.subIn K (.ref C_NoRegister) (.type "KeyError") = some false)
    (su_NoRegister_IndexError : PySem.W.subIn K (.ref C_NoRegister) (.type "IndexError") = some false)
    (su_NoRegister_RuntimeError : PySem.W.subIn K (.ref C_NoRegister) (.type "RuntimeError") = some false)
    (su_NoRegister_AttributeError : PySem.W.subIn K (.ref C_NoRegister) (.type "AttributeError") = some false)
    (su_NoRegister_Exception : PySem.W.subIn K (.ref C_NoRegister) (.type "Exception") = some true)
    (sr_NoRegister_BadLine : PySem.W.subIn K (.ref C_NoRegister) (.ref C_BadLine) = some false)
    (sr_NoRegister_CanNot : PySem.W.subIn K (.ref C_NoRegister) (.ref C_CanNot) = some false)
    (sr_NoRegister_NoBlock : PySem.W.subIn K (.ref C_NoRegister) (.ref C_NoBlock) = some false)
    (sr_NoRegister_NoBus : PySem.W.subIn K (.ref C_NoRegister) (.ref C_NoBus) = some false)
    (sr_NoRegister_NoItem : PySem.W.subIn K (.ref C_NoRegister) (.ref C_NoItem) = some false)
    (sr_NoRegister_NoLine : PySem.W.subIn K (.ref C_NoRegister) (.ref C_NoLine) = some false)
    (sr_NoRegister_NoPerson : PySem.W.subIn K (.ref C_NoRegister) (.ref C_NoPerson) = some false)
    (sr_NoRegister_NoRegister : PySem.W.subIn K (.ref C_NoRegister) (.ref C_NoRegister) = some true)
    (sr_NoRegister_NothingDone : PySem.W.subIn K (.ref C_NoRegister) (.ref C_NothingDone) = some false)
    (sr_NoRegister_TooMany : PySem.W.subIn K (.ref C_NoRegister) (.ref C_TooMany) = some false)
    (sr_NoRegister_Unfit : PySem.W.subIn K (.ref C_NoRegister) (.ref C_Unfit) = some false)
    (su_NothingDone_LookupError : PySem.W.subIn K (.ref C_NothingDone) (.type "LookupError") = some true)
    (su_NothingDone_ValueError : PySem.W.subIn K (.ref C_NothingDone) (.type "ValueError") = some false)
    (su_NothingDone_TypeError : PySem.W.subIn K (.ref C_NothingDone) (.type "TypeError") = some false)
    (su_NothingDone_KeyError : PySem.W.subIn K (.ref C_NothingDone) (.type "KeyError") = some false)
    (su_NothingDone_IndexError : PySem.W.subIn K (.ref C_NothingDone) (.type "IndexError") = some false)
    (su_NothingDone_RuntimeError : PySem.W.subIn K (.ref C_NothingDone) (.type "RuntimeError") = some false)
    (su_NothingDone_AttributeError : PySem.W.subIn K (.ref C_NothingDone) (.type "AttributeError") = some false)
    (su_NothingDone_Exception : PySem.W.subIn K (.ref C_NothingDone) (.type "Exception") = some true)
    (sr_NothingDone_BadLine : PySem.W.subIn K (.ref C_NothingDone) (.ref C_BadLine) = some false)
    (sr_NothingDone_CanNot : PySem.W.subIn K (.ref C_NothingDone) (.ref C_CanNot) = some false)
    (sr_NothingDone_NoBlock : PySem.W.subIn K (.ref C_NothingDone) (.ref C_NoBlock) = some false)
    (sr_NothingDone_NoBus : PySem.W.subIn K (.ref C_NothingDone) (.ref C_NoBus) = some false)
    (sr_NothingDone_NoItem : PySem.W.subIn K (.ref C_NothingDone) (.ref C_NoItem) = some false)
    (sr_NothingDone_NoLine : PySem.W.subIn K (.ref C_NothingDone) (.ref C_NoLine) = some false)
    (sr_NothingDone_NoPerson : PySem.W.subIn K (.ref C_NothingDone) (.ref C_NoPerson) = some false)
    (sr_NothingDone_NoRegister : PySem.W.subIn K (.ref C_NothingDone) (.ref C_NoRegister) = some false)
    (sr_NothingDone_NothingDone : PySem.W.subIn K (.ref C_NothingDone) (.ref C_NothingDone) = some true)
    (sr_NothingDone_TooMany : PySem.W.subIn K (.ref C_NothingDone) (.ref C_TooMany) = some false)
    (sr_NothingDone_Unfit : PySem.W.subIn K (.ref C_NothingDone) (.ref C_Unfit) = some false)
    (su_TooMany_LookupError : PySem.W.subIn K (.ref C_TooMany) (.type "LookupError") = some false)
    (su_TooMany_ValueError : PySem.W.subIn K (.ref C_TooMany) (.type "ValueError") = some true)
    (su_TooMany_TypeError : PySem.W.subIn K (.ref C_TooMany) (.type "TypeError") = some false)
    (su_TooMany_KeyError : PySem.W.subIn K (.ref C_TooMany) (.type "KeyError") = some false)
    (su_TooMany_IndexError : PySem.W.subIn K (.ref C_TooMany) (.type "IndexError") = some false)
    (su_TooMany_RuntimeError : PySem.W.subIn K (.ref C_TooMany) (.type "RuntimeError") = some false)
    (su_TooMany_AttributeError : PySem.W.subIn K (.ref C_TooMany) (.type "AttributeError") = some false)
    (su_TooMany_Exception : PySem.W.subIn K (.ref C_TooMany) (.type "Exception") = some true)
    (sr_TooMany_BadLine : PySem.W.subIn K (.ref C_TooMany) (.ref C_BadLine) = some false)
    (sr_TooMany_CanNot : PySem.W.subIn K (.ref C_TooMany) (.ref C_CanNot) = some false)
    (sr_TooMany_NoBlock : PySem.W.subIn K (.ref C_TooMany) (.ref C_NoBlock) = some false)
    (sr_TooMany_NoBus : PySem.W.subIn K (.ref C_TooMany) (.ref C_NoBus) = some false)
    (sr_TooMany_NoItem : PySem.W.subIn K (.ref C_TooMany) (.ref C_NoItem) = some false)
    (sr_TooMany_NoLine : PySem.W.subIn K (.ref C_TooMany) (.ref C_NoLine) = some false)
    (sr_TooMany_NoPerson : PySem.W.subIn K (.ref C_TooMany) (.ref C_NoPerson) = some false)
    (sr_TooMany_NoRegister : PySem.W.subIn K (.ref C_TooMany) (.ref C_NoRegister) = some false)
    (sr_TooMany_NothingDone : PySem.W.subIn K (.ref C_TooMany) (.ref C_NothingDone) = some false)
    (sr_TooMany_TooMany : PySem.W.subIn K (.ref C_TooMany) (.ref C_TooMany) = some true)
    (sr_TooMany_Unfit : PySem.W.subIn K (.ref C_TooMany) (.ref C_Unfit) = some false)
    (su_Unfit_LookupError : PySem.W.subIn K (.ref C_Unfit) (.type "LookupError") = some false)
    (su_Unfit_ValueError : PySem.W.subIn K (.ref C_Unfit) (.type "ValueError") = some true)
    (su_Unfit_TypeError : PySem.W.subIn K (.ref C_Unfit) (.type "TypeError") = some false)
    (su_Unfit_KeyError : PySem.W.subIn K (.ref C_Unfit) (.type "KeyError") = some false)
    (su_Unfit_IndexError : PySem.W.subIn K (.ref C_Unfit) (.type "IndexError") = some false)
    (su_Unfit_RuntimeError : PySem.W.subIn K (.ref C_Unfit) (.type "RuntimeError") = some false)
    (su_Unfit_AttributeError : PySem.W.subIn K (.ref C_Unfit) (.type "AttributeError") = some false)
    (su_Unfit_Exception : PySem.W.subIn K (.ref C_Unfit) (.type "Exception") = some true)
    (sr_Unfit_BadLine : PySem.W.subIn K (.ref C_Unfit) (.ref C_BadLine) = some false)
    (sr_Unfit_CanNot : PySem.W.subIn K (.ref C_Unfit) (.ref C_CanNot) = some false)
    (sr_Unfit_NoBlock : PySem.W.subIn K (.ref C_Unfit) (.ref C_NoBlock) = some false)
    (sr_Unfit_NoBus : PySem.W.subIn K (.ref C_Unfit) (.ref C_NoBus) = some false)
    (sr_Unfit_NoItem : PySem.W.subIn K (.ref C_Unfit) (.ref C_NoItem) = some false)
    (sr_Unfit_NoLine : PySem.W.subIn K (.ref C_Unfit) (.ref C_NoLine) = some false)
    (sr_Unfit_NoPerson : PySem.W.subIn K (.ref C_Unfit) (.ref C_NoPerson) = some false)
    (sr_Unfit_NoRegister : PySem.W.subIn K (.ref C_Unfit) (.ref C_NoRegister) = some false)
    (sr_Unfit_NothingDone : PySem.W.subIn K (.ref C_Unfit) (.ref C_NothingDone) = some false)
    (sr_Unfit_TooMany : PySem.W.subIn K (.ref C_Unfit) (.ref C_TooMany) = some false)
    (sr_Unfit_Unfit : PySem.W.subIn K (.ref C_Unfit) (.ref C_Unfit) = some true) :
    ∃ fd : FuncData, (∀ (s : Shared) (v : Value), BindsTo s fd ⟨[v], []⟩ [("script", v)]) ∧ ∀ base : Heap, K.In base → base.Ns mainGlobals mg → FnOk l.prog w K mg base (L2.CX l.prog w) 19 fa fd ["script"] (spL K) := by
  have e := hfa.symm.trans (PySem.W.mg_of X G a_law)
  cases e
  have F__law_box := fun_mk (st := s__law_box) l__law_box c__law_box k__law_box
  have b__law_box := F__law_box.binds (ps := ["script", "k"]) fun _ _ _ _ _ _ us hl => match us, hl with | [_, _], _ => rfl
  have e__law_box := PySem.W.mg_of X G a__law_box
  have F__law_take := fun_mk (st := s__law_take) l__law_take c__law_take k__law_take
  have b__law_take := F__law_take.binds (ps := ["tin", "below_so"]) fun _ _ _ _ _ _ us hl => match us, hl with | [_, _], _ => rfl
  have e__law_take := PySem.W.mg_of X G a__law_take
  have F__law_cells := fun_mk (st := s__law_cells) l__law_cells c__law_cells k__law_cells
  have b__law_cells := F__law_cells.binds (ps := ["script", "most_so"]) fun _ _ _ _ _ _ us hl => match us, hl with | [_, _], _ => rfl
  have e__law_cells := PySem.W.mg_of X G a__law_cells
  have F__law_of := fun_mk (st := s__law_of) l__law_of c__law_of k__law_of
  have b__law_of := F__law_of.binds (ps := ["tin", "goods_so"]) fun _ _ _ _ _ _ us hl => match us, hl with | [_, _], _ => rfl
  have e__law_of := PySem.W.mg_of X G a__law_of
  have F__law_same := fun_mk (st := s__law_same) l__law_same c__law_same k__law_same
  have b__law_same := F__law_same.binds (ps := ["got", "due"]) fun _ _ _ _ _ _ us hl => match us, hl with | [_, _], _ => rfl
  have e__law_same := PySem.W.mg_of X G a__law_same
  have F__law_under := fun_mk (st := s__law_under) l__law_under c__law_under k__law_under
  have b__law_under := F__law_under.binds (ps := ["error_so"]) fun _ _ _ _ _ _ us hl => match us, hl with | [_], _ => rfl
  have e__law_under := PySem.W.mg_of X G a__law_under
  have F__law_which := fun_mk (st := s__law_which) l__law_which c__law_which k__law_which
  have b__law_which := F__law_which.binds (ps := ["error_so"]) fun _ _ _ _ _ _ us hl => match us, hl with | [_], _ => rfl
  have e__law_which := PySem.W.mg_of X G a__law_which
  have F__law_made_right := fun_mk (st := s__law_made_right) l__law_made_right c__law_made_right k__law_made_right
  have b__law_made_right := F__law_made_right.binds (ps := ["digit", "trail_so"]) fun _ _ _ _ _ _ us hl => match us, hl with | [_, _], _ => rfl
  have e__law_made_right := PySem.W.mg_of X G a__law_made_right
  have F__law_right := fun_mk (st := s__law_right) l__law_right c__law_right k__law_right
  have b__law_right := F__law_right.binds (ps := ["tin"]) fun _ _ _ _ _ _ us hl => match us, hl with | [_], _ => rfl
  have e__law_right := PySem.W.mg_of X G a__law_right
  have F_law := fun_mk (st := s_law) l_law c_law k_law
  have e_law := PySem.W.mg_of X G a_law
  have m_abs := PySem.W.mg_none_of X G z_abs
  have m_all := PySem.W.mg_none_of X G z_all
  have m_bool := PySem.W.mg_none_of X G z_bool
  have m_enumerate := PySem.W.mg_none_of X G z_enumerate
  have m_int := PySem.W.mg_none_of X G z_int
  have m_isinstance := PySem.W.mg_none_of X G z_isinstance
  have m_len := PySem.W.mg_none_of X G z_len
  have m_list := PySem.W.mg_none_of X G z_list
  have m_range := PySem.W.mg_none_of X G z_range
  have m_str := PySem.W.mg_none_of X G z_str
  have m_tuple := PySem.W.mg_none_of X G z_tuple
  have m_zip := PySem.W.mg_none_of X G z_zip
  have m_LookupError := PySem.W.mg_none_of X G z_LookupError
  have m_ValueError := PySem.W.mg_none_of X G z_ValueError
  have m_TypeError := PySem.W.mg_none_of X G z_TypeError
  have m_KeyError := PySem.W.mg_none_of X G z_KeyError
  have m_IndexError := PySem.W.mg_none_of X G z_IndexError
  have m_RuntimeError := PySem.W.mg_none_of X G z_RuntimeError
  have m_AttributeError := PySem.W.mg_none_of X G z_AttributeError
  have m_Exception := PySem.W.mg_none_of X G z_Exception
  have XG_BadLine := PySem.W.mg_of X G xg_BadLine
  have Xc_BadLine : ExcC K C_BadLine := ⟨xc1_BadLine, xc2_BadLine, xb_BadLine, xc3_BadLine, xc4_BadLine, xc5_BadLine, xc6_BadLine, xc7_BadLine⟩
  have T_BadLine : OexG K C_BadLine "ValueError" "ValueError.__new__" "ValueError.__init__" bmVE := ⟨PySem.F.excBase_ValueError, PySem.F.store_ValueError, yq_BadLine, yo_BadLine, xc3_BadLine, ysa_BadLine, xb_BadLine, xt_BadLine, xk_BadLine⟩
  have FI_BadLine := fun_mk (st := s_ini_BadLine) yl_BadLine yc_BadLine yk_BadLine
  have BI_BadLine := FI_BadLine.binds (ps := ["self", "number"]) fun _ _ _ _ _ _ us hl => match us, hl with | [_, _], _ => rfl
  have XF_BadLine : XfC K C_BadLine := ⟨xc1_BadLine, xc2_BadLine, xb_BadLine, xc3_BadLine⟩
  have XG_CanNot := PySem.W.mg_of X G xg_CanNot
  have Xc_CanNot : ExcC K C_CanNot := ⟨xc1_CanNot, xc2_CanNot, xb_CanNot, xc3_CanNot, xc4_CanNot, xc5_CanNot, xc6_CanNot, xc7_CanNot⟩
  have X0_CanNot : ExcT K mg "CanNot" C_CanNot "ValueError" "ValueError.__new__" "ValueError.__init__" bmVE := ⟨PySem.F.excBase_ValueError, xq_CanNot, XG_CanNot, xk_CanNot, xb_CanNot, xt_CanNot⟩
  have XG_NoBlock := PySem.W.mg_of X G xg_NoBlock
  have Xc_NoBlock : ExcC K C_NoBlock := ⟨xc1_NoBlock, xc2_NoBlock, xb_NoBlock, xc3_NoBlock, xc4_NoBlock, xc5_NoBlock, xc6_NoBlock, xc7_NoBlock⟩
  have T_NoBlock : OexG K C_NoBlock "LookupError" "LookupError.__new__" "LookupError.__init__" bmLE := ⟨PySem.F.excBase_LookupError, PySem.F.store_LookupError, yq_NoBlock, yo_NoBlock, xc3_NoBlock, ysa_NoBlock, xb_NoBlock, xt_NoBlock, xk_NoBlock⟩
  have FI_NoBlock := fun_mk (st := s_ini_NoBlock) yl_NoBlock yc_NoBlock yk_NoBlock
  have BI_NoBlock := FI_NoBlock.binds (ps := ["self", "number"]) fun _ _ _ _ _ _ us hl => match us, hl with | [_, _], _ => rfl
  have XF_NoBlock : XfC K C_NoBlock := ⟨xc1_NoBlock, xc2_NoBlock, xb_NoBlock, xc3_NoBlock⟩
  have XG_NoBus := PySem.W.mg_of X G xg_NoBus
  have Xc_NoBus : ExcC K C_NoBus := ⟨xc1_NoBus, xc2_NoBus, xb_NoBus, xc3_NoBus, xc4_NoBus, xc5_NoBus, xc6_NoBus, xc7_NoBus⟩
  have T_NoBus : OexG K C_NoBus "LookupError" "LookupError.__new__" "LookupError.__init__" bmLE := ⟨PySem.F.excBase_LookupError, PySem.F.store_LookupError, yq_NoBus, yo_NoBus, xc3_NoBus, ysa_NoBus, xb_NoBus, xt_NoBus, xk_NoBus⟩
  have FI_NoBus := fun_mk (st := s_ini_NoBus) yl_NoBus yc_NoBus yk_NoBus
  have BI_NoBus := FI_NoBus.binds (ps := ["self", "number"]) fun _ _ _ _ _ _ us hl => match us, hl with | [_, _], _ => rfl
  have XF_NoBus : XfC K C_NoBus := ⟨xc1_NoBus, xc2_NoBus, xb_NoBus, xc3_NoBus⟩
  have XG_NoItem := PySem.W.mg_of X G xg_NoItem
  have Xc_NoItem : ExcC K C_NoItem := ⟨xc1_NoItem, xc2_NoItem, xb_NoItem, xc3_NoItem, xc4_NoItem, xc5_NoItem, xc6_NoItem, xc7_NoItem⟩
  have T_NoItem : OexG K C_NoItem "LookupError" "LookupError.__new__" "LookupError.__init__" bmLE := ⟨PySem.F.excBase_LookupError, PySem.F.store_LookupError, yq_NoItem, yo_NoItem, xc3_NoItem, ysa_NoItem, xb_NoItem, xt_NoItem, xk_NoItem⟩
  have FI_NoItem := fun_mk (st := s_ini_NoItem) yl_NoItem yc_NoItem yk_NoItem
  have BI_NoItem := FI_NoItem.binds (ps := ["self", "path"]) fun _ _ _ _ _ _ us hl => match us, hl with | [_, _], _ => rfl
  have XF_NoItem : XfC K C_NoItem := ⟨xc1_NoItem, xc2_NoItem, xb_NoItem, xc3_NoItem⟩
  have XG_NoLine := PySem.W.mg_of X G xg_NoLine
  have Xc_NoLine : ExcC K C_NoLine := ⟨xc1_NoLine, xc2_NoLine, xb_NoLine, xc3_NoLine, xc4_NoLine, xc5_NoLine, xc6_NoLine, xc7_NoLine⟩
  have T_NoLine : OexG K C_NoLine "LookupError" "LookupError.__new__" "LookupError.__init__" bmLE := ⟨PySem.F.excBase_LookupError, PySem.F.store_LookupError, yq_NoLine, yo_NoLine, xc3_NoLine, ysa_NoLine, xb_NoLine, xt_NoLine, xk_NoLine⟩
  have FI_NoLine := fun_mk (st := s_ini_NoLine) yl_NoLine yc_NoLine yk_NoLine
  have BI_NoLine := FI_NoLine.binds (ps := ["self", "number"]) fun _ _ _ _ _ _ us hl => match us, hl with | [_, _], _ => rfl
  have XF_NoLine : XfC K C_NoLine := ⟨xc1_NoLine, xc2_NoLine, xb_NoLine, xc3_NoLine⟩
  have XG_NoPerson := PySem.W.mg_of X G xg_NoPerson
  have Xc_NoPerson : ExcC K C_NoPerson := ⟨xc1_NoPerson, xc2_NoPerson, xb_NoPerson, xc3_NoPerson, xc4_NoPerson, xc5_NoPerson, xc6_NoPerson, xc7_NoPerson⟩
  have T_NoPerson : OexG K C_NoPerson "LookupError" "LookupError.__new__" "LookupError.__init__" bmLE := ⟨PySem.F.excBase_LookupError, PySem.F.store_LookupError, yq_NoPerson, yo_NoPerson, xc3_NoPerson, ysa_NoPerson, xb_NoPerson, xt_NoPerson, xk_NoPerson⟩
  have FI_NoPerson := fun_mk (st := s_ini_NoPerson) yl_NoPerson yc_NoPerson yk_NoPerson
  have BI_NoPerson := FI_NoPerson.binds (ps := ["self", "number"]) fun _ _ _ _ _ _ us hl => match us, hl with | [_, _], _ => rfl
  have XF_NoPerson : XfC K C_NoPerson := ⟨xc1_NoPerson, xc2_NoPerson, xb_NoPerson, xc3_NoPerson⟩
  have XG_NoRegister := PySem.W.mg_of X G xg_NoRegister
  have Xc_NoRegister : ExcC K C_NoRegister := ⟨xc1_NoRegister, xc2_NoRegister, xb_NoRegister, xc3_NoRegister, xc4_NoRegister, xc5_NoRegister, xc6_NoRegister, xc7_NoRegister⟩
  have T_NoRegister : OexG K C_NoRegister "LookupError" "LookupError.__new__" "LookupError.__init__" bmLE := ⟨PySem.F.excBase_LookupError, PySem.F.store_LookupError, yq_NoRegister, yo_NoRegister, xc3_NoRegister, ysa_NoRegister, xb_NoRegister, xt_NoRegister, xk_NoRegister⟩
  have FI_NoRegister := fun_mk (st := s_ini_NoRegister) yl_NoRegister yc_NoRegister yk_NoRegister
  have BI_NoRegister := FI_NoRegister.binds (ps := ["self", "number"]) fun _ _ _ _ _ _ us hl => match us, hl with | [_, _], _ => rfl
  have XF_NoRegister : XfC K C_NoRegister := ⟨xc1_NoRegister, xc2_NoRegister, xb_NoRegister, xc3_NoRegister⟩
  have XG_NothingDone := PySem.W.mg_of X G xg_NothingDone
  have Xc_NothingDone : ExcC K C_NothingDone := ⟨xc1_NothingDone, xc2_NothingDone, xb_NothingDone, xc3_NothingDone, xc4_NothingDone, xc5_NothingDone, xc6_NothingDone, xc7_NothingDone⟩
  have X0_NothingDone : ExcT K mg "NothingDone" C_NothingDone "LookupError" "LookupError.__new__" "LookupError.__init__" bmLE := ⟨PySem.F.excBase_LookupError, xq_NothingDone, XG_NothingDone, xk_NothingDone, xb_NothingDone, xt_NothingDone⟩
  have XG_TooMany := PySem.W.mg_of X G xg_TooMany
  have Xc_TooMany : ExcC K C_TooMany := ⟨xc1_TooMany, xc2_TooMany, xb_TooMany, xc3_TooMany, xc4_TooMany, xc5_TooMany, xc6_TooMany, xc7_TooMany⟩
  have X0_TooMany : ExcT K mg "TooMany" C_TooMany "ValueError" "ValueError.__new__" "ValueError.__init__" bmVE := ⟨PySem.F.excBase_ValueError, xq_TooMany, XG_TooMany, xk_TooMany, xb_TooMany, xt_TooMany⟩
  have XG_Unfit := PySem.W.mg_of X G xg_Unfit
  have Xc_Unfit : ExcC K C_Unfit := ⟨xc1_Unfit, xc2_Unfit, xb_Unfit, xc3_Unfit, xc4_Unfit, xc5_Unfit, xc6_Unfit, xc7_Unfit⟩
  have X0_Unfit : ExcT K mg "Unfit" C_Unfit "ValueError" "ValueError.__new__" "ValueError.__init__" bmVE := ⟨PySem.F.excBase_ValueError, xq_Unfit, XG_Unfit, xk_Unfit, xb_Unfit, xt_Unfit⟩
  have hEs : ∀ (k : Nat) (C : Addr), ([C_BadLine, C_CanNot, C_NoBlock, C_NoBus, C_NoItem, C_NoLine, C_NoPerson, C_NoRegister, C_NothingDone, C_TooMany, C_Unfit] : List Addr)[k]? = some C → ExcC K C := fun k C h => match k, h with
    | 0, h => by cases h; exact Xc_BadLine
    | 1, h => by cases h; exact Xc_CanNot
    | 2, h => by cases h; exact Xc_NoBlock
    | 3, h => by cases h; exact Xc_NoBus
    | 4, h => by cases h; exact Xc_NoItem
    | 5, h => by cases h; exact Xc_NoLine
    | 6, h => by cases h; exact Xc_NoPerson
    | 7, h => by cases h; exact Xc_NoRegister
    | 8, h => by cases h; exact Xc_NothingDone
    | 9, h => by cases h; exact Xc_TooMany
    | 10, h => by cases h; exact Xc_Unfit
    | n + 11, h => by simp at h
  have KU_BadLine : Kits K C_BadLine tsU (blU 0) := ⟨kit_exc (by decide +kernel) su_BadLine_LookupError, kit_exc (by decide +kernel) su_BadLine_ValueError, kit_exc (by decide +kernel) su_BadLine_TypeError, kit_exc (by decide +kernel) su_BadLine_KeyError, kit_exc (by decide +kernel) su_BadLine_IndexError, kit_exc (by decide +kernel) su_BadLine_RuntimeError, kit_exc (by decide +kernel) su_BadLine_AttributeError, kit_exc (by decide +kernel) su_BadLine_Exception, trivial⟩
  have KW_BadLine : Kits K C_BadLine [.ref C_BadLine, .ref C_CanNot, .ref C_NoBlock, .ref C_NoBus, .ref C_NoItem, .ref C_NoLine, .ref C_NoPerson, .ref C_NoRegister, .ref C_NothingDone, .ref C_TooMany, .ref C_Unfit] (blW 0) := ⟨kit_ref xc3_BadLine xt_BadLine sr_BadLine_BadLine sr_BadLine_BadLine, kit_ref xc3_CanNot xt_CanNot sr_CanNot_CanNot sr_BadLine_CanNot, kit_ref xc3_NoBlock xt_NoBlock sr_NoBlock_NoBlock sr_BadLine_NoBlock, kit_ref xc3_NoBus xt_NoBus sr_NoBus_NoBus sr_BadLine_NoBus, kit_ref xc3_NoItem xt_NoItem sr_NoItem_NoItem sr_BadLine_NoItem, kit_ref xc3_NoLine xt_NoLine sr_NoLine_NoLine sr_BadLine_NoLine, kit_ref xc3_NoPerson xt_NoPerson sr_NoPerson_NoPerson sr_BadLine_NoPerson, kit_ref xc3_NoRegister xt_NoRegister sr_NoRegister_NoRegister sr_BadLine_NoRegister, kit_ref xc3_NothingDone xt_NothingDone sr_NothingDone_NothingDone sr_BadLine_NothingDone, kit_ref xc3_TooMany xt_TooMany sr_TooMany_TooMany sr_BadLine_TooMany, kit_ref xc3_Unfit xt_Unfit sr_Unfit_Unfit sr_BadLine_Unfit, trivial⟩
  have KU_CanNot : Kits K C_CanNot tsU (blU 1) := ⟨kit_exc (by decide +kernel) su_CanNot_LookupError, kit_exc (by decide +kernel) su_CanNot_ValueError, kit_exc (by decide +kernel) su_CanNot_TypeError, kit_exc (by decide +kernel) su_CanNot_KeyError, kit_exc (by decide +kernel) su_CanNot_IndexError, kit_exc (by decide +kernel) su_CanNot_RuntimeError, kit_exc (by decide +kernel) su_CanNot_AttributeError, kit_exc (by decide +kernel) su_CanNot_Exception, trivial⟩
  have KW_CanNot : Kits K C_CanNot [.ref C_BadLine, .ref C_CanNot, .ref C_NoBlock, .ref C_NoBus, .ref C_NoItem, .ref C_NoLine, .ref C_NoPerson, .ref C_NoRegister, .ref C_NothingDone, .ref C_TooMany, .ref C_Unfit] (blW 1) := ⟨kit_ref xc3_BadLine xt_BadLine sr_BadLine_BadLine sr_CanNot_BadLine, kit_ref xc3_CanNot xt_CanNot sr_CanNot_CanNot sr_CanNot_CanNot, kit_ref xc3_NoBlock xt_NoBlock sr_NoBlock_NoBlock sr_CanNot_NoBlock, kit_ref xc3_NoBus xt_NoBus sr_NoBus_NoBus sr_CanNot_NoBus, kit_ref xc3_NoItem xt_NoItem sr_NoItem_NoItem sr_CanNot_NoItem, kit_ref xc3_NoLine xt_NoLine sr_NoLine_NoLine sr_CanNot_NoLine, kit_ref xc3_NoPerson xt_NoPerson sr_NoPerson_NoPerson sr_CanNot_NoPerson, kit_ref xc3_NoRegister xt_NoRegister sr_NoRegister_NoRegister sr_CanNot_NoRegister, kit_ref xc3_NothingDone xt_NothingDone sr_NothingDone_NothingDone sr_CanNot_NothingDone, kit_ref xc3_TooMany xt_TooMany sr_TooMany_TooMany sr_CanNot_TooMany, kit_ref xc3_Unfit xt_Unfit sr_Unfit_Unfit sr_CanNot_Unfit, trivial⟩
  have KU_NoBlock : Kits K C_NoBlock tsU (blU 2) := ⟨kit_exc (by decide +kernel) su_NoBlock_LookupError, kit_exc (by decide +kernel) su_NoBlock_ValueError, kit_exc (by decide +kernel) su_NoBlock_TypeError, kit_exc (by decide +kernel) su_NoBlock_KeyError, kit_exc (by decide +kernel) su_NoBlock_IndexError, kit_exc (by decide +kernel) su_NoBlock_RuntimeError, kit_exc (by decide +kernel) su_NoBlock_AttributeError, kit_exc (by decide +kernel) su_NoBlock_Exception, trivial⟩
  have KW_NoBlock : Kits K C_NoBlock [.ref C_BadLine, .ref C_CanNot, .ref C_NoBlock, .ref C_NoBus, .ref C_NoItem, .ref C_NoLine, .ref C_NoPerson, .ref C_NoRegister, .ref C_NothingDone, .ref C_TooMany, .ref C_Unfit] (blW 2) := ⟨kit_ref xc3_BadLine xt_BadLine sr_BadLine_BadLine sr_NoBlock_BadLine, kit_ref xc3_CanNot xt_CanNot sr_CanNot_CanNot sr_NoBlock_CanNot, kit_ref xc3_NoBlock xt_NoBlock sr_NoBlock_NoBlock sr_NoBlock_NoBlock, kit_ref xc3_NoBus xt_NoBus sr_NoBus_NoBus sr_NoBlock_NoBus, kit_ref xc3_NoItem xt_NoItem sr_NoItem_NoItem sr_NoBlock_NoItem, kit_ref xc3_NoLine xt_NoLine sr_NoLine_NoLine sr_NoBlock_NoLine, kit_ref xc3_NoPerson xt_NoPerson sr_NoPerson_NoPerson sr_NoBlock_NoPerson, kit_ref xc3_NoRegister xt_NoRegister sr_NoRegister_NoRegister sr_NoBlock_NoRegister, kit_ref xc3_NothingDone xt_NothingDone sr_NothingDone_NothingDone sr_NoBlock_NothingDone, kit_ref xc3_TooMany xt_TooMany sr_TooMany_TooMany sr_NoBlock_TooMany, kit_ref xc3_Unfit xt_Unfit sr_Unfit_Unfit sr_NoBlock_Unfit, trivial⟩
  have KU_NoBus : Kits K C_NoBus tsU (blU 3) := ⟨kit_exc (by decide +kernel) su_NoBus_LookupError, kit_exc (by decide +kernel) su_NoBus_ValueError, kit_exc (by decide +kernel) su_NoBus_TypeError, kit_exc (by decide +kernel) su_NoBus_KeyError, kit_exc (by decide +kernel) su_NoBus_IndexError, kit_exc (by decide +kernel) su_NoBus_RuntimeError, kit_exc (by decide +kernel) su_NoBus_AttributeError, kit_exc (by decide +kernel) su_NoBus_Exception, trivial⟩
  have KW_NoBus : Kits K C_NoBus [.ref C_BadLine, .ref C_CanNot, .ref C_NoBlock, .ref C_NoBus, .ref C_NoItem, .ref C_NoLine, .ref C_NoPerson, .ref C_NoRegister, .ref C_NothingDone, .ref C_TooMany, .ref C_Unfit] (blW 3) := ⟨kit_ref xc3_BadLine xt_BadLine sr_BadLine_BadLine sr_NoBus_BadLine, kit_ref xc3_CanNot xt_CanNot sr_CanNot_CanNot sr_NoBus_CanNot, kit_ref xc3_NoBlock xt_NoBlock sr_NoBlock_NoBlock sr_NoBus_NoBlock, kit_ref xc3_NoBus xt_NoBus sr_NoBus_NoBus sr_NoBus_NoBus, kit_ref xc3_NoItem xt_NoItem sr_NoItem_NoItem sr_NoBus_NoItem, kit_ref xc3_NoLine xt_NoLine sr_NoLine_NoLine sr_NoBus_NoLine, kit_ref xc3_NoPerson xt_NoPerson sr_NoPerson_NoPerson sr_NoBus_NoPerson, kit_ref xc3_NoRegister xt_NoRegister sr_NoRegister_NoRegister sr_NoBus_NoRegister, kit_ref xc3_NothingDone xt_NothingDone sr_NothingDone_NothingDone sr_NoBus_NothingDone, kit_ref xc3_TooMany xt_TooMany sr_TooMany_TooMany sr_NoBus_TooMany, kit_ref xc3_Unfit xt_Unfit sr_Unfit_Unfit sr_NoBus_Unfit, trivial⟩
  have KU_NoItem : Kits K C_NoItem tsU (blU 4) := ⟨kit_exc (by decide +kernel) su_NoItem_LookupError, kit_exc (by decide +kernel) su_NoItem_ValueError, kit_exc (by decide +kernel) su_NoItem_TypeError, kit_exc (by decide +kernel) su_NoItem_KeyError, kit_exc (by decide +kernel) su_NoItem_IndexError, kit_exc (by decide +kernel) su_NoItem_RuntimeError, kit_exc (by decide +kernel) su_NoItem_AttributeError, kit_exc (by decide +kernel) su_NoItem_Exception, trivial⟩
  have KW_NoItem : Kits K C_NoItem [.ref C_BadLine, .ref C_CanNot, .ref C_NoBlock, .ref C_NoBus, .ref C_NoItem, .ref C_NoLine, .ref C_NoPerson, .ref C_NoRegister, .ref C_NothingDone, .ref C_TooMany, .ref C_Unfit] (blW 4) := ⟨kit_ref xc3_BadLine xt_BadLine sr_BadLine_BadLine sr_NoItem_BadLine, kit_ref xc3_CanNot xt_CanNot sr_CanNot_CanNot sr_NoItem_CanNot, kit_ref xc3_NoBlock xt_NoBlock sr_NoBlock_NoBlock sr_NoItem_NoBlock, kit_ref xc3_NoBus xt_NoBus sr_NoBus_NoBus sr_NoItem_NoBus, kit_ref xc3_NoItem xt_NoItem sr_NoItem_NoItem sr_NoItem_NoItem, kit_ref xc3_NoLine xt_NoLine sr_NoLine_NoLine sr_NoItem_NoLine, kit_ref xc3_NoPerson xt_NoPerson sr_NoPerson_NoPerson sr_NoItem_NoPerson, kit_ref xc3_NoRegister xt_NoRegister sr_NoRegister_NoRegister sr_NoItem_NoRegister, kit_ref xc3_NothingDone xt_NothingDone sr_NothingDone_NothingDone sr_NoItem_NothingDone, kit_ref xc3_TooMany xt_TooMany sr_TooMany_TooMany sr_NoItem_TooMany, kit_ref xc3_Unfit xt_Unfit sr_Unfit_Unfit sr_NoItem_Unfit, trivial⟩
  have KU_NoLine : Kits K C_NoLine tsU (blU 5) := ⟨kit_exc (by decide +kernel) su_NoLine_LookupError, kit_exc (by decide +kernel) su_NoLine_ValueError, kit_exc (by decide +kernel) su_NoLine_TypeError, kit_exc (by decide +kernel) su_NoLine_KeyError, kit_exc (by decide +kernel) su_NoLine_IndexError, kit_exc (by decide +kernel) su_NoLine_RuntimeError, kit_exc (by decide +kernel) su_NoLine_AttributeError, kit_exc (by decide +kernel) su_NoLine_Exception, trivial⟩
  have KW_NoLine : Kits K C_NoLine [.ref C_BadLine, .ref C_CanNot, .ref C_NoBlock, .ref C_NoBus, .ref C_NoItem, .ref C_NoLine, .ref C_NoPerson, .ref C_NoRegister, .ref C_NothingDone, .ref C_TooMany, .ref C_Unfit] (blW 5) := ⟨kit_ref xc3_BadLine xt_BadLine sr_BadLine_BadLine sr_NoLine_BadLine, kit_ref xc3_CanNot xt_CanNot sr_CanNot_CanNot sr_NoLine_CanNot, kit_ref xc3_NoBlock xt_NoBlock sr_NoBlock_NoBlock sr_NoLine_NoBlock, kit_ref xc3_NoBus xt_NoBus sr_NoBus_NoBus sr_NoLine_NoBus, kit_ref xc3_NoItem xt_NoItem sr_NoItem_NoItem sr_NoLine_NoItem, kit_ref xc3_NoLine xt_NoLine sr_NoLine_NoLine sr_NoLine_NoLine, kit_ref xc3_NoPerson xt_NoPerson sr_NoPerson_NoPerson sr_NoLine_NoPerson, kit_ref xc3_NoRegister xt_NoRegister sr_NoRegister_NoRegister sr_NoLine_NoRegister, kit_ref xc3_NothingDone xt_NothingDone sr_NothingDone_NothingDone sr_NoLine_NothingDone, kit_ref xc3_TooMany xt_TooMany sr_TooMany_TooMany sr_NoLine_TooMany, kit_ref xc3_Unfit xt_Unfit sr_Unfit_Unfit sr_NoLine_Unfit, trivial⟩
  have KU_NoPerson : Kits K C_NoPerson tsU (blU 6) := ⟨kit_exc (by decide +kernel) su_NoPerson_LookupError, kit_exc (by decide +kernel) su_NoPerson_ValueError, kit_exc (by decide +kernel) su_NoPerson_TypeError, kit_exc (by decide +kernel) su_NoPerson_KeyError, kit_exc (by decide +kernel) su_NoPerson_IndexError, kit_exc (by decide +kernel) su_NoPerson_RuntimeError, kit_exc (by decide +kernel) su_NoPerson_AttributeError, kit_exc (by decide +kernel) su_NoPerson_Exception, trivial⟩
  have KW_NoPerson : Kits K C_NoPerson [.ref C_BadLine, .ref C_CanNot, .ref C_NoBlock, .ref C_NoBus, .ref C_NoItem, .ref C_NoLine, .ref C_NoPerson, .ref C_NoRegister, .ref C_NothingDone, .ref C_TooMany, .ref C_Unfit] (blW 6) := ⟨kit_ref xc3_BadLine xt_BadLine sr_BadLine_BadLine sr_NoPerson_BadLine, kit_ref xc3_CanNot xt_CanNot sr_CanNot_CanNot sr_NoPerson_CanNot, kit_ref xc3_NoBlock xt_NoBlock sr_NoBlock_NoBlock sr_NoPerson_NoBlock, kit_ref xc3_NoBus xt_NoBus sr_NoBus_NoBus sr_NoPerson_NoBus, kit_ref xc3_NoItem xt_NoItem sr_NoItem_NoItem sr_NoPerson_NoItem, kit_ref xc3_NoLine xt_NoLine sr_NoLine_NoLine sr_NoPerson_NoLine, kit_ref xc3_NoPerson xt_NoPerson sr_NoPerson_NoPerson sr_NoPerson_NoPerson, kit_ref xc3_NoRegister xt_NoRegister sr_NoRegister_NoRegister sr_NoPerson_NoRegister, kit_ref xc3_NothingDone xt_NothingDone sr_NothingDone_NothingDone sr_NoPerson_NothingDone, kit_ref xc3_TooMany xt_TooMany sr_TooMany_TooMany sr_NoPerson_TooMany, kit_ref xc3_Unfit xt_Unfit sr_Unfit_Unfit sr_NoPerson_Unfit, trivial⟩
  have KU_NoRegister : Kits K C_NoRegister tsU (blU 7) := ⟨kit_exc (by decide +kernel) su_NoRegister_LookupError, kit_exc (by decide +kernel) su_NoRegister_ValueError, kit_exc (by decide +kernel) su_NoRegister_TypeError, kit_exc (by decide +kernel) su_NoRegister_KeyError, kit_exc (by decide +kernel) su_NoRegister_IndexError, kit_exc (by decide +kernel) su_NoRegister_RuntimeError, kit_exc (by decide +kernel) su_NoRegister_AttributeError, kit_exc (by decide +kernel) su_NoRegister_Exception, trivial⟩
  have KW_NoRegister : Kits K C_NoRegister [.ref C_BadLine, .ref C_CanNot, .ref C_NoBlock, .ref C_NoBus, .ref C_NoItem, .ref C_NoLine, .ref C_NoPerson, .ref C_NoRegister, .ref C_NothingDone, .ref C_TooMany, .ref C_Unfit] (blW 7) := ⟨kit_ref xc3_BadLine xt_BadLine sr_BadLine_BadLine sr_NoRegister_BadLine, kit_ref xc3_CanNot xt_CanNot sr_CanNot_CanNot sr_NoRegister_CanNot, kit_ref xc3_NoBlock xt_NoBlock sr_NoBlock_NoBlock sr_NoRegister_NoBlock, kit_ref xc3_NoBus xt_NoBus sr_NoBus_NoBus sr_NoRegister_NoBus, kit_ref xc3_NoItem xt_NoItem sr_NoItem_NoItem sr_NoRegister_NoItem, kit_ref xc3_NoLine xt_NoLine sr_NoLine_NoLine sr_NoRegister_NoLine, kit_ref xc3_NoPerson xt_NoPerson sr_NoPerson_NoPerson sr_NoRegister_NoPerson, kit_ref xc3_NoRegister xt_NoRegister sr_NoRegister_NoRegister sr_NoRegister_NoRegister, kit_ref xc3_NothingDone xt_NothingDone sr_NothingDone_NothingDone sr_NoRegister_NothingDone, kit_ref xc3_TooMany xt_TooMany sr_TooMany_TooMany sr_NoRegister_TooMany, kit_ref xc3_Unfit xt_Unfit sr_Unfit_Unfit sr_NoRegister_Unfit, trivial⟩
  have KU_NothingDone : Kits K C_NothingDone tsU (blU 8) := ⟨kit_exc (by decide +kernel) su_NothingDone_LookupError, kit_exc (by decide +kernel) su_NothingDone_ValueError, kit_exc (by decide +kernel) su_NothingDone_TypeError, kit_exc (by decide +kernel) su_NothingDone_KeyError, kit_exc (by decide +kernel) su_NothingDone_IndexError, kit_exc (by decide +kernel) su_NothingDone_RuntimeError, kit_exc (by decide +kernel) su_NothingDone_AttributeError, kit_exc (by decide +kernel) su_NothingDone_Exception, trivial⟩
  have KW_NothingDone : Kits K C_NothingDone [.ref C_BadLine, .ref C_CanNot, .ref C_NoBlock, .ref C_NoBus, .ref C_NoItem, .ref C_NoLine, .ref C_NoPerson, .ref C_NoRegister, .ref C_NothingDone, .ref C_TooMany, .ref C_Unfit] (blW 8) := ⟨kit_ref xc3_BadLine xt_BadLine sr_BadLine_BadLine sr_NothingDone_BadLine, kit_ref xc3_CanNot xt_CanNot sr_CanNot_CanNot sr_NothingDone_CanNot, kit_ref xc3_NoBlock xt_NoBlock sr_NoBlock_NoBlock sr_NothingDone_NoBlock, kit_ref xc3_NoBus xt_NoBus sr_NoBus_NoBus sr_NothingDone_NoBus, kit_ref xc3_NoItem xt_NoItem sr_NoItem_NoItem sr_NothingDone_NoItem, kit_ref xc3_NoLine xt_NoLine sr_NoLine_NoLine sr_NothingDone_NoLine, kit_ref xc3_NoPerson xt_NoPerson sr_NoPerson_NoPerson sr_NothingDone_NoPerson, kit_ref xc3_NoRegister xt_NoRegister sr_NoRegister_NoRegister sr_NothingDone_NoRegister, kit_ref xc3_NothingDone xt_NothingDone sr_NothingDone_NothingDone sr_NothingDone_NothingDone, kit_ref xc3_TooMany xt_TooMany sr_TooMany_TooMany sr_NothingDone_TooMany, kit_ref xc3_Unfit xt_Unfit sr_Unfit_Unfit sr_NothingDone_Unfit, trivial⟩
  have KU_TooMany : Kits K C_TooMany tsU (blU 9) := ⟨kit_exc (by decide +kernel) su_TooMany_LookupError, kit_exc (by decide +kernel) su_TooMany_ValueError, kit_exc (by decide +kernel) su_TooMany_TypeError, kit_exc (by decide +kernel) su_TooMany_KeyError, kit_exc (by decide +kernel) su_TooMany_IndexError, kit_exc (by decide +kernel) su_TooMany_RuntimeError, kit_exc (by decide +kernel) su_TooMany_AttributeError, kit_exc (by decide +kernel) su_TooMany_Exception, trivial⟩
  have KW_TooMany : Kits K C_TooMany [.ref C_BadLine, .ref C_CanNot, .ref C_NoBlock, .ref C_NoBus, .ref C_NoItem, .ref C_NoLine, .ref C_NoPerson, .ref C_NoRegister, .ref C_NothingDone, .ref C_TooMany, .ref C_Unfit] (blW 9) := ⟨kit_ref xc3_BadLine xt_BadLine sr_BadLine_BadLine sr_TooMany_BadLine, kit_ref xc3_CanNot xt_CanNot sr_CanNot_CanNot sr_TooMany_CanNot, kit_ref xc3_NoBlock xt_NoBlock sr_NoBlock_NoBlock sr_TooMany_NoBlock, kit_ref xc3_NoBus xt_NoBus sr_NoBus_NoBus sr_TooMany_NoBus, kit_ref xc3_NoItem xt_NoItem sr_NoItem_NoItem sr_TooMany_NoItem, kit_ref xc3_NoLine xt_NoLine sr_NoLine_NoLine sr_TooMany_NoLine, kit_ref xc3_NoPerson xt_NoPerson sr_NoPerson_NoPerson sr_TooMany_NoPerson, kit_ref xc3_NoRegister xt_NoRegister sr_NoRegister_NoRegister sr_TooMany_NoRegister, kit_ref xc3_NothingDone xt_NothingDone sr_NothingDone_NothingDone sr_TooMany_NothingDone, kit_ref xc3_TooMany xt_TooMany sr_TooMany_TooMany sr_TooMany_TooMany, kit_ref xc3_Unfit xt_Unfit sr_Unfit_Unfit sr_TooMany_Unfit, trivial⟩
  have KU_Unfit : Kits K C_Unfit tsU (blU 10) := ⟨kit_exc (by decide +kernel) su_Unfit_LookupError, kit_exc (by decide +kernel) su_Unfit_ValueError, kit_exc (by decide +kernel) su_Unfit_TypeError, kit_exc (by decide +kernel) su_Unfit_KeyError, kit_exc (by decide +kernel) su_Unfit_IndexError, kit_exc (by decide +kernel) su_Unfit_RuntimeError, kit_exc (by decide +kernel) su_Unfit_AttributeError, kit_exc (by decide +kernel) su_Unfit_Exception, trivial⟩
  have KW_Unfit : Kits K C_Unfit [.ref C_BadLine, .ref C_CanNot, .ref C_NoBlock, .ref C_NoBus, .ref C_NoItem, .ref C_NoLine, .ref C_NoPerson, .ref C_NoRegister, .ref C_NothingDone, .ref C_TooMany, .ref C_Unfit] (blW 10) := ⟨kit_ref xc3_BadLine xt_BadLine sr_BadLine_BadLine sr_Unfit_BadLine, kit_ref xc3_CanNot xt_CanNot sr_CanNot_CanNot sr_Unfit_CanNot, kit_ref xc3_NoBlock xt_NoBlock sr_NoBlock_NoBlock sr_Unfit_NoBlock, kit_ref xc3_NoBus xt_NoBus sr_NoBus_NoBus sr_Unfit_NoBus, kit_ref xc3_NoItem xt_NoItem sr_NoItem_NoItem sr_Unfit_NoItem, kit_ref xc3_NoLine xt_NoLine sr_NoLine_NoLine sr_Unfit_NoLine, kit_ref xc3_NoPerson xt_NoPerson sr_NoPerson_NoPerson sr_Unfit_NoPerson, kit_ref xc3_NoRegister xt_NoRegister sr_NoRegister_NoRegister sr_Unfit_NoRegister, kit_ref xc3_NothingDone xt_NothingDone sr_NothingDone_NothingDone sr_Unfit_NothingDone, kit_ref xc3_TooMany xt_TooMany sr_TooMany_TooMany sr_Unfit_TooMany, kit_ref xc3_Unfit xt_Unfit sr_Unfit_Unfit sr_Unfit_Unfit, trivial⟩
  have hKs : ∀ (k : Nat) (C : Addr), ([C_BadLine, C_CanNot, C_NoBlock, C_NoBus, C_NoItem, C_NoLine, C_NoPerson, C_NoRegister, C_NothingDone, C_TooMany, C_Unfit] : List Addr)[k]? = some C → Kits K C tsU (blU k) ∧ Kits K C [.ref C_BadLine, .ref C_CanNot, .ref C_NoBlock, .ref C_NoBus, .ref C_NoItem, .ref C_NoLine, .ref C_NoPerson, .ref C_NoRegister, .ref C_NothingDone, .ref C_TooMany, .ref C_Unfit] (blW k) := fun k C h => match k, h with
    | 0, h => by cases h; exact ⟨KU_BadLine, KW_BadLine⟩
    | 1, h => by cases h; exact ⟨KU_CanNot, KW_CanNot⟩
    | 2, h => by cases h; exact ⟨KU_NoBlock, KW_NoBlock⟩
    | 3, h => by cases h; exact ⟨KU_NoBus, KW_NoBus⟩
    | 4, h => by cases h; exact ⟨KU_NoItem, KW_NoItem⟩
    | 5, h => by cases h; exact ⟨KU_NoLine, KW_NoLine⟩
    | 6, h => by cases h; exact ⟨KU_NoPerson, KW_NoPerson⟩
    | 7, h => by cases h; exact ⟨KU_NoRegister, KW_NoRegister⟩
    | 8, h => by cases h; exact ⟨KU_NothingDone, KW_NothingDone⟩
    | 9, h => by cases h; exact ⟨KU_TooMany, KW_TooMany⟩
    | 10, h => by cases h; exact ⟨KU_Unfit, KW_Unfit⟩
    | n + 11, h => by simp at h
  refine ⟨PySem.W.fnOf "law" "law" (defArgs s_law) (defBody s_law) (defScope s_law) .none kV_law dc_law pm_law an_law cd_law ct_law, fun s v => .of_eq rfl, fun base _ _ => ?_⟩
  have XI_BadLine : XIni l.prog w K mg base "BadLine" C_BadLine fI_BadLine _ "number" "number" "ValueError" "ValueError.__new__" "ValueError.__init__" bmVE := ⟨T_BadLine, XG_BadLine, yi_BadLine, yt_BadLine, ini_BadLine T_BadLine yn_BadLine FI_BadLine, BI_BadLine, fun a b => rfl, Xc_BadLine, XF_BadLine, yn_BadLine⟩
  have XI_NoBlock : XIni l.prog w K mg base "NoBlock" C_NoBlock fI_NoBlock _ "number" "number" "LookupError" "LookupError.__new__" "LookupError.__init__" bmLE := ⟨T_NoBlock, XG_NoBlock, yi_NoBlock, yt_NoBlock, ini_NoBlock T_NoBlock yn_NoBlock FI_NoBlock, BI_NoBlock, fun a b => rfl, Xc_NoBlock, XF_NoBlock, yn_NoBlock⟩
  have XI_NoBus : XIni l.prog w K mg base "NoBus" C_NoBus fI_NoBus _ "number" "number" "LookupError" "LookupError.__new__" "LookupError.__init__" bmLE := ⟨T_NoBus, XG_NoBus, yi_NoBus, yt_NoBus, ini_NoBus T_NoBus yn_NoBus FI_NoBus, BI_NoBus, fun a b => rfl, Xc_NoBus, XF_NoBus, yn_NoBus⟩
  have XI_NoItem : XIni l.prog w K mg base "NoItem" C_NoItem fI_NoItem _ "path" "path" "LookupError" "LookupError.__new__" "LookupError.__init__" bmLE := ⟨T_NoItem, XG_NoItem, yi_NoItem, yt_NoItem, ini_NoItem T_NoItem yn_NoItem FI_NoItem, BI_NoItem, fun a b => rfl, Xc_NoItem, XF_NoItem, yn_NoItem⟩
  have XI_NoLine : XIni l.prog w K mg base "NoLine" C_NoLine fI_NoLine _ "number" "number" "LookupError" "LookupError.__new__" "LookupError.__init__" bmLE := ⟨T_NoLine, XG_NoLine, yi_NoLine, yt_NoLine, ini_NoLine T_NoLine yn_NoLine FI_NoLine, BI_NoLine, fun a b => rfl, Xc_NoLine, XF_NoLine, yn_NoLine⟩
  have XI_NoPerson : XIni l.prog w K mg base "NoPerson" C_NoPerson fI_NoPerson _ "number" "number" "LookupError" "LookupError.__new__" "LookupError.__init__" bmLE := ⟨T_NoPerson, XG_NoPerson, yi_NoPerson, yt_NoPerson, ini_NoPerson T_NoPerson yn_NoPerson FI_NoPerson, BI_NoPerson, fun a b => rfl, Xc_NoPerson, XF_NoPerson, yn_NoPerson⟩
  have XI_NoRegister : XIni l.prog w K mg base "NoRegister" C_NoRegister fI_NoRegister _ "number" "number" "LookupError" "LookupError.__new__" "LookupError.__init__" bmLE := ⟨T_NoRegister, XG_NoRegister, yi_NoRegister, yt_NoRegister, ini_NoRegister T_NoRegister yn_NoRegister FI_NoRegister, BI_NoRegister, fun a b => rfl, Xc_NoRegister, XF_NoRegister, yn_NoRegister⟩
  have O__law_box := ok__law_box (P := l.prog) (w := w) (base := base) (mg := mg) F__law_box m_abs m_int m_len
  have O__law_take := ok__law_take (P := l.prog) (w := w) (base := base) (mg := mg) F__law_take m_int
  have O__law_cells := ok__law_cells (P := l.prog) (w := w) (base := base) (mg := mg) F__law_cells m_enumerate m_int m_list
  have O__law_of := ok__law_of (P := l.prog) (w := w) (base := base) (mg := mg) F__law_of O__law_take e__law_take k__law_take b__law_take m_len
  have O__law_same := ok__law_same (P := l.prog) (w := w) (base := base) (mg := mg) F__law_same e__law_same k__law_same b__law_same m_all m_bool m_int m_isinstance m_len m_list m_str m_tuple m_zip
  have O__law_under := ok_under (P := l.prog) (w := w) (base := base) F__law_under m_isinstance m_LookupError m_ValueError m_TypeError m_KeyError m_IndexError m_RuntimeError m_AttributeError m_Exception
  have O__law_which := ok_which (P := l.prog) (w := w) (base := base) F__law_which m_isinstance XG_BadLine XG_CanNot XG_NoBlock XG_NoBus XG_NoItem XG_NoLine XG_NoPerson XG_NoRegister XG_NothingDone XG_TooMany XG_Unfit
  have O__law_made_right := ok_made (P := l.prog) (w := w) (base := base) F__law_made_right XI_BadLine XI_NoBlock XI_NoBus XI_NoItem XI_NoLine XI_NoPerson XI_NoRegister X0_CanNot X0_NothingDone X0_TooMany X0_Unfit O__law_under e__law_under k__law_under b__law_under O__law_which e__law_which k__law_which b__law_which O__law_same e__law_same k__law_same b__law_same hEs hKs m_enumerate m_range
  have O__law_right := ok__law_right (P := l.prog) (w := w) (base := base) (mg := mg) F__law_right O__law_made_right e__law_made_right k__law_made_right b__law_made_right O__law_of e__law_of k__law_of b__law_of O__law_take e__law_take k__law_take b__law_take m_range m_tuple
  have O_law := ok_law (P := l.prog) (w := w) (base := base) (mg := mg) F_law O__law_box e__law_box k__law_box b__law_box O__law_cells e__law_cells k__law_cells b__law_cells O__law_made_right e__law_made_right k__law_made_right b__law_made_right O__law_right e__law_right k__law_right b__law_right m_all m_len m_range
  exact fn_weak O_law fun vs H Q E q => q mg
end K00
end

section
set_option linter.all false
set_option maxRecDepth 100000
open PySem PySem.W PyProof.Rows
set_option maxHeartbeats 0 in
theorem PySem.Challenge.cw_anydlooks_k00_errors_made_by_hand_holds : PySem.Challenge.rw_anydlooks_k00_errors_made_by_hand.Holds := by
  w_on; o_law; k_head; (case hw => w_witness2)
  k_fill
  refine L2.walk_of (l := PySem.Challenge.rw_anydlooks_k00_errors_made_by_hand) (n := 63) (k := 19) (x := "script") (CX := fun w => L2.CX PySem.Challenge.rw_anydlooks_k00_errors_made_by_hand.prog w) (sp := ?sp) rfl (by decide) rfl ⟨rfl, by decide, by decide⟩ (fun w h Y => PySem.W.kIn_of Y) ?F ?S ?C
  case F =>
    intro w mg fa h KX G hmg
    refine' K00.all_mk KX G hmg ?a__law_box ?l__law_box ?c__law_box ?k__law_box ?a__law_take ?l__law_take ?c__law_take ?k__law_take ?a__law_cells ?l__law_cells ?c__law_cells ?k__law_cells ?a__law_of ?l__law_of ?c__law_of ?k__law_of ?a__law_same ?l__law_same ?c__law_same ?k__law_same ?a__law_under ?l__law_under ?c__law_under ?k__law_under ?a__law_which ?l__law_which ?c__law_which ?k__law_which ?a__law_made_right ?l__law_made_right ?c__law_made_right ?k__law_made_right ?a__law_right ?l__law_right ?c__law_right ?k__law_right ?a_law ?l_law ?c_law ?k_law ?z_abs ?z_all ?z_bool ?z_enumerate ?z_int ?z_isinstance ?z_len ?z_list ?z_range ?z_str ?z_tuple ?z_zip ?z_LookupError ?z_ValueError ?z_TypeError ?z_KeyError ?z_IndexError ?z_RuntimeError ?z_AttributeError ?z_Exception ?xg_BadLine ?xk_BadLine ?xb_BadLine ?xt_BadLine ?xc1_BadLine ?xc2_BadLine ?xc3_BadLine ?xc4_BadLine ?xc5_BadLine ?xc6_BadLine ?xc7_BadLine ?yq_BadLine ?yo_BadLine ?ysa_BadLine ?yi_BadLine ?yt_BadLine ?yl_BadLine ?yc_BadLine ?yk_BadLine ?yn_BadLine ?xg_CanNot ?xk_CanNot ?xb_CanNot ?xt_CanNot ?xc1_CanNot ?xc2_CanNot ?xc3_CanNot ?xc4_CanNot ?xc5_CanNot ?xc6_CanNot ?xc7_CanNot ?xq_CanNot ?xg_NoBlock ?xk_NoBlock ?xb_NoBlock ?xt_NoBlock ?xc1_NoBlock ?xc2_NoBlock ?xc3_NoBlock ?xc4_NoBlock ?xc5_NoBlock ?xc6_NoBlock ?xc7_NoBlock ?yq_NoBlock ?yo_NoBlock ?ysa_NoBlock ?yi_NoBlock ?yt_NoBlock ?yl_NoBlock ?yc_NoBlock ?yk_NoBlock ?yn_NoBlock ?xg_NoBus ?xk_NoBus ?xb_NoBus ?xt_NoBus ?xc1_NoBus ?xc2_NoBus ?xc3_NoBus ?xc4_NoBus ?xc5_NoBus ?xc6_NoBus ?xc7_NoBus ?yq_NoBus ?yo_NoBus ?ysa_NoBus ?yi_NoBus ?yt_NoBus ?yl_NoBus ?yc_NoBus ?yk_NoBus ?yn_NoBus ?xg_NoItem ?xk_NoItem ?xb_NoItem ?xt_NoItem ?xc1_NoItem ?xc2_NoItem ?xc3_NoItem ?xc4_NoItem ?xc5_NoItem ?xc6_NoItem ?xc7_NoItem ?yq_NoItem ?yo_NoItem ?ysa_NoItem ?yi_NoItem ?yt_NoItem ?yl_NoItem ?yc_NoItem ?yk_NoItem ?yn_NoItem ?xg_NoLine ?xk_NoLine ?xb_NoLine ?xt_NoLine ?xc1_NoLine ?xc2_NoLine ?xc3_NoLine ?xc4_NoLine ?xc5_NoLine ?xc6_NoLine ?xc7_NoLine ?yq_NoLine ?yo_NoLine ?ysa_NoLine ?yi_NoLine ?yt_NoLine ?yl_NoLine ?yc_NoLine ?yk_NoLine ?yn_NoLine ?xg_NoPerson ?xk_NoPerson ?xb_NoPerson ?xt_NoPerson ?xc1_NoPerson ?xc2_NoPerson ?xc3_NoPerson ?xc4_NoPerson ?xc5_NoPerson ?xc6_NoPerson ?xc7_NoPerson ?yq_NoPerson ?yo_NoPerson ?ysa_NoPerson ?yi_NoPerson ?yt_NoPerson ?yl_NoPerson ?yc_NoPerson ?yk_NoPerson ?yn_NoPerson ?xg_NoRegister ?xk_NoRegister ?xb_NoRegister ?xt_NoRegister ?xc1_NoRegister ?xc2_NoRegister ?xc3_NoRegister ?xc4_NoRegister ?xc5_NoRegister ?xc6_NoRegister ?xc7_NoRegister ?yq_NoRegister ?yo_NoRegister ?ysa_NoRegister ?yi_NoRegister ?yt_NoRegister ?yl_NoRegister ?yc_NoRegister ?yk_NoRegister ?yn_NoRegister ?xg_NothingDone ?xk_NothingDone ?xb_NothingDone ?xt_NothingDone ?xc1_NothingDone ?xc2_NothingDone ?xc3_NothingDone ?xc4_NothingDone ?xc5_NothingDone ?xc6_NothingDone ?xc7_NothingDone ?xq_NothingDone ?xg_TooMany ?xk_TooMany ?xb_TooMany ?xt_TooMany ?xc1_TooMany ?xc2_TooMany ?xc3_TooMany ?xc4_TooMany ?xc5_TooMany ?xc6_TooMany ?xc7_TooMany ?xq_TooMany ?xg_Unfit ?xk_Unfit ?xb_Unfit ?xt_Unfit ?xc1_Unfit ?xc2_Unfit ?xc3_Unfit ?xc4_Unfit ?xc5_Unfit ?xc6_Unfit ?xc7_Unfit ?xq_Unfit ?su_BadLine_LookupError ?su_BadLine_ValueError ?su_BadLine_TypeError ?su_BadLine_KeyError ?su_BadLine_IndexError ?su_BadLine_RuntimeError ?su_BadLine_AttributeError ?su_BadLine_Exception ?sr_BadLine_BadLine ?sr_BadLine_CanNot ?sr_BadLine_NoBlock ?sr_BadLine_NoBus ?sr_BadLine_NoItem ?sr_BadLine_NoLine ?sr_BadLine_NoPerson ?sr_BadLine_NoRegister ?sr_BadLine_NothingDone ?sr_BadLine_TooMany ?sr_BadLine_Unfit ?su_CanNot_LookupError ?su_CanNot_ValueError ?su_CanNot_TypeError ?su_CanNot_KeyError ?su_CanNot_IndexError ?su_CanNot_RuntimeError ?su_CanNot_AttributeError ?su_CanNot_Exception ?sr_CanNot_BadLine ?sr_CanNot_CanNot ?sr_CanNot_NoBlock ?sr_CanNot_NoBus ?sr_CanNot_NoItem ?sr_CanNot_NoLine ?sr_CanNot_NoPerson ?sr_CanNot_NoRegister ?sr_CanNot_NothingDone ?sr_CanNot_TooMany ?sr_CanNot_Unfit ?su_NoBlock_LookupError ?su_NoBlock_ValueError ?su_NoBlock_TypeError ?su_NoBlock_KeyError ?su_NoBlock_IndexError ?su_NoBlock_RuntimeError ?su_NoBlock_AttributeError ?su_NoBlock_Exception ?sr_NoBlock_BadLine ?sr_NoBlock_CanNot ?sr_NoBlock_NoBlock ?sr_NoBlock_NoBus ?sr_NoBlock_NoItem ?sr_NoBlock_NoLine ?sr_NoBlock_NoPerson ?sr_NoBlock_NoRegister ?sr_NoBlock_NothingDone ?sr_NoBlock_TooMany ?sr_NoBlock_Unfit ?su_NoBus_LookupError ?su_NoBus_ValueError ?su_NoBus_TypeError ?su_NoBus_KeyError ?su_NoBus_IndexError ?su_NoBus_RuntimeError ?su_NoBus_AttributeError ?su_NoBus_Exception ?sr_NoBus_BadLine ?sr_NoBus_CanNot ?sr_NoBus_NoBlock ?sr_NoBus_NoBus ?sr_NoBus_NoItem ?sr_NoBus_NoLine ?sr_NoBus_NoPerson ?sr_NoBus_NoRegister ?sr_NoBus_NothingDone ?sr_NoBus_TooMany ?sr_NoBus_Unfit ?su_NoItem_LookupError ?su_NoItem_ValueError ?su_NoItem_TypeError ?su_NoItem_KeyError ?su_NoItem_IndexError ?su_NoItem_RuntimeError ?su_NoItem_AttributeError ?su_NoItem_Exception ?sr_NoItem_BadLine ?sr_NoItem_CanNot ?sr_NoItem_NoBlock ?sr_NoItem_NoBus ?sr_NoItem_NoItem ?sr_NoItem_NoLine ?sr_NoItem_NoPerson ?sr_NoItem_NoRegister ?sr_NoItem_NothingDone ?sr_NoItem_TooMany ?sr_NoItem_Unfit ?su_NoLine_LookupError ?su_NoLine_ValueError ?su_NoLine_TypeError ?su_NoLine_KeyError ?su_NoLine_IndexError ?su_NoLine_RuntimeError ?su_NoLine_AttributeError ?su_NoLine_Exception ?sr_NoLine_BadLine ?sr_NoLine_CanNot ?sr_NoLine_NoBlock ?sr_NoLine_NoBus ?sr_NoLine_NoItem ?sr_NoLine_NoLine ?sr_NoLine_NoPerson ?sr_NoLine_NoRegister ?sr_NoLine_NothingDone ?sr_NoLine_TooMany ?sr_NoLine_Unfit ?su_NoPerson_LookupError ?su_NoPerson_ValueError ?su_NoPerson_TypeError ?su_NoPerson_KeyError ?su_NoPerson_IndexError ?su_NoPerson_RuntimeError ?su_NoPerson_AttributeError ?su_NoPerson_Exception ?sr_NoPerson_BadLine ?sr_NoPerson_CanNot ?sr_NoPerson_NoBlock ?sr_NoPerson_NoBus ?sr_NoPerson_NoItem ?sr_NoPerson_NoLine ?sr_NoPerson_NoPerson ?sr_NoPerson_NoRegister ?sr_NoPerson_NothingDone ?sr_NoPerson_TooMany ?sr_NoPerson_Unfit ?su_NoRegister_LookupError ?su_NoRegister_ValueError ?su_NoRegister_TypeError ?su_NoRegister_KeyError ?su_NoRegister_IndexError ?su_NoRegister_RuntimeError ?su_NoRegister_AttributeError ?su_NoRegister_Exception ?sr_NoRegister_BadLine ?sr_NoRegister_CanNot ?sr_NoRegister_NoBlock ?sr_NoRegister_NoBus ?sr_NoRegister_NoItem ?sr_NoRegister_NoLine ?sr_NoRegister_NoPerson ?sr_NoRegister_NoRegister ?sr_NoRegister_NothingDone ?sr_NoRegister_TooMany ?sr_NoRegister_Unfit ?su_NothingDone_LookupError ?su_NothingDone_ValueError ?su_NothingDone_TypeError ?su_NothingDone_KeyError ?su_NothingDone_IndexError ?su_NothingDone_RuntimeError ?su_NothingDone_AttributeError ?su_NothingDone_Exception ?sr_NothingDone_BadLine ?sr_NothingDone_CanNot ?sr_NothingDone_NoBlock ?sr_NothingDone_NoBus ?sr_NothingDone_NoItem ?sr_NothingDone_NoLine ?sr_NothingDone_NoPerson ?sr_NothingDone_NoRegister ?sr_NothingDone_NothingDone ?sr_NothingDone_TooMany ?sr_NothingDone_Unfit ?su_TooMany_LookupError ?su_TooMany_ValueError ?su_TooMany_TypeError ?su_TooMany_KeyError ?su_TooMany_IndexError ?su_TooMany_RuntimeError ?su_TooMany_AttributeError ?su_TooMany_Exception ?sr_TooMany_BadLine ?sr_TooMany_CanNot ?sr_TooMany_NoBlock ?sr_TooMany_NoBus ?sr_TooMany_NoItem ?sr_TooMany_NoLine ?sr_TooMany_NoPerson ?sr_TooMany_NoRegister ?sr_TooMany_NothingDone ?sr_TooMany_TooMany ?sr_TooMany_Unfit ?su_Unfit_LookupError ?su_Unfit_ValueError ?su_Unfit_TypeError ?su_Unfit_KeyError ?su_Unfit_IndexError ?su_Unfit_RuntimeError ?su_Unfit_AttributeError ?su_Unfit_Exception ?sr_Unfit_BadLine ?sr_Unfit_CanNot ?sr_Unfit_NoBlock ?sr_Unfit_NoBus ?sr_Unfit_NoItem ?sr_Unfit_NoLine ?sr_Unfit_NoPerson ?sr_Unfit_NoRegister ?sr_Unfit_NothingDone ?sr_Unfit_TooMany ?sr_Unfit_Unfit
    (case a__law_box => k_is)
    (case l__law_box => k_is)
    (case c__law_box => k_is)
    (case k__law_box => k_is)
    (case a__law_take => k_is)
    (case l__law_take => k_is)
    (case c__law_take => k_is)
    (case k__law_take => k_is)
    (case a__law_cells => k_is)
    (case l__law_cells => k_is)
    (case c__law_cells => k_is)
    (case k__law_cells => k_is)
    (case a__law_of => k_is)
    (case l__law_of => k_is)
    (case c__law_of => k_is)
    (case k__law_of => k_is)
    (case a__law_same => k_is)
    (case l__law_same => k_is)
    (case c__law_same => k_is)
    (case k__law_same => k_is)
    (case a__law_under => k_is)
    (case l__law_under => k_is)
    (case c__law_under => k_is)
    (case k__law_under => k_is)
    (case a__law_which => k_is)
    (case l__law_which => k_is)
    (case c__law_which => k_is)
    (case k__law_which => k_is)
    (case a__law_made_right => k_is)
    (case l__law_made_right => k_is)
    (case c__law_made_right => k_is)
    (case k__law_made_right => k_is)
    (case a__law_right => k_is)
    (case l__law_right => k_is)
    (case c__law_right => k_is)
    (case k__law_right => k_is)
    (case a_law => k_is)
    (case l_law => k_is)
    (case c_law => k_is)
    (case k_law => k_is)
    (case z_abs => k_is)
    (case z_all => k_is)
    (case z_bool => k_is)
    (case z_enumerate => k_is)
    (case z_int => k_is)
    (case z_isinstance => k_is)
    (case z_len => k_is)
    (case z_list => k_is)
    (case z_range => k_is)
    (case z_str => k_is)
    (case z_tuple => k_is)
    (case z_zip => k_is)
    (case z_LookupError => k_is)
    (case z_ValueError => k_is)
    (case z_TypeError => k_is)
    (case z_KeyError => k_is)
    (case z_IndexError => k_is)
    (case z_RuntimeError => k_is)
    (case z_AttributeError => k_is)
    (case z_Exception => k_is)
    (case xg_BadLine => k_is)
    (case xk_BadLine => k_is)
    (case xb_BadLine => k_is)
    (case xt_BadLine => k_is)
    (case xc1_BadLine => k_is)
    (case xc2_BadLine => k_is)
    (case xc3_BadLine => k_is)
    (case xc4_BadLine => k_is)
    (case xc5_BadLine => k_is)
    (case xc6_BadLine => k_is)
    (case xc7_BadLine => k_is)
    (case yq_BadLine => first | kx_is | k_is)
    (case yo_BadLine => first | kx_is | k_is)
    (case ysa_BadLine => k_is)
    (case yi_BadLine => k_is)
    (case yt_BadLine => k_is)
    (case yl_BadLine => k_is)
    (case yc_BadLine => k_is)
    (case yk_BadLine => k_is)
    (case yn_BadLine => k_is)
    (case xg_CanNot => k_is)
    (case xk_CanNot => k_is)
    (case xb_CanNot => k_is)
    (case xt_CanNot => k_is)
    (case xc1_CanNot => k_is)
    (case xc2_CanNot => k_is)
    (case xc3_CanNot => k_is)
    (case xc4_CanNot => k_is)
    (case xc5_CanNot => k_is)
    (case xc6_CanNot => k_is)
    (case xc7_CanNot => k_is)
    (case xq_CanNot => k_exc)
    (case xg_NoBlock => k_is)
    (case xk_NoBlock => k_is)
    (case xb_NoBlock => k_is)
    (case xt_NoBlock => k_is)
    (case xc1_NoBlock => k_is)
    (case xc2_NoBlock => k_is)
    (case xc3_NoBlock => k_is)
    (case xc4_NoBlock => k_is)
    (case xc5_NoBlock => k_is)
    (case xc6_NoBlock => k_is)
    (case xc7_NoBlock => k_is)
    (case yq_NoBlock => first | kx_is | k_is)
    (case yo_NoBlock => first | kx_is | k_is)
    (case ysa_NoBlock => k_is)
    (case yi_NoBlock => k_is)
    (case yt_NoBlock => k_is)
    (case yl_NoBlock => k_is)
    (case yc_NoBlock => k_is)
    (case yk_NoBlock => k_is)
    (case yn_NoBlock => k_is)
    (case xg_NoBus => k_is)
    (case xk_NoBus => k_is)
    (case xb_NoBus => k_is)
    (case xt_NoBus => k_is)
    (case xc1_NoBus => k_is)
    (case xc2_NoBus => k_is)
    (case xc3_NoBus => k_is)
    (case xc4_NoBus => k_is)
    (case xc5_NoBus => k_is)
    (case xc6_NoBus => k_is)
    (case xc7_NoBus => k_is)
    (case yq_NoBus => first | kx_is | k_is)
    (case yo_NoBus => first | kx_is | k_is)
    (case ysa_NoBus => k_is)
    (case yi_NoBus => k_is)
    (case yt_NoBus => k_is)
    (case yl_NoBus => k_is)
    (case yc_NoBus => k_is)
    (case yk_NoBus => k_is)
    (case yn_NoBus => k_is)
    (case xg_NoItem => k_is)
    (case xk_NoItem => k_is)
    (case xb_NoItem => k_is)
    (case xt_NoItem => k_is)
    (case xc1_NoItem => k_is)
    (case xc2_NoItem => k_is)
    (case xc3_NoItem => k_is)
    (case xc4_NoItem => k_is)
    (case xc5_NoItem => k_is)
    (case xc6_NoItem => k_is)
    (case xc7_NoItem => k_is)
    (case yq_NoItem => first | kx_is | k_is)
    (case yo_NoItem => first | kx_is | k_is)
    (case ysa_NoItem => k_is)
    (case yi_NoItem => k_is)
    (case yt_NoItem => k_is)
    (case yl_NoItem => k_is)
    (case yc_NoItem => k_is)
    (case yk_NoItem => k_is)
    (case yn_NoItem => k_is)
    (case xg_NoLine => k_is)
    (case xk_NoLine => k_is)
    (case xb_NoLine => k_is)
    (case xt_NoLine => k_is)
    (case xc1_NoLine => k_is)
    (case xc2_NoLine => k_is)
    (case xc3_NoLine => k_is)
    (case xc4_NoLine => k_is)
    (case xc5_NoLine => k_is)
    (case xc6_NoLine => k_is)
    (case xc7_NoLine => k_is)
    (case yq_NoLine => first | kx_is | k_is)
    (case yo_NoLine => first | kx_is | k_is)
    (case ysa_NoLine => k_is)
    (case yi_NoLine => k_is)
    (case yt_NoLine => k_is)
    (case yl_NoLine => k_is)
    (case yc_NoLine => k_is)
    (case yk_NoLine => k_is)
    (case yn_NoLine => k_is)
    (case xg_NoPerson => k_is)
    (case xk_NoPerson => k_is)
    (case xb_NoPerson => k_is)
    (case xt_NoPerson => k_is)
    (case xc1_NoPerson => k_is)
    (case xc2_NoPerson => k_is)
    (case xc3_NoPerson => k_is)
    (case xc4_NoPerson => k_is)
    (case xc5_NoPerson => k_is)
    (case xc6_NoPerson => k_is)
    (case xc7_NoPerson => k_is)
    (case yq_NoPerson => first | kx_is | k_is)
    (case yo_NoPerson => first | kx_is | k_is)
    (case ysa_NoPerson => k_is)
    (case yi_NoPerson => k_is)
    (case yt_NoPerson => k_is)
    (case yl_NoPerson => k_is)
    (case yc_NoPerson => k_is)
    (case yk_NoPerson => k_is)
    (case yn_NoPerson => k_is)
    (case xg_NoRegister => k_is)
    (case xk_NoRegister => k_is)
    (case xb_NoRegister => k_is)
    (case xt_NoRegister => k_is)
    (case xc1_NoRegister => k_is)
    (case xc2_NoRegister => k_is)
    (case xc3_NoRegister => k_is)
    (case xc4_NoRegister => k_is)
    (case xc5_NoRegister => k_is)
    (case xc6_NoRegister => k_is)
    (case xc7_NoRegister => k_is)
    (case yq_NoRegister => first | kx_is | k_is)
    (case yo_NoRegister => first | kx_is | k_is)
    (case ysa_NoRegister => k_is)
    (case yi_NoRegister => k_is)
    (case yt_NoRegister => k_is)
    (case yl_NoRegister => k_is)
    (case yc_NoRegister => k_is)
    (case yk_NoRegister => k_is)
    (case yn_NoRegister => k_is)
    (case xg_NothingDone => k_is)
    (case xk_NothingDone => k_is)
    (case xb_NothingDone => k_is)
    (case xt_NothingDone => k_is)
    (case xc1_NothingDone => k_is)
    (case xc2_NothingDone => k_is)
    (case xc3_NothingDone => k_is)
    (case xc4_NothingDone => k_is)
    (case xc5_NothingDone => k_is)
    (case xc6_NothingDone => k_is)
    (case xc7_NothingDone => k_is)
    (case xq_NothingDone => k_exc)
    (case xg_TooMany => k_is)
    (case xk_TooMany => k_is)
    (case xb_TooMany => k_is)
    (case xt_TooMany => k_is)
    (case xc1_TooMany => k_is)
    (case xc2_TooMany => k_is)
    (case xc3_TooMany => k_is)
    (case xc4_TooMany => k_is)
    (case xc5_TooMany => k_is)
    (case xc6_TooMany => k_is)
    (case xc7_TooMany => k_is)
    (case xq_TooMany => k_exc)
    (case xg_Unfit => k_is)
    (case xk_Unfit => k_is)
    (case xb_Unfit => k_is)
    (case xt_Unfit => k_is)
    (case xc1_Unfit => k_is)
    (case xc2_Unfit => k_is)
    (case xc3_Unfit => k_is)
    (case xc4_Unfit => k_is)
    (case xc5_Unfit => k_is)
    (case xc6_Unfit => k_is)
    (case xc7_Unfit => k_is)
    (case xq_Unfit => k_exc)
    (case su_BadLine_LookupError => k_is)
    (case su_BadLine_ValueError => k_is)
    (case su_BadLine_TypeError => k_is)
    (case su_BadLine_KeyError => k_is)
    (case su_BadLine_IndexError => k_is)
    (case su_BadLine_RuntimeError => k_is)
    (case su_BadLine_AttributeError => k_is)
    (case su_BadLine_Exception => k_is)
    (case sr_BadLine_BadLine => k_is)
    (case sr_BadLine_CanNot => k_is)
    (case sr_BadLine_NoBlock => k_is)
    (case sr_BadLine_NoBus => k_is)
    (case sr_BadLine_NoItem => k_is)
    (case sr_BadLine_NoLine => k_is)
    (case sr_BadLine_NoPerson => k_is)
    (case sr_BadLine_NoRegister => k_is)
    (case sr_BadLine_NothingDone => k_is)
    (case sr_BadLine_TooMany => k_is)
    (case sr_BadLine_Unfit => k_is)
    (case su_CanNot_LookupError => k_is)
    (case su_CanNot_ValueError => k_is)
    (case su_CanNot_TypeError => k_is)
    (case su_CanNot_KeyError => k_is)
    (case su_CanNot_IndexError => k_is)
    (case su_CanNot_RuntimeError => k_is)
    (case su_CanNot_AttributeError => k_is)
    (case su_CanNot_Exception => k_is)
    (case sr_CanNot_BadLine => k_is)
    (case sr_CanNot_CanNot => k_is)
    (case sr_CanNot_NoBlock => k_is)
    (case sr_CanNot_NoBus => k_is)
    (case sr_CanNot_NoItem => k_is)
    (case sr_CanNot_NoLine => k_is)
    (case sr_CanNot_NoPerson => k_is)
    (case sr_CanNot_NoRegister => k_is)
    (case sr_CanNot_NothingDone => k_is)
    (case sr_CanNot_TooMany => k_is)
    (case sr_CanNot_Unfit => k_is)
    (case su_NoBlock_LookupError => k_is)
    (case su_NoBlock_ValueError => k_is)
    (case su_NoBlock_TypeError => k_is)
    (case su_NoBlock_KeyError => k_is)
    (case su_NoBlock_IndexError => k_is)
    (case su_NoBlock_RuntimeError => k_is)
    (case su_NoBlock_AttributeError => k_is)
    (case su_NoBlock_Exception => k_is)
    (case sr_NoBlock_BadLine => k_is)
    (case sr_NoBlock_CanNot => k_is)
    (case sr_NoBlock_NoBlock => k_is)
    (case sr_NoBlock_NoBus => k_is)
    (case sr_NoBlock_NoItem => k_is)
    (case sr_NoBlock_NoLine => k_is)
    (case sr_NoBlock_NoPerson => k_is)
    (case sr_NoBlock_NoRegister => k_is)
    (case sr_NoBlock_NothingDone => k_is)
    (case sr_NoBlock_TooMany => k_is)
    (case sr_NoBlock_Unfit => k_is)
    (case su_NoBus_LookupError => k_is)
    (case su_NoBus_ValueError => k_is)
    (case su_NoBus_TypeError => k_is)
    (case su_NoBus_KeyError => k_is)
    (case su_NoBus_IndexError => k_is)
    (case su_NoBus_RuntimeError => k_is)
    (case su_NoBus_AttributeError => k_is)
    (case su_NoBus_Exception => k_is)
    (case sr_NoBus_BadLine => k_is)
    (case sr_NoBus_CanNot => k_is)
    (case sr_NoBus_NoBlock => k_is)
    (case sr_NoBus_NoBus => k_is)
    (case sr_NoBus_NoItem => k_is)
    (case sr_NoBus_NoLine => k_is)
    (case sr_NoBus_NoPerson => k_is)
    (case sr_NoBus_NoRegister => k_is)
    (case sr_NoBus_NothingDone => k_is)
    (case sr_NoBus_TooMany => k_is)
    (case sr_NoBus_Unfit => k_is)
    (case su_NoItem_LookupError => k_is)
    (case su_NoItem_ValueError => k_is)
    (case su_NoItem_TypeError => k_is)
    (case su_NoItem_KeyError => k_is)
    (case su_NoItem_IndexError => k_is)
    (case su_NoItem_RuntimeError => k_is)
    (case su_NoItem_AttributeError => k_is)
    (case su_NoItem_Exception => k_is)
    (case sr_NoItem_BadLine => k_is)
    (case sr_NoItem_CanNot => k_is)
    (case sr_NoItem_NoBlock => k_is)
    (case sr_NoItem_NoBus => k_is)
    (case sr_NoItem_NoItem => k_is)
    (case sr_NoItem_NoLine => k_is)
    (case sr_NoItem_NoPerson => k_is)
    (case sr_NoItem_NoRegister => k_is)
    (case sr_NoItem_NothingDone => k_is)
    (case sr_NoItem_TooMany => k_is)
    (case sr_NoItem_Unfit => k_is)
    (case su_NoLine_LookupError => k_is)
    (case su_NoLine_ValueError => k_is)
    (case su_NoLine_TypeError => k_is)
    (case su_NoLine_KeyError => k_is)
    (case su_NoLine_IndexError => k_is)
    (case su_NoLine_RuntimeError => k_is)
    (case su_NoLine_AttributeError => k_is)
    (case su_NoLine_Exception => k_is)
    (case sr_NoLine_BadLine => k_is)
    (case sr_NoLine_CanNot => k_is)
    (case sr_NoLine_NoBlock => k_is)
    (case sr_NoLine_NoBus => k_is)
    (case sr_NoLine_NoItem => k_is)
    (case sr_NoLine_NoLine => k_is)
    (case sr_NoLine_NoPerson => k_is)
    (case sr_NoLine_NoRegister => k_is)
    (case sr_NoLine_NothingDone => k_is)
    (case sr_NoLine_TooMany => k_is)
    (case sr_NoLine_Unfit => k_is)
    (case su_NoPerson_LookupError => k_is)
    (case su_NoPerson_ValueError => k_is)
    (case su_NoPerson_TypeError => k_is)
    (case su_NoPerson_KeyError => k_is)
    (case su_NoPerson_IndexError => k_is)
    (case su_NoPerson_RuntimeError => k_is)
    (case su_NoPerson_AttributeError => k_is)
    (case su_NoPerson_Exception => k_is)
    (case sr_NoPerson_BadLine => k_is)
    (case sr_NoPerson_CanNot => k_is)
    (case sr_NoPerson_NoBlock => k_is)
    (case sr_NoPerson_NoBus => k_is)
    (case sr_NoPerson_NoItem => k_is)
    (case sr_NoPerson_NoLine => k_is)
    (case sr_NoPerson_NoPerson => k_is)
    (case sr_NoPerson_NoRegister => k_is)
    (case sr_NoPerson_NothingDone => k_is)
    (case sr_NoPerson_TooMany => k_is)
    (case sr_NoPerson_Unfit => k_is)
    (case su_NoRegister_LookupError => k_is)
    (case su_NoRegister_ValueError => k_is)
    (case su_NoRegister_TypeError => k_is)
    (case su_NoRegister_KeyError => k_is)
    (case su_NoRegister_IndexError => k_is)
    (case su_NoRegister_RuntimeError => k_is)
    (case su_NoRegister_AttributeError => k_is)
    (case su_NoRegister_Exception => k_is)
    (case sr_NoRegister_BadLine => k_is)
    (case sr_NoRegister_CanNot => k_is)
    (case sr_NoRegister_NoBlock => k_is)
    (case sr_NoRegister_NoBus => k_is)
    (case sr_NoRegister_NoItem => k_is)
    (case sr_NoRegister_NoLine => k_is)
    (case sr_NoRegister_NoPerson => k_is)
    (case sr_NoRegister_NoRegister => k_is)
    (case sr_NoRegister_NothingDone => k_is)
    (case sr_NoRegister_TooMany => k_is)
    (case sr_NoRegister_Unfit => k_is)
    (case su_NothingDone_LookupError => k_is)
    (case su_NothingDone_ValueError => k_is)
    (case su_NothingDone_TypeError => k_is)
    (case su_NothingDone_KeyError => k_is)
    (case su_NothingDone_IndexError => k_is)
    (case su_NothingDone_RuntimeError => k_is)
    (case su_NothingDone_AttributeError => k_is)
    (case su_NothingDone_Exception => k_is)
    (case sr_NothingDone_BadLine => k_is)
    (case sr_NothingDone_CanNot => k_is)
    (case sr_NothingDone_NoBlock => k_is)
    (case sr_NothingDone_NoBus => k_is)
    (case sr_NothingDone_NoItem => k_is)
    (case sr_NothingDone_NoLine => k_is)
    (case sr_NothingDone_NoPerson => k_is)
    (case sr_NothingDone_NoRegister => k_is)
    (case sr_NothingDone_NothingDone => k_is)
    (case sr_NothingDone_TooMany => k_is)
    (case sr_NothingDone_Unfit => k_is)
    (case su_TooMany_LookupError => k_is)
    (case su_TooMany_ValueError => k_is)
    (case su_TooMany_TypeError => k_is)
    (case su_TooMany_KeyError => k_is)
    (case su_TooMany_IndexError => k_is)
    (case su_TooMany_RuntimeError => k_is)
    (case su_TooMany_AttributeError => k_is)
    (case su_TooMany_Exception => k_is)
    (case sr_TooMany_BadLine => k_is)
    (case sr_TooMany_CanNot => k_is)
    (case sr_TooMany_NoBlock => k_is)
    (case sr_TooMany_NoBus => k_is)
    (case sr_TooMany_NoItem => k_is)
    (case sr_TooMany_NoLine => k_is)
    (case sr_TooMany_NoPerson => k_is)
    (case sr_TooMany_NoRegister => k_is)
    (case sr_TooMany_NothingDone => k_is)
    (case sr_TooMany_TooMany => k_is)
    (case sr_TooMany_Unfit => k_is)
    (case su_Unfit_LookupError => k_is)
    (case su_Unfit_ValueError => k_is)
    (case su_Unfit_TypeError => k_is)
    (case su_Unfit_KeyError => k_is)
    (case su_Unfit_IndexError => k_is)
    (case su_Unfit_RuntimeError => k_is)
    (case su_Unfit_AttributeError => k_is)
    (case su_Unfit_Exception => k_is)
    (case sr_Unfit_BadLine => k_is)
    (case sr_Unfit_CanNot => k_is)
    (case sr_Unfit_NoBlock => k_is)
    (case sr_Unfit_NoBus => k_is)
    (case sr_Unfit_NoItem => k_is)
    (case sr_Unfit_NoLine => k_is)
    (case sr_Unfit_NoPerson => k_is)
    (case sr_Unfit_NoRegister => k_is)
    (case sr_Unfit_NothingDone => k_is)
    (case sr_Unfit_TooMany => k_is)
    (case sr_Unfit_Unfit => k_is)
  case S => exact fun w H a ns hl _ hS => K00.law_start hS (K00.law_true ns hl)
  case C =>
    intro _ _ _ _ _ h
    obtain ⟨_, _, _, _, _, _, _, _, _, _, _, _, z⟩ := h
    exact z
end
