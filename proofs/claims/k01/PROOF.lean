import PyProof.Rows.All
import Wide.All
import OpenK.AllK
import Wide.FinOn
import HandS.ForMost
import HandS.Exc
import HandS.ExcOwn
import HandS.TryOnly
import HandS.WordsExc
import HandS.Walk
import HandS.IsInst
import HandS.ExcInit
import HandS.ExcIs
import HandS.ExcField
import KE.GoesNew
import KE.GoesEnum
import KE.GoesMore
import HandS.TupAny
import HandS.Conv
import HandS.TupMul
import HandS.Zip
import PyProof.EnumMake
import PyProof.Draws
import HandS.Flow
import HandS.Small
import HandS.Style
import KE.DataAny
import HandS.More
import HandS.Deep
import HandS.Dict
import KE.SortData
import KE.KDictSum
import KE.KDictCopyH
import HandS.SetFor
import HandS.Strs
import HandS.Star
import HandS.Sort
import HandS.Call
import HandS.SortKw
import KE.DataMinMax
import HandS.TupSets
import KE.KExcInit
import HandS.TryMany
import HandS.Text
import HandS.FStr
import HandS.RaiseMore
import HandS.Iter
import KE.LtData
import KE.KIntText
import PyProof.StrLawsTight
import PyProof.StrLawsChain
import PyProof.Rows.StrIntSpec
import PyProof.StrBlock2
import PyProof.Rows.StrOr
import HandS.NoneIn
import KE.GoesZip
import KE.KItemsList
import HandS.ListItems
import PyProof.Rows.Walk
import PyProof.TableCode
import KE.KExcLine
import PySem.Challenge.RW_anydlooks_k01_words_of_runs_and_sums
section
set_option Elab.async false
set_option linter.all false
set_option maxRecDepth 100000
namespace PD
open PySem PySem.Spec PyProof.Rows L2

/-- what a dict of one's own holds: keys that are ints or texts; keys that are tuples of such -/
inductive DiO where
  | k (kvs : List (Key × PyData))
  | t (kvs : List (List Key × PyData))
  /-- an exception of a class of one's own below the built-in class b, with its fields -/
  | x (b : String) (fs : List (Str × PyData))
inductive Cell where
  | un
  | fz (d : PyData)
  | ow (b : Bool) (ds : List PyData)
  | od (o : DiO)
/-- a cell with an object of its own -/
def Cell.Own : Cell → Prop
  | .ow _ _ => True
  | .od _ => True
  | _ => False
abbrev Sg := List Cell
inductive Ans (α : Type) where
  | ok (a : α)
  | ex (c : Str) (fs : List (Str × PyData))
abbrev M (α : Type) := Sg → Option (Ans α × Sg)
abbrev Am := Nat → Option Addr
/-- what a frame never touches (ph), and what its caller lent it (ba, by slot) -/
structure Fx where
  ph : Addr → Prop
  ba : Am
def Hid (ph : Fx) (am : Am) (b : Addr) : Prop := ph.ph b ∨ ∃ i, am i = some b
open Classical in
noncomputable def hid (ph : Fx) (am : Am) (H : Hp) : Hp := fun b => if Hid ph am b then none else H b
variable {K : PySem.W.Frag} {ph : Fx} {am am' am'' : Am} {H H' H'' H1 H2 : Hp} {a b p : Addr} {o : HO}

theorem hid_some : hid ph am H b = some o ↔ ¬ Hid ph am b ∧ H b = some o := by
  unfold hid
  by_cases h : Hid ph am b
  · simp [h]
  · simp [h]
theorem hid_sub : Same (hid ph am H) H := fun _ _ h => (hid_some.mp h).2
theorem hid_same (s : Same H H') : Same (hid ph am H) (hid ph am H') := fun b o h =>
  let ⟨h1, h2⟩ := hid_some.mp h
  hid_some.mpr ⟨h1, s b o h2⟩

mutual
/-- a value as data -/
inductive Dq (K : PySem.W.Frag) (H : Hp) : V → PyData → Prop
  | non : Dq K H .non .none
  | bl (b : Bool) : Dq K H (.bl b) (.bool b)
  | int (i : Int) : Dq K H (.int i) (.int i)
  | str (x : Str) : Dq K H (.str x) (.str x)
  | lst {a : Addr} {xs : List V} {ds : List PyData} : SqL K H a xs → DqAll K H xs ds → Dq K H (.ref a) (.list ds)
  | tup {a : Addr} {xs : List V} {ds : List PyData} : H a = some (.tup xs) → DqAll K H xs ds → Dq K H (.ref a) (.tuple ds)
inductive DqAll (K : PySem.W.Frag) (H : Hp) : List V → List PyData → Prop
  | nil : DqAll K H [] []
  | cons {v : V} {vs : List V} {d : PyData} {ds : List PyData} : Dq K H v d → DqAll K H vs ds → DqAll K H (v :: vs) (d :: ds)
end
theorem rd_mono (s : Same H H') {u : HO} (q : Rd H a u) : Rd H' a u := by
  rcases q with q | ⟨o, q⟩
  · exact .inl (s _ _ q)
  · exact .inr ⟨o, s _ _ q⟩
mutual
theorem Dq.dp : ∀ {v : V} {d : PyData}, Dq K H v d → L2.Dp K H v d
  | _, _, .non => .non
  | _, _, .bl b => .bl b
  | _, _, .int i => .int i
  | _, _, .str x => .str x
  | _, _, .lst q h => .lst q h.dp
  | _, _, .tup q h => .tup (.inl (.inl q)) h.dp
theorem DqAll.dp : ∀ {vs : List V} {ds : List PyData}, DqAll K H vs ds → L2.DpAll K H vs ds
  | _, _, .nil => .nil
  | _, _, .cons h t => .cons h.dp t.dp
end
mutual
theorem dp_mono (s : Same H H') : ∀ {v : V} {d : PyData}, Dq K H v d → Dq K H' v d
  | _, _, .non => .non
  | _, _, .bl b => .bl b
  | _, _, .int i => .int i
  | _, _, .str x => .str x
  | _, _, .lst q h => .lst (s.seq q) (dps_mono s h)
  | _, _, .tup q h => .tup (s _ _ q) (dps_mono s h)
theorem dps_mono (s : Same H H') : ∀ {vs : List V} {ds : List PyData}, DqAll K H vs ds → DqAll K H' vs ds
  | _, _, .nil => .nil
  | _, _, .cons h t => .cons (dp_mono s h) (dps_mono s t)
end
theorem seqT_mono (s : Same H H') {xs : List V} (q : SqT K H a xs) : SqT K H' a xs := by
  rcases q with (q | ⟨o, q⟩) | q
  · exact .inl (.inl (s _ _ q))
  · exact .inl (.inr ⟨o, s _ _ q⟩)
  · exact .inr q
theorem same_new (h : H p = none) : Same H (upd H p o) := fun b x e => by
  rw [upd_ne (ne_of_none e h)]
  exact e

/-- DqAll as lists -/
theorem DqAll.length : ∀ {vs : List V} {ds : List PyData}, DqAll K H vs ds → vs.length = ds.length
  | _, _, .nil => rfl
  | _, _, .cons _ t => by simp [DqAll.length t]
theorem DqAll.get : ∀ {vs : List V} {ds : List PyData} {i : Nat} {d : PyData}, DqAll K H vs ds → ds[i]? = some d → ∃ v, vs[i]? = some v ∧ Dq K H v d
  | _, _, _, _, .nil, e => by simp at e
  | _, _, 0, _, .cons h _, e => by simp at e; subst e; exact ⟨_, rfl, h⟩
  | _, _, i + 1, _, .cons _ t, e => by
    obtain ⟨v, e1, e2⟩ := DqAll.get (i := i) t (by simpa using e)
    exact ⟨v, by simpa using e1, e2⟩
theorem DqAll.append : ∀ {vs ws : List V} {ds es : List PyData}, DqAll K H vs ds → DqAll K H ws es → DqAll K H (vs ++ ws) (ds ++ es)
  | _, _, _, _, .nil, s => s
  | _, _, _, _, .cons h t, s => .cons h (DqAll.append t s)
theorem DqAll.take : ∀ {vs : List V} {ds : List PyData} (n : Nat), DqAll K H vs ds → DqAll K H (vs.take n) (ds.take n)
  | _, _, 0, _ => by simpa using .nil
  | _, _, _ + 1, .nil => .nil
  | _, _, n + 1, .cons h t => by simpa using DqAll.cons h (DqAll.take n t)
theorem DqAll.drop : ∀ {vs : List V} {ds : List PyData} (n : Nat), DqAll K H vs ds → DqAll K H (vs.drop n) (ds.drop n)
  | _, _, 0, h => by simpa using h
  | _, _, _ + 1, .nil => .nil
  | _, _, n + 1, .cons _ t => by simpa using DqAll.drop n t
theorem DqAll.set {v : V} {d : PyData} (h : Dq K H v d) : ∀ {vs : List V} {ds : List PyData} (n : Nat), DqAll K H vs ds → DqAll K H (vs.set n v) (ds.set n d)
  | _, _, _, .nil => .nil
  | _, _, 0, .cons _ t => .cons h t
  | _, _, n + 1, .cons q t => .cons q (DqAll.set h n t)
theorem DqAll.rev : ∀ {vs : List V} {ds : List PyData}, DqAll K H vs ds → DqAll K H vs.reverse ds.reverse
  | _, _, .nil => .nil
  | _, _, .cons h t => by simpa using DqAll.append (DqAll.rev t) (.cons h .nil)
theorem DqAll.rep {v : V} {d : PyData} (h : Dq K H v d) : ∀ n, DqAll K H (List.replicate n v) (List.replicate n d)
  | 0 => .nil
  | n + 1 => .cons h (DqAll.rep h n)

/-- a dict's heap object holds so much -/
def DOR (K : PySem.W.Frag) (a : Addr) (H : Hp) : HO → DiO → Prop
  | .dK vs, .k kvs => vs.map (·.1) = kvs.map (·.1) ∧ DqAll K H (vs.map (·.2)) (kvs.map (·.2))
  | .dT vs, .t kvs => vs.map (·.1) = kvs.map (·.1) ∧ DqAll K H (vs.map (·.2)) (kvs.map (·.2))
  | u, .x b fs => ∃ (C dx : Addr) (vs : List (Str × V)), u = exo a C (some dx) ∧ H dx = some (exd dx vs) ∧ vs.map (·.1) = fs.map (·.1) ∧ DqAll K H (vs.map (·.2)) (fs.map (·.2)) ∧ ExcC K C ∧ XfC K C ∧ (∀ f, f ∈ fs.map (·.1) → PySem.W.findIn K (.ref C) f = some none) ∧ PySem.W.kitOne K (.ref C) (.type b) = some true
  | _, _ => False
theorem dor_mono (s : Same H H') : ∀ {u : HO} {o : DiO}, DOR K a H u o → DOR K a H' u o := by
  intro u o h
  cases o with
  | x b fs =>
    have h : ∃ (C dx : Addr) (vs : List (Str × V)), u = exo a C (some dx) ∧ H dx = some (exd dx vs) ∧ vs.map (·.1) = fs.map (·.1) ∧ DqAll K H (vs.map (·.2)) (fs.map (·.2)) ∧ ExcC K C ∧ XfC K C ∧ (∀ f, f ∈ fs.map (·.1) → PySem.W.findIn K (.ref C) f = some none) ∧ PySem.W.kitOne K (.ref C) (.type b) = some true := by cases u <;> exact h
    obtain ⟨C, dx, vs, h1, h2, h3, h4, h5⟩ := h
    have g : ∃ (C dx : Addr) (vs : List (Str × V)), u = exo a C (some dx) ∧ H' dx = some (exd dx vs) ∧ vs.map (·.1) = fs.map (·.1) ∧ DqAll K H' (vs.map (·.2)) (fs.map (·.2)) ∧ ExcC K C ∧ XfC K C ∧ (∀ f, f ∈ fs.map (·.1) → PySem.W.findIn K (.ref C) f = some none) ∧ PySem.W.kitOne K (.ref C) (.type b) = some true := ⟨C, dx, vs, h1, s _ _ h2, h3, dps_mono s h4, h5⟩
    cases u <;> exact g
  | _ => cases u <;> first | exact h.elim | exact ⟨h.1, dps_mono s h.2⟩
structure Step (am : Am) (H : Hp) (am' : Am) (H' : Hp) : Prop where
  keep : ∀ b o, H b = some o → (∀ i, am i ≠ some b) → H' b = some o
  new : ∀ i a, am' i = some a → (∃ j, am j = some a) ∨ H a = none
  there : ∀ b o, H b = some o → ∃ o', H' b = some o'
theorem Step.refl : Step am H am H := ⟨fun _ _ h _ => h, fun i a h => .inl ⟨i, h⟩, fun _ o h => ⟨o, h⟩⟩
theorem Step.of (s : Same H H') : Step am H am H' := ⟨fun b o h _ => s b o h, fun i a h => .inl ⟨i, h⟩, fun b o h => ⟨o, s b o h⟩⟩
theorem Step.trans (x : Step am H am' H') (y : Step am' H' am'' H'') : Step am H am'' H'' where
  keep := fun b o h n => y.keep b o (x.keep b o h n) fun i e => by
    rcases x.new i b e with ⟨j, q⟩ | q
    · exact n j q
    · rw [q] at h; cases h
  new := fun i a h => by
    rcases y.new i a h with ⟨j, q⟩ | q
    · exact x.new j a q
    · cases e : H a with
      | none => exact .inr rfl
      | some o =>
        obtain ⟨o', e'⟩ := x.there a o e
        rw [q] at e'; cases e'
  there := fun b o h => let ⟨o', h'⟩ := x.there b o h; y.there b o' h'
theorem Step.hid (x : Step am H am' H') : Same (hid ph am H) (PD.hid ph am' H') := fun b o h => by
  obtain ⟨h1, h2⟩ := hid_some.mp h
  refine hid_some.mpr ⟨fun q => ?_, x.keep b o h2 fun i e => h1 (.inr ⟨i, e⟩)⟩
  rcases q with q | ⟨i, q⟩
  · exact h1 (.inl q)
  · rcases x.new i b q with ⟨j, e⟩ | e
    · exact h1 (.inr ⟨j, e⟩)
    · rw [e] at h2; cases h2

/-- no tuple -/
def mu (o : HO) : Prop := ∀ xs, o ≠ .tup xs
theorem mu_lst {xs : List V} : mu (.lst xs) := fun _ z => by cases z
theorem mu_dor {u : HO} {o : DiO} (h : DOR K a H u o) : mu u := fun xs z => by
  subst z
  cases o with
  | x b fs =>
    obtain ⟨C, dx, vs, h1, _⟩ := h
    exact exo_tup h1.symm
  | _ => exact h.elim
structure SR (K : PySem.W.Frag) (ph : Fx) (am : Am) (σ : L2.St) (H : Hp) (δ : Sg) : Prop where
  len : σ.length = δ.length
  fz : ∀ (i : Nat) (d : PyData), δ[i]? = some (Cell.fz d) → ∃ v, σ[i]? = some (some v) ∧ Dq K (hid ph am H) v d
  ow : ∀ (i : Nat) (b : Bool) (ds : List PyData), δ[i]? = some (Cell.ow b ds) → ∃ a vs, am i = some a ∧ σ[i]? = some (some (.ref a)) ∧ H a = some (.lst vs) ∧ DqAll K (hid ph am H) vs ds ∧ vs.length ≤ sizeLine ∧ (b = false → ph.ba i = none)
  amf : ∀ (i : Nat) (a : Addr), am i = some a → ¬ ph.ph a ∧ ∃ c, δ[i]? = some c ∧ c.Own
  inj : ∀ (i j : Nat) (a : Addr), am i = some a → am j = some a → i = j
  phs : ∀ b, ph.ph b → ∃ o, H b = some o ∧ mu o
  bas : ∀ (i : Nat) (a : Addr), ph.ba i = some a → am i = some a
  od : ∀ (i : Nat) (o : DiO), δ[i]? = some (Cell.od o) → ∃ a u, am i = some a ∧ σ[i]? = some (some (.ref a)) ∧ H a = some u ∧ DOR K a (hid ph am H) u o ∧ ph.ba i = none
variable {σ : L2.St} {δ δ' δ'' : Sg}
theorem SR.hiddenM (s : SR K ph am σ H δ) (h : Hid ph am b) : ∃ o, H b = some o ∧ mu o := by
  rcases h with h | ⟨i, h⟩
  · exact s.phs b h
  · obtain ⟨_, c, e, co⟩ := s.amf i b h
    cases c with
    | un => exact co.elim
    | fz d => exact co.elim
    | ow bb ds =>
      obtain ⟨a, vs, e1, _, e2, _⟩ := s.ow i bb ds e
      rw [h] at e1; cases e1
      exact ⟨_, e2, mu_lst⟩
    | od o =>
      obtain ⟨a, u, e1, _, e2, e3, _⟩ := s.od i o e
      rw [h] at e1; cases e1
      exact ⟨_, e2, mu_dor e3⟩
theorem SR.hidden (s : SR K ph am σ H δ) (h : Hid ph am b) : ∃ o, H b = some o := let ⟨o, e, _⟩ := s.hiddenM h; ⟨o, e⟩
/-- a tuple is never hidden -/
theorem SR.tup_seen (s : SR K ph am σ H δ) {xs : List V} (h : H b = some (.tup xs)) : hid ph am H b = some (.tup xs) :=
  hid_some.mpr ⟨fun z => by
    obtain ⟨o, e, m⟩ := s.hiddenM z
    rw [h] at e
    cases e
    exact m _ rfl, h⟩
theorem SR.same (s : SR K ph am σ H δ) (q : Same H H') : SR K ph am σ H' δ where
  len := s.len
  fz := fun i d e => let ⟨v, e1, e2⟩ := s.fz i d e; ⟨v, e1, dp_mono (hid_same q) e2⟩
  ow := fun i b ds e => let ⟨a, vs, e1, e2, e3, e4, e5⟩ := s.ow i b ds e; ⟨a, vs, e1, e2, q _ _ e3, dps_mono (hid_same q) e4, e5⟩
  amf := s.amf
  inj := s.inj
  phs := fun b h => let ⟨o, e, m⟩ := s.phs b h; ⟨o, q b o e, m⟩
  bas := s.bas
  od := fun i o e => let ⟨a, u, e1, e2, e3, e4, e5⟩ := s.od i o e; ⟨a, u, e1, e2, q _ _ e3, dor_mono (hid_same q) e4, e5⟩
theorem SR.new (s : SR K ph am σ H δ) (h : H p = none) : ¬ Hid ph am p := fun q => by
  obtain ⟨o, e⟩ := s.hidden q
  rw [h] at e; cases e

/-- what is wanted of an exception: W; c's class by its name -/
def XPm (K : PySem.W.Frag) (mg : Str → Option Value) (W : WX) (ph : Fx) (am : Am) (σ : L2.St) (H : Hp) (δ' : Sg) (c : Str) (fs : List (Str × PyData)) : Prop :=
  ∀ C dx am' H', mg c = some (.ref C) → Step am H am' H' → SR K ph am' σ H' δ' →
    ((fs = [] ∧ dx = none) ∨ ∃ a vs, dx = some a ∧ fs ≠ [] ∧ H' a = some (.xd vs) ∧ vs.map (·.1) = fs.map (·.1) ∧ DqAll K (hid ph am' H') (vs.map (·.2)) (fs.map (·.2))) → W (.ref C) dx σ H'
abbrev XP (X : Cx) (W : WX) (ph : Fx) (am : Am) (σ : L2.St) (H : Hp) (δ' : Sg) (c : Str) (fs : List (Str × PyData)) : Prop := XPm X.K X.mg W ph am σ H δ' c fs
abbrev E00 : WX := fun _ _ _ _ => False
/-- .. of a statement: wherever it raises -/
def XPS (X : Cx) (W : WX) (ph : Fx) (am : Am) (H : Hp) (δ' : Sg) (c : Str) (fs : List (Str × PyData)) : Prop :=
  ∀ C dx am' σ' H', X.mg c = some (.ref C) → Step am H am' H' → SR X.K ph am' σ' H' δ' →
    ((fs = [] ∧ dx = none) ∨ ∃ a vs, dx = some a ∧ fs ≠ [] ∧ H' a = some (.xd vs) ∧ vs.map (·.1) = fs.map (·.1) ∧ DqAll X.K (hid ph am' H') (vs.map (·.2)) (fs.map (·.2))) → W (.ref C) dx σ' H'
/-- .. of a def: what a caller wants -/
def XPd (K : PySem.W.Frag) (mg : Str → Option Value) (E : XK) (ph : Fx) (am : Am) (H : Hp) (c : Str) (fs : List (Str × PyData)) : Prop :=
  ∀ C dx am' H', mg c = some (.ref C) → Step am H am' H' →
    ((fs = [] ∧ dx = none) ∨ ∃ a vs, dx = some a ∧ fs ≠ [] ∧ H' a = some (.xd vs) ∧ vs.map (·.1) = fs.map (·.1) ∧ DqAll K (hid ph am' H') (vs.map (·.2)) (fs.map (·.2))) → E (.ref C) dx H'

def ReadE (X : Cx) (W : WX) (t : TE) (f : M PyData) : Prop := ∀ (ph : Fx) (am : Am) (σ : L2.St) (H : Hp) (δ : Sg) (Q : VK) (ans : Ans PyData) (δ' : Sg), SR X.K ph am σ H δ → f δ = some (ans, δ') →
    (∀ d, ans = .ok d → ∀ am' v H', Step am H am' H' → SR X.K ph am' σ H' δ' → Dq X.K (hid ph am' H') v d → Q v H') →
    (∀ c fs, ans = .ex c fs → XP X W ph am σ H δ' c fs) → t σ H Q
def ReadF (X : Cx) (W : WX) (t : TE) (f : M (List PyData)) : Prop := ∀ (ph : Fx) (am : Am) (σ : L2.St) (H : Hp) (δ : Sg) (Q : VK) (ans : Ans (List PyData)) (δ' : Sg), SR X.K ph am σ H δ → f δ = some (ans, δ') →
    (∀ ds, ans = .ok ds → ∀ am' p vs H', H p = none → H' p = none → Step am H am' H' → SR X.K ph am' σ H' δ' → DqAll X.K (hid ph am' H') vs ds → vs.length ≤ sizeLine → Q (.ref p) (upd H' p (.lst vs))) →
    (∀ c fs, ans = .ex c fs → XP X W ph am σ H δ' c fs) → t σ H Q
def ReadA (X : Cx) (W : WX) (t : TA) (f : M (List PyData)) : Prop := ∀ (ph : Fx) (am : Am) (σ : L2.St) (H : Hp) (δ : Sg) (Q : List V → Hp → Prop) (ans : Ans (List PyData)) (δ' : Sg), SR X.K ph am σ H δ → f δ = some (ans, δ') →
    (∀ ds, ans = .ok ds → ∀ am' vs H', Step am H am' H' → SR X.K ph am' σ H' δ' → DqAll X.K (hid ph am' H') vs ds → Q vs H') →
    (∀ c fs, ans = .ex c fs → XP X W ph am σ H δ' c fs) → t σ H Q
def ReadT (X : Cx) (W : WX) (t : TT) (f : M Bool) : Prop := ∀ (ph : Fx) (am : Am) (σ : L2.St) (H : Hp) (δ : Sg) (Q : Bool → Hp → Prop) (ans : Ans Bool) (δ' : Sg), SR X.K ph am σ H δ → f δ = some (ans, δ') →
    (∀ b, ans = .ok b → ∀ am' H', Step am H am' H' → SR X.K ph am' σ H' δ' → Q b H') →
    (∀ c fs, ans = .ex c fs → XP X W ph am σ H δ' c fs) → t σ H Q
structure DE (X : Cx) (W : WX) (e : Expr) (f : M PyData) : Prop where
  ex : ∃ t, PE X e t ∧ ReadE X W t f
/-- a new list -/
structure DF (X : Cx) (W : WX) (e : Expr) (f : M (List PyData)) : Prop where
  ex : ∃ t, PE X e t ∧ ReadF X W t f
/-- arguments -/
structure DA (X : Cx) (W : WX) (es : List Expr) (f : M (List PyData)) : Prop where
  ex : ∃ t, PA X es t ∧ ReadA X W t f
/-- tests -/
structure DT (X : Cx) (W : WX) (e : Expr) (f : M Bool) : Prop where
  ex : ∃ t, PT X e t ∧ ReadT X W t f
structure DW (X : Cx) (W : WX) (e : Expr) (f : M Bool) : Prop where
  ex : ∃ t, PW X e t ∧ ReadT X W t f

/-! ### the monad -/
@[reducible] def ret {α : Type} (a : α) : M α := fun δ => some (.ok a, δ)
def bnd {α β : Type} (f : M α) (g : α → M β) : M β := fun δ => match f δ with
  | some (.ok a, δ') => g a δ'
  | some (.ex c fs, δ') => some (.ex c fs, δ')
  | none => none
def lif {α : Type} (o : Option α) : M α := fun δ => match o with
  | some a => some (.ok a, δ)
  | none => none
theorem bnd_some {α β : Type} {f : M α} {g : α → M β} {ans : Ans β} (h : bnd f g δ = some (ans, δ')) :
    (∃ a δ1, f δ = some (.ok a, δ1) ∧ g a δ1 = some (ans, δ')) ∨ ∃ c fs, f δ = some (.ex c fs, δ') ∧ ans = .ex c fs := by
  unfold bnd at h
  split at h
  · rename_i a δ1 e
    exact .inl ⟨a, δ1, e, h⟩
  · rename_i c fs δ1 e
    cases h
    exact .inr ⟨c, fs, e, rfl⟩
  · cases h
theorem lif_some {α : Type} {o : Option α} {ans : Ans α} (h : lif o δ = some (ans, δ')) : ∃ a, o = some a ∧ ans = .ok a ∧ δ' = δ := by
  unfold lif at h
  split at h
  · cases h; exact ⟨_, rfl, rfl, rfl⟩
  · cases h
theorem XPm.step {mg : Str → Option Value} {W : WX} {c : Str} {fs : List (Str × PyData)} (s : Step am H am' H') (h : XPm K mg W ph am σ H δ' c fs) : XPm K mg W ph am' σ H' δ' c fs :=
  fun C dx am2 H2 e k r q => h C dx am2 H2 e (s.trans k) r q
theorem XPS.step {X : Cx} {W : WX} {c : Str} {fs : List (Str × PyData)} (s : Step am H am' H') (h : XPS X W ph am H δ' c fs) : XPS X W ph am' H' δ' c fs :=
  fun C dx am2 σ2 H2 e k r q => h C dx am2 σ2 H2 e (s.trans k) r q
theorem XPS.at {X : Cx} {W : WX} {c : Str} {fs : List (Str × PyData)} (h : XPS X W ph am H δ' c fs) : XP X W ph am σ H δ' c fs :=
  fun C dx am2 H2 e k r q => h C dx am2 σ H2 e k r q
theorem XPd.step {mg : Str → Option Value} {E : XK} {c : Str} {fs : List (Str × PyData)} (s : Step am H am' H') (h : XPd K mg E ph am H c fs) : XPd K mg E ph am' H' c fs :=
  fun C dx am2 H2 e k q => h C dx am2 H2 e (s.trans k) q
end PD
end

section
set_option Elab.async false
set_option linter.all false
set_option maxRecDepth 100000
set_option maxHeartbeats 1000000
namespace PD
open PySem PySem.Spec PyProof.Rows L2
variable {X : Cx} {W : WX} {pos : Pos} {e e1 e2 : Expr} {es : List Expr} {f g : M PyData} {fs : M (List PyData)}

/-! ### constants and names -/
theorem de_ret {t : TE} {d : PyData} {v : V} (h : PE X e t) (ht : t = tC v) (hv : ∀ H, Dq X.K H v d) : DE X W e (ret d) :=
  ⟨⟨t, h, fun ph am σ H δ Q ans δ' s q k _ => by
    cases q
    subst ht
    exact k _ rfl am v H Step.refl s (hv _)⟩⟩
theorem de_int {i : Int} {j} : DE X W (.Constant (.int i) j pos) (ret (.int i)) := de_ret pe_int rfl fun _ => .int i
theorem de_bl {b : Bool} {j} : DE X W (.Constant (.bool b) j pos) (ret (.bool b)) := de_ret pe_bl rfl fun _ => .bl b
theorem de_non {j} : DE X W (.Constant .none j pos) (ret .none) := de_ret pe_non rfl fun _ => .non
theorem de_str {x : Str} {j} : DE X W (.Constant (.str x) j pos) (ret (.str x)) := de_ret pe_str rfl fun _ => .str x

/-- a list of one's own is read as a value: from here on it is frozen -/
def xVar (i : Nat) : M PyData := fun δ => match δ[i]? with
  | some (.fz d) => some (.ok d, δ)
  | some (.ow false ds) => some (.ok (.list ds), δ.set i (.fz (.list ds)))
  | _ => none
def amDrop (am : Am) (i : Nat) : Am := fun j => if j = i then none else am j
theorem amDrop_some {am : Am} {i j : Nat} {a : Addr} : amDrop am i j = some a ↔ j ≠ i ∧ am j = some a := by
  unfold amDrop
  by_cases h : j = i <;> simp [h]
theorem step_drop {am : Am} {H : Hp} {i : Nat} : Step am H (amDrop am i) H :=
  ⟨fun _ _ h _ => h, fun j a h => .inl ⟨j, (amDrop_some.mp h).2⟩, fun _ o h => ⟨o, h⟩⟩
variable {K : PySem.W.Frag} {ph : Fx} {am am' : Am} {H H' : Hp} {σ : L2.St} {δ δ' : Sg}
/-- freezing -/
theorem SR.freeze (s : SR K ph am σ H δ) {i : Nat} {ds : List PyData} (e : δ[i]? = some (.ow false ds)) :
    ∃ a vs, am i = some a ∧ σ[i]? = some (some (.ref a)) ∧ H a = some (.lst vs) ∧ SR K ph (amDrop am i) σ H (δ.set i (.fz (.list ds))) ∧ Dq K (hid ph (amDrop am i) H) (.ref a) (.list ds) := by
  obtain ⟨a, vs, e1, e2, e3, e4, e6, e5⟩ := s.ow i false ds e
  have st : Step am H (amDrop am i) H := step_drop
  have hi : i < δ.length := (List.getElem?_eq_some_iff.mp e).1
  have na : ¬ Hid ph (amDrop am i) a := by
    rintro (q | ⟨j, q⟩)
    · exact (s.amf i a e1).1 q
    · obtain ⟨n, q⟩ := amDrop_some.mp q
      exact n (s.inj j i a q e1)
  have dp : Dq K (hid ph (amDrop am i) H) (.ref a) (.list ds) := .lst (.inl (.inl (hid_some.mpr ⟨na, e3⟩))) (dps_mono st.hid e4)
  refine ⟨a, vs, e1, e2, e3, ⟨by rw [s.len, List.length_set], fun j d q => ?_, fun j b' ds' q => ?_, fun j a' q => ?_, fun j k a' q1 q2 => ?_, s.phs, fun j a' q => ?_, fun j o q => ?_⟩, dp⟩
  · by_cases hj : j = i
    · subst hj
      rw [List.getElem?_set_self hi] at q
      cases q
      exact ⟨_, e2, dp⟩
    · rw [List.getElem?_set_ne (Ne.symm hj)] at q
      obtain ⟨v, h1, h2⟩ := s.fz j d q
      exact ⟨v, h1, dp_mono st.hid h2⟩
  · by_cases hj : j = i
    · subst hj
      rw [List.getElem?_set_self hi] at q
      cases q
    · rw [List.getElem?_set_ne (Ne.symm hj)] at q
      obtain ⟨a2, vs2, h1, h2, h3, h4, h6, h5⟩ := s.ow j b' ds' q
      exact ⟨a2, vs2, amDrop_some.mpr ⟨hj, h1⟩, h2, h3, dps_mono st.hid h4, h6, h5⟩
  · obtain ⟨n, q⟩ := amDrop_some.mp q
    obtain ⟨h1, c, h2, h3⟩ := s.amf j a' q
    exact ⟨h1, c, by rw [List.getElem?_set_ne (Ne.symm n)]; exact h2, h3⟩
  · exact s.inj j k a' (amDrop_some.mp q1).2 (amDrop_some.mp q2).2
  · refine amDrop_some.mpr ⟨fun z => ?_, s.bas j a' q⟩
    subst z
    rw [e5 rfl] at q
    cases q
  · by_cases hj : j = i
    · subst hj
      rw [List.getElem?_set_self hi] at q
      cases q
    · rw [List.getElem?_set_ne (Ne.symm hj)] at q
      obtain ⟨a2, u, h1, h2, h3, h4, h5⟩ := s.od j o q
      exact ⟨a2, u, amDrop_some.mpr ⟨hj, h1⟩, h2, h3, dor_mono st.hid h4, h5⟩
theorem de_var (i : Nat) {x : Str} (hN : X.N[i]? = some x := by rfl) (hv : Vis X.env.scope x := by first | exact Or.inl rfl | exact Or.inr (Or.inl rfl) | exact Or.inr (Or.inr rfl)) (hd : (x == ("__debug__" : Str)) = false := by decide)
    (hcd : (x == ("__classdict__" : Str)) = false := by decide) : DE X W (.Name x pos) (xVar i) :=
  ⟨⟨tVar i, pe_var hN hv hd hcd, fun ph am σ H δ Q ans δ' s q k _ => by
    unfold xVar at q
    split at q
    · rename_i d e
      cases q
      obtain ⟨v, h1, h2⟩ := s.fz i d e
      exact ⟨v, h1, k _ rfl am v H Step.refl s h2⟩
    · rename_i ds e
      cases q
      obtain ⟨a, vs, h1, h2, h3, h4, h5⟩ := s.freeze e
      exact ⟨.ref a, h2, k _ rfl _ _ H step_drop h4 h5⟩
    · cases q⟩⟩

/-! ### operators -/
def OpD (X : Cx) (r : R2) (F : PyData → PyData → Option PyData) : Prop :=
  ∀ (ph : Fx) (am : Am) (H : Hp) (x y : V) (d e c : PyData) (Q : VK), (∀ b, Hid ph am b → ∃ o, H b = some o) → Dq X.K (hid ph am H) x d → Dq X.K (hid ph am H) y e → F d e = some c →
    (∀ v H', Same H H' → Dq X.K (hid ph am H') v c → Q v H') → r x y H Q
def UnD (X : Cx) (r : V → Hp → VK → Prop) (F : PyData → Option PyData) : Prop :=
  ∀ (ph : Fx) (am : Am) (H : Hp) (x : V) (d c : PyData) (Q : VK), (∀ b, Hid ph am b → ∃ o, H b = some o) → Dq X.K (hid ph am H) x d → F d = some c →
    (∀ v H', Same H H' → Dq X.K (hid ph am H') v c → Q v H') → r x H Q
def CallD (X : Cx) (r : List V → Hp → VK → Prop) (F : List PyData → Option PyData) : Prop :=
  ∀ (ph : Fx) (am : Am) (H : Hp) (xs : List V) (ds : List PyData) (c : PyData) (Q : VK), (∀ b, Hid ph am b → ∃ o, H b = some o) → DqAll X.K (hid ph am H) xs ds → F ds = some c →
    (∀ v H', Same H H' → Dq X.K (hid ph am H') v c → Q v H') → r xs H Q
/-- .. giving a new list -/
def CallF (X : Cx) (r : List V → Hp → VK → Prop) (F : List PyData → Option (List PyData)) : Prop :=
  ∀ (ph : Fx) (am : Am) (H : Hp) (xs : List V) (ds cs : List PyData) (Q : VK), (∀ b, Hid ph am b → ∃ o, H b = some o) → DqAll X.K (hid ph am H) xs ds → F ds = some cs →
    (∀ p vs, H p = none → DqAll X.K (hid ph am H) vs cs → vs.length ≤ sizeLine → Q (.ref p) (upd H p (.lst vs))) → r xs H Q
def OpF (X : Cx) (r : R2) (F : PyData → PyData → Option (List PyData)) : Prop :=
  ∀ (ph : Fx) (am : Am) (H : Hp) (x y : V) (d e : PyData) (cs : List PyData) (Q : VK), (∀ b, Hid ph am b → ∃ o, H b = some o) → Dq X.K (hid ph am H) x d → Dq X.K (hid ph am H) y e → F d e = some cs →
    (∀ p vs, H p = none → DqAll X.K (hid ph am H) vs cs → vs.length ≤ sizeLine → Q (.ref p) (upd H p (.lst vs))) → r x y H Q

def xBin (F : PyData → PyData → Option PyData) (f g : M PyData) : M PyData := bnd f fun a => bnd g fun b => lif (F a b)
def xUn (F : PyData → Option PyData) (f : M PyData) : M PyData := bnd f fun a => lif (F a)
theorem bin_read {ta tb : TE} {r : R2} {F : PyData → PyData → Option PyData} (hr : OpD X r F) (qa : ReadE X W ta f) (qb : ReadE X W tb g) : ReadE X W (tOp r ta tb) (xBin F f g) := by
  intro ph am σ H δ Q ans δ' s q k kx
  rcases bnd_some q with ⟨a, δ1, e1, q1⟩ | ⟨c, fs, e1, q1⟩
  · refine qa ph am σ H δ _ _ _ s e1 (fun d ed am1 x H1 st1 s1 d1 => ?_) (fun c fs z => by cases z)
    cases ed
    rcases bnd_some q1 with ⟨b, δ2, e2, q2⟩ | ⟨c, fs, e2, q2⟩
    · refine qb ph am1 σ H1 δ1 _ _ _ s1 e2 (fun d ed am2 y H2 st2 s2 d2 => ?_) (fun c fs z => by cases z)
      cases ed
      obtain ⟨z, e3, rfl, rfl⟩ := lif_some q2
      refine hr ph am2 H2 x y a b z _ (fun b h => s2.hidden h) (dp_mono st2.hid d1) d2 e3 fun v H3 sm dv => ?_
      exact k _ rfl am2 v H3 ((st1.trans st2).trans (Step.of sm)) (s2.same sm) dv
    · subst q2
      refine qb ph am1 σ H1 δ1 _ _ _ s1 e2 (fun d ed => by cases ed) (fun c' fs' z => ?_)
      cases z
      exact (kx _ _ rfl).step st1
  · subst q1
    refine qa ph am σ H δ _ _ _ s e1 (fun d ed => by cases ed) (fun c' fs' z => ?_)
    cases z
    exact kx _ _ rfl
theorem bin_core {r : R2} {F : PyData → PyData → Option PyData} (hr : OpD X r F) (ha : DE X W e1 f) (hb : DE X W e2 g) (rule : ∀ ta tb, PE X e1 ta → PE X e2 tb → PE X e (tOp r ta tb)) : DE X W e (xBin F f g) := by
  obtain ⟨ta, pa, qa⟩ := ha.ex
  obtain ⟨tb, pb, qb⟩ := hb.ex
  exact ⟨⟨_, rule ta tb pa pb, bin_read hr qa qb⟩⟩
theorem de_bin {op : Operator} {r : R2} {F : PyData → PyData → Option PyData} (hr : OpD X r F) (ho : OpR X (binaryOp op) r) (ha : DE X W e1 f) (hb : DE X W e2 g) : DE X W (.BinOp e1 op e2 pos) (xBin F f g) :=
  bin_core hr ha hb fun _ _ pa pb => pe_op ho pa pb
theorem de_cmp {op : CmpOp} {r : R2} {F : PyData → PyData → Option PyData} (hr : OpD X r F) (ho : OpR X (compareOp op) r) (hm : behindInMarks op e2 = false) (ha : DE X W e1 f) (hb : DE X W e2 g) : DE X W (.Compare e1 [op] [e2] pos) (xBin F f g) :=
  bin_core hr ha hb fun _ _ pa pb => pe_cmpR ho pa pb hm
theorem de_un {op : UnaryOp} {r : V → Hp → VK → Prop} {F : PyData → Option PyData} (hr : UnD X r F) (ho : UnR X (unaryOp op) r) (ha : DE X W e1 f) : DE X W (.UnaryOp op e1 pos) (xUn F f) := by
  obtain ⟨ta, pa, qa⟩ := ha.ex
  refine ⟨⟨_, pe_un ho pa, fun ph am σ H δ Q ans δ' s q k kx => ?_⟩⟩
  rcases bnd_some q with ⟨a, δ1, e1, q1⟩ | ⟨c, fs, e1, q1⟩
  · refine qa ph am σ H δ _ _ _ s e1 (fun d ed am1 x H1 st1 s1 d1 => ?_) (fun c fs z => by cases z)
    cases ed
    obtain ⟨z, e3, rfl, rfl⟩ := lif_some q1
    exact hr ph am1 H1 x a z _ (fun b h => s1.hidden h) d1 e3 fun v H3 sm dv => k _ rfl am1 v H3 (st1.trans (Step.of sm)) (s1.same sm) dv
  · subst q1
    exact qa ph am σ H δ _ _ _ s e1 (fun d ed => by cases ed) (fun c' fs' z => by cases z; exact kx _ _ rfl)
/-- a new list as a value -/
theorem de_df {fs : M (List PyData)} (h : DF X W e fs) : DE X W e (bnd fs fun ds => ret (.list ds)) := by
  obtain ⟨t, p, q⟩ := h.ex
  refine ⟨⟨t, p, fun ph am σ H δ Q ans δ' s e k kx => ?_⟩⟩
  rcases bnd_some e with ⟨ds, δ1, e1, q1⟩ | ⟨c, fs, e1, q1⟩
  · cases q1
    refine q ph am σ H δ _ _ _ s e1 (fun d ed am1 p vs H1 n0 n1 st s1 dv hz => ?_) (fun c fs z => by cases z)
    cases ed
    have sm : Same H1 (upd H1 p (.lst vs)) := same_new n1
    refine k _ rfl am1 _ _ (st.trans (Step.of sm)) (s1.same sm) (.lst (.inl (.inl (hid_some.mpr ⟨s1.new n1, upd_same⟩))) (dps_mono (hid_same sm) dv))
  · subst q1
    exact q ph am σ H δ _ _ _ s e1 (fun d ed => by cases ed) (fun c' fs' z => by cases z; exact kx _ _ rfl)
/-! ### arguments and displays -/
theorem da_nil : DA X W [] (ret []) := ⟨⟨tNil, pa_nil, fun ph am σ H δ Q ans δ' s q k _ => by cases q; exact k _ rfl am [] H Step.refl s .nil⟩⟩
theorem da_cons (h : DE X W e f) (t : DA X W es fs) (hs : starEach (e :: es) X.env = (false, eval e X.env) :: starEach es X.env := by rfl) : DA X W (e :: es) (bnd f fun d => bnd fs fun ds => ret (d :: ds)) := by
  obtain ⟨ta, pa, qa⟩ := h.ex
  obtain ⟨tb, pb, qb⟩ := t.ex
  refine ⟨⟨_, pa_cons pa pb hs, fun ph am σ H δ Q ans δ' s q k kx => ?_⟩⟩
  rcases bnd_some q with ⟨a, δ1, e1, q1⟩ | ⟨c, fs, e1, q1⟩
  · refine qa ph am σ H δ _ _ _ s e1 (fun d ed am1 x H1 st1 s1 d1 => ?_) (fun c fs z => by cases z)
    cases ed
    rcases bnd_some q1 with ⟨b, δ2, e2, q2⟩ | ⟨c, fs, e2, q2⟩
    · cases q2
      refine qb ph am1 σ H1 δ1 _ _ _ s1 e2 (fun d ed am2 y H2 st2 s2 d2 => ?_) (fun c fs z => by cases z)
      cases ed
      exact k _ rfl am2 _ H2 (st1.trans st2) s2 (.cons (dp_mono st2.hid d1) d2)
    · subst q2
      exact qb ph am1 σ H1 δ1 _ _ _ s1 e2 (fun d ed => by cases ed) (fun c' fs' z => by cases z; exact (kx _ _ rfl).step st1)
  · subst q1
    exact qa ph am σ H δ _ _ _ s e1 (fun d ed => by cases ed) (fun c' fs' z => by cases z; exact kx _ _ rfl)
def xTup (fs : M (List PyData)) : M PyData := bnd fs fun ds => lif (if ds.length ≤ sizeLine then some (.tuple ds) else none)
def xLst (fs : M (List PyData)) : M (List PyData) := bnd fs fun ds => lif (if ds.length ≤ sizeLine then some ds else none)
theorem if_some {c : Prop} [Decidable c] {α : Type} {a b : α} (h : (if c then some a else none) = some b) : c ∧ a = b := by
  split at h
  · cases h; exact ⟨by assumption, rfl⟩
  · cases h
theorem de_tup {x1} (h : DA X W es fs) : DE X W (.Tuple es x1 pos) (xTup fs) := by
  obtain ⟨ta, pa, qa⟩ := h.ex
  refine ⟨⟨_, pe_tup pa, fun ph am σ H δ Q ans δ' s q k kx => ?_⟩⟩
  rcases bnd_some q with ⟨a, δ1, e1, q1⟩ | ⟨c, fs, e1, q1⟩
  · refine qa ph am σ H δ _ _ _ s e1 (fun d ed am1 x H1 st1 s1 d1 => ?_) (fun c fs z => by cases z)
    cases ed
    obtain ⟨z, e3, rfl, rfl⟩ := lif_some q1
    obtain ⟨hz, rfl⟩ := if_some e3
    refine ⟨by rw [DqAll.length d1]; exact hz, fun p np => ?_⟩
    have sm : Same H1 (upd H1 p (.tup x)) := same_new np
    exact k _ rfl am1 _ _ (st1.trans (Step.of sm)) (s1.same sm) (.tup (hid_some.mpr ⟨s1.new np, upd_same⟩) (dps_mono (hid_same sm) d1))
  · subst q1
    exact qa ph am σ H δ _ _ _ s e1 (fun d ed => by cases ed) (fun c' fs' z => by cases z; exact kx _ _ rfl)
/-- nothing that is new was there -/
theorem Step.none (st : Step am H am' H') {p : Addr} (h : H' p = .none) : H p = .none := by
  cases e : H p with
  | none => rfl
  | some o =>
    obtain ⟨o', e'⟩ := st.there p o e
    rw [h] at e'; cases e'
theorem df_lst (h : DA X W es fs) : DF X W (.List es pos) (xLst fs) := by
  obtain ⟨ta, pa, qa⟩ := h.ex
  refine ⟨⟨_, pe_lst pa, fun ph am σ H δ Q ans δ' s q k kx => ?_⟩⟩
  rcases bnd_some q with ⟨a, δ1, e1, q1⟩ | ⟨c, fs, e1, q1⟩
  · refine qa ph am σ H δ _ _ _ s e1 (fun d ed am1 x H1 st1 s1 d1 => ?_) (fun c fs z => by cases z)
    cases ed
    obtain ⟨z, e3, rfl, rfl⟩ := lif_some q1
    obtain ⟨hz, rfl⟩ := if_some e3
    exact ⟨by rw [DqAll.length d1]; exact hz, fun p np => k _ rfl am1 p x H1 (st1.none np) np st1 s1 d1 (by rw [DqAll.length d1]; exact hz)⟩
  · subst q1
    exact qa ph am σ H δ _ _ _ s e1 (fun d ed => by cases ed) (fun c' fs' z => by cases z; exact kx _ _ rfl)
/-! ### built-ins called by name -/
def xCall (F : List PyData → Option PyData) (fs : M (List PyData)) : M PyData := bnd fs fun ds => lif (F ds)
def xCallF (F : List PyData → Option (List PyData)) (fs : M (List PyData)) : M (List PyData) := bnd fs fun ds => lif (F ds)
theorem call_core {r : List V → Hp → VK → Prop} {F : List PyData → Option PyData} (hr : CallD X r F) (h : DA X W es fs) (rule : ∀ t, PA X es t → PE X e (tCB r t)) : DE X W e (xCall F fs) := by
  obtain ⟨ta, pa, qa⟩ := h.ex
  refine ⟨⟨_, rule _ pa, fun ph am σ H δ Q ans δ' s q k kx => ?_⟩⟩
  rcases bnd_some q with ⟨a, δ1, e1, q1⟩ | ⟨c, fs, e1, q1⟩
  · refine qa ph am σ H δ _ _ _ s e1 (fun d ed am1 x H1 st1 s1 d1 => ?_) (fun c fs z => by cases z)
    cases ed
    obtain ⟨z, e3, rfl, rfl⟩ := lif_some q1
    exact hr ph am1 H1 x a z _ (fun b h => s1.hidden h) d1 e3 fun v H3 sm dv => k _ rfl am1 v H3 (st1.trans (Step.of sm)) (s1.same sm) dv
  · subst q1
    exact qa ph am σ H δ _ _ _ s e1 (fun d ed => by cases ed) (fun c' fs' z => by cases z; exact kx _ _ rfl)
theorem callF_core {r : List V → Hp → VK → Prop} {F : List PyData → Option (List PyData)} (hr : CallF X r F) (h : DA X W es fs) (rule : ∀ t, PA X es t → PE X e (tCB r t)) : DF X W e (xCallF F fs) := by
  obtain ⟨ta, pa, qa⟩ := h.ex
  refine ⟨⟨_, rule _ pa, fun ph am σ H δ Q ans δ' s q k kx => ?_⟩⟩
  rcases bnd_some q with ⟨a, δ1, e1, q1⟩ | ⟨c, fs, e1, q1⟩
  · refine qa ph am σ H δ _ _ _ s e1 (fun d ed am1 x H1 st1 s1 d1 => ?_) (fun c fs z => by cases z)
    cases ed
    obtain ⟨z, e3, rfl, rfl⟩ := lif_some q1
    exact hr ph am1 H1 x a z _ (fun b h => s1.hidden h) d1 e3 fun p vs np dv hz => k _ rfl am1 p vs H1 (st1.none np) np st1 s1 dv hz
  · subst q1
    exact qa ph am σ H δ _ _ _ s e1 (fun d ed => by cases ed) (fun c' fs' z => by cases z; exact kx _ _ rfl)
def xBinF (F : PyData → PyData → Option (List PyData)) (f g : M PyData) : M (List PyData) := bnd f fun a => bnd g fun b => lif (F a b)
theorem binF_core {r : R2} {F : PyData → PyData → Option (List PyData)} (hr : OpF X r F) (ha : DE X W e1 f) (hb : DE X W e2 g) (rule : ∀ ta tb, PE X e1 ta → PE X e2 tb → PE X e (tOp r ta tb)) : DF X W e (xBinF F f g) := by
  obtain ⟨ta, pa, qa⟩ := ha.ex
  obtain ⟨tb, pb, qb⟩ := hb.ex
  refine ⟨⟨_, rule ta tb pa pb, fun ph am σ H δ Q ans δ' s q k kx => ?_⟩⟩
  rcases bnd_some q with ⟨a, δ1, e1, q1⟩ | ⟨c, fs, e1, q1⟩
  · refine qa ph am σ H δ _ _ _ s e1 (fun d ed am1 x H1 st1 s1 d1 => ?_) (fun c fs z => by cases z)
    cases ed
    rcases bnd_some q1 with ⟨b, δ2, e2, q2⟩ | ⟨c, fs, e2, q2⟩
    · refine qb ph am1 σ H1 δ1 _ _ _ s1 e2 (fun d ed am2 y H2 st2 s2 d2 => ?_) (fun c fs z => by cases z)
      cases ed
      obtain ⟨z, e3, rfl, rfl⟩ := lif_some q2
      exact hr ph am2 H2 x y a b z _ (fun b h => s2.hidden h) (dp_mono st2.hid d1) d2 e3 fun p vs np dv hz => k _ rfl am2 p vs H2 ((st1.trans st2).none np) np (st1.trans st2) s2 dv hz
    · subst q2
      exact qb ph am1 σ H1 δ1 _ _ _ s1 e2 (fun d ed => by cases ed) (fun c' fs' z => by cases z; exact (kx _ _ rfl).step st1)
  · subst q1
    exact qa ph am σ H δ _ _ _ s e1 (fun d ed => by cases ed) (fun c' fs' z => by cases z; exact kx _ _ rfl)
end PD
end

section
set_option Elab.async false
set_option linter.all false
set_option maxRecDepth 100000
set_option maxHeartbeats 4000000
namespace PD
open PySem PySem.Spec PyProof.Rows L2
theorem tuple_mulS (l : Addr) (items : Array Value) (n : Nat) (sl : Array (Option Value)) (dd : Option Addr) (x : Int) (u : Tok) (c0 : (decide (x < -(2 ^ 63)) || decide (x ≥ 2 ^ 63)) = false) (c1 : (items.isEmpty || x == 1) = true) :
    Meets (Builtin.«tuple.__mul__» ⟨[.ref l, .int x u], []⟩) (fun _ R s => s.heap.get? l = some { cls := .type "tuple", dict := dd, data := .seq items n, slots := sl } ∧
      R (.ok (.ret (Value.ref l))) s) :=
  .of_wp fun prog w A R s h => by
    obtain ⟨hp, g, d, tk, os⟩ := s
    obtain ⟨hl, h⟩ := h
    have f1 := AutoSeq1.idx_int
    wp_walk using wpAny_loadPart' hl
    repeat (first
      | (refine wpAny_ite_false (decide_eq_false (by rw [c0]; exact Bool.false_ne_true)) ?_; wp_walk using wpAny_loadPart' hl)
      | (refine wpAny_ite_true (decide_eq_true (by rw [c1])) ?_; wp_walk using wpAny_loadPart' hl))
    exact ⟨_, rfl, h⟩
theorem tuple_mul0 (l : Addr) (items : Array Value) (n : Nat) (sl : Array (Option Value)) (dd : Option Addr) (x : Int) (u : Tok) (c0 : (decide (x < -(2 ^ 63)) || decide (x ≥ 2 ^ 63)) = false) (c1 : (items.isEmpty || x == 1) = false) (c2 : (decide (x ≤ 0) || items.isEmpty) = true) :
    Meets (Builtin.«tuple.__mul__» ⟨[.ref l, .int x u], []⟩) (fun _ R s => s.heap.get? l = some { cls := .type "tuple", dict := dd, data := .seq items n, slots := sl } ∧
      R (.ok (.ret (Value.ref s.heap.objs.size))) { s with heap := s.heap.push { cls := Value.type "tuple", data := Data.seq #[] }, toks := s.toks }) :=
  .of_wp fun prog w A R s h => by
    obtain ⟨hp, g, d, tk, os⟩ := s
    obtain ⟨hl, h⟩ := h
    have f1 := AutoSeq1.idx_int
    wp_walk using wpAny_loadPart' hl
    repeat (first
      | (refine wpAny_ite_false (decide_eq_false (by rw [c0]; exact Bool.false_ne_true)) ?_; wp_walk using wpAny_loadPart' hl)
      | (refine wpAny_ite_false (decide_eq_false (by rw [c1]; exact Bool.false_ne_true)) ?_; wp_walk using wpAny_loadPart' hl)
      | (refine wpAny_ite_true (decide_eq_true (by rw [c2])) ?_; wp_walk using wpAny_loadPart' hl))
    exact ⟨_, rfl, h⟩

variable {X : Cx}
def rRepA (K : PySem.W.Frag) : R2 := fun x y H Q => ∃ l k xs, x = .ref l ∧ y = .int k ∧ SqT K H l xs ∧ -(2 ^ 63) ≤ k ∧ k ≤ 1000 ∧ xs.length ≤ 1000 ∧
  ((xs = [] ∨ k = 1) → Q (.ref l) H) ∧ (xs ≠ [] → k ≠ 1 → ∀ p, H p = none → Q (.ref p) (upd H p (.tup (List.replicate k.toNat xs).flatten)))
theorem op_repA : OpR X (binaryOp .Mult) (rRepA X.K) := by
  intro pins s σ H x y v u Q I rx ry h
  obtain ⟨l, k, xs, rfl, rfl, hT, h0, h1, hz, q1, q2⟩ := h
  by_cases big : xs ≠ [] ∧ 2 ≤ k
  · exact op_repT pins s σ H _ _ v u Q I rx ry ⟨l, k, xs, rfl, rfl, hT, big.1, big.2, h1, hz, q2 big.1 (by omega)⟩
  cases rx
  obtain ⟨t, rfl⟩ := ry
  obtain ⟨its, r, ⟨⟨cls, dd, data, sl⟩, ho, hc, n, hd⟩, hs⟩ := I.tuple hT
  simp only at hc hd
  subst hc hd
  have hle : its.length = xs.length := r.length.symm
  have c0 : (decide (k < -(2 ^ 63)) || decide (k ≥ 2 ^ 63)) = false := by
    rw [decide_eq_false (by omega), decide_eq_false (by omega)] <;> rfl
  by_cases c1 : (its.toArray.isEmpty || k == 1) = true
  · have hx : xs = [] ∨ k = 1 := by
      simp only [Bool.or_eq_true, beq_iff_eq] at c1
      rcases c1 with c | c
      · left
        have : its = [] := by simpa using c
        rw [this] at hle
        exact List.eq_nil_of_length_eq_zero hle.symm
      · exact .inr c
    refine wpAny_binaryOp_repeat_ref (T := "tuple") (U := "int") (by decide) ⟨_, ho, rfl⟩ (fun s' => typeIs_int s' k t) noFill_tuple_mul F.fills_int_mul F.slot_int_rmul repeat_tuple F.slot_int_index.lookup
      (call_meets F.slot_int_rmul (typeIs_int s k t) F.entry_int_rmul (F.args_int_rmul_2 _ _) (int_rmul_tuple k t l its.toArray n dd sl)
        ⟨ho, rfl, ⟨_, ho, rfl⟩, call_meets F.slot_tuple_mul ⟨_, ho, rfl⟩ F.entry_tuple_mul (F.args_tuple_mul_2 _ _) (tuple_mulS l its.toArray n sl dd k t c0 c1) ⟨ho, ?_⟩⟩)
    exact ⟨.ref l, H, I, rfl, q1 hx⟩
  · have c1' : (its.toArray.isEmpty || k == 1) = false := by simpa using c1
    have hx : xs ≠ [] := fun e => by
      rw [e] at hle
      have : its = [] := List.eq_nil_of_length_eq_zero hle
      rw [this] at c1'
      simp at c1'
    have hk : k ≠ 1 := fun e => by
      rw [e] at c1'
      simp at c1'
    have hk0 : k ≤ 0 := by
      have : ¬ 2 ≤ k := fun z => big ⟨hx, z⟩
      omega
    have c2 : (decide (k ≤ 0) || its.toArray.isEmpty) = true := by
      rw [decide_eq_true hk0, Bool.true_or]
    refine wpAny_binaryOp_repeat_ref (T := "tuple") (U := "int") (by decide) ⟨_, ho, rfl⟩ (fun s' => typeIs_int s' k t) noFill_tuple_mul F.fills_int_mul F.slot_int_rmul repeat_tuple F.slot_int_index.lookup
      (call_meets F.slot_int_rmul (typeIs_int s k t) F.entry_int_rmul (F.args_int_rmul_2 _ _) (int_rmul_tuple k t l its.toArray n dd sl)
        ⟨ho, rfl, ⟨_, ho, rfl⟩, call_meets F.slot_tuple_mul ⟨_, ho, rfl⟩ F.entry_tuple_mul (F.args_tuple_mul_2 _ _) (tuple_mul0 l its.toArray n sl dd k t c0 c1' c2) ⟨ho, ?_⟩⟩)
    have e0 : (List.replicate k.toNat xs).flatten = [] := by
      rw [show k.toNat = 0 by omega]
      rfl
    refine ⟨.ref s.heap.objs.size, upd H s.heap.objs.size (.tup (List.replicate k.toNat xs).flatten), ?_, rfl, q2 hx hk _ (I.hok.fresh (Nat.le_refl _))⟩
    rw [e0]
    exact I.laid (t' := s.toks) (o := .tup []) (fun b ob q => Heap.get?_push_of_some _ q) (Nat.le_refl _) ⟨Nat.zero_le _, [], .nil, IsTup.new _ _⟩
/-! ### list + list, list * int, of any list that may be read -/
def rCatL (K : PySem.W.Frag) : R2 := fun x y H Q => ∃ l b xs zs, x = .ref l ∧ y = .ref b ∧ SqL K H l xs ∧ SqL K H b zs ∧ xs.length + zs.length ≤ sizeLine ∧ ∀ p, H p = none → Q (.ref p) (upd H p (.lst (xs ++ zs)))
theorem op_catL : OpR X (binaryOp .Add) (rCatL X.K) := by
  intro pins s σ H x y v u Q I rx ry h
  obtain ⟨l, b, xs, zs, rfl, rfl, hH, hB, hz, q⟩ := h
  cases rx
  cases ry
  obtain ⟨its, r, p1, _⟩ := I.list hH
  obtain ⟨its2, r2, p2, _⟩ := I.list hB
  have hl := r.length
  have hl2 := r2.length
  obtain ⟨⟨cls, dd, data, sl⟩, ho, hc, n, hd⟩ := p1.isList
  obtain ⟨⟨cls2, dd2, data2, sl2⟩, ho2, hc2, n2, hd2⟩ := p2.isList
  simp only at hc hd hc2 hd2
  subst hc hd hc2 hd2
  have e : its.toArray ++ its2.toArray = (its ++ its2).toArray := by simp
  refine concat_meets ⟨_, ho, rfl⟩ ⟨_, ho2, rfl⟩ noFill_list_add seq_list_add PySem.F.slot_list_add PySem.F.entry_list_add (PySem.F.args_list_add_2 _ _) (list_addW l b its.toArray its2.toArray n n2 dd dd2 sl sl2 (by rw [List.size_toArray, List.size_toArray]; omega)) ⟨ho, ho2, ?_⟩
  rw [e]
  exact ⟨.ref _, _, I.lnew (t' := s.toks) (r.append r2) (by rw [List.length_append]; omega), rfl, q _ I.fresh⟩
end PD
end

section
set_option Elab.async false
set_option linter.all false
set_option maxRecDepth 100000
set_option maxHeartbeats 2000000
namespace PD
open PySem PySem.Spec PyProof.Rows L2
/-! ### lists and tuples, in any mix, under zip and enumerate -/
def SqK (k : Bool) (K : PySem.W.Frag) (H : Hp) (a : Addr) (xs : List V) : Prop := if k = true then SqL K H a xs else SqT K H a xs
def IsK (k : Bool) (h : Heap) (a : Addr) (its : Array Value) : Prop := if k = true then h.IsList a its else h.IsTuple a its
def ItK (k : Bool) (h : Heap) (it a : Addr) (i : Nat) : Prop := if k = true then h.IsListIter it a i else h.IsTupleIter it a i
def obK (k : Bool) (a : Addr) : Obj := if k = true then { cls := .type "list_iterator", data := .fields #[.ref a, .int 0 0] } else { cls := .type "tuple_iterator", data := .fields #[.ref a, .int 0 0] }
theorem seq_of {X : Cx} {pins : List (Addr × Obj)} {σ : L2.St} {H : Hp} {s : Shared} {a : Addr} {xs : List V} {k : Bool} (I : Inv X pins σ H s) (q : SqK k X.K H a xs) : ∃ its : List Value, Vals xs its ∧ IsK k s.heap a its.toArray ∧ xs.length ≤ sizeLine := by
  cases k with
  | true =>
    obtain ⟨its, r, p, z⟩ := I.list (show SqL _ _ _ _ from q)
    exact ⟨its, r, p.isList, z⟩
  | false =>
    obtain ⟨its, r, p, z⟩ := I.tuple (show SqT _ _ _ _ from q)
    exact ⟨its, r, p, z⟩
theorem seq_inj {X : Cx} {pins : List (Addr × Obj)} {σ : L2.St} {H : Hp} {s : Shared} {a : Addr} {xs ys : List V} {k : Bool} (I : Inv X pins σ H s) (q : SqK k X.K H a xs) (q' : SqK k X.K H a ys) : xs = ys := by
  cases k with
  | true => exact I.list_inj q q'
  | false => exact I.tuple_inj q q'
theorem begins_k (k : Bool) (a : Addr) (items : Array Value) : Begins (.ref a) (obK k a) fun h => IsK k h a items := by
  cases k with
  | true => exact begins_list a items
  | false => exact begins_tuple a items
theorem draws_k {prog : Program} {w : World} {A : Around} (k : Bool) (hh : A.handled = none) (it a : Addr) (hne : a ≠ it) (items : Array Value) :
    Draws prog w A it [it, a] items.size (fun i v => items[i]? = some v) (fun i h => ItK k h it a i ∧ IsK k h a items) := by
  cases k with
  | true => exact Draws.list hh it a hne items
  | false => exact Draws.tuple hh it a hne items
theorem itK_at {k : Bool} {h h' : Heap} {it a : Addr} {i : Nat} (x : ItK k h it a i) (e : ∀ o, h.get? it = some o → h'.get? it = some o) : ItK k h' it a i := by
  cases k with
  | true => exact Heap.IsListIter.at (show h.IsListIter it a i from x) e
  | false => exact Heap.IsTupleIter.at (show h.IsTupleIter it a i from x) e
theorem itK_ob {k : Bool} {h : Heap} {it a : Addr} {i : Nat} (x : ItK k h it a i) : ∃ o, h.get? it = some o ∧ ∀ v, o.data ≠ .cell v := by
  cases k with
  | true =>
    obtain ⟨o, e, _, d⟩ := (show h.IsListIter it a i from x)
    exact ⟨o, e, fun v q => by rw [d] at q; cases q⟩
  | false =>
    obtain ⟨o, e, _, d⟩ := (show h.IsTupleIter it a i from x)
    exact ⟨o, e, fun v q => by rw [d] at q; cases q⟩
theorem itK_new {k : Bool} {h : Heap} {it a : Addr} (x : h.get? it = some (obK k a)) : ItK k h it a 0 := by
  cases k with
  | true => exact ⟨_, x, rfl, rfl⟩
  | false => exact ⟨_, x, rfl, rfl⟩
def ItzK (k1 k2 : Bool) (K : PySem.W.Frag) (a b : Addr) : It :=
  ⟨fun i H => ∃ (xs ys : List V) (x y : V), SqK k1 K H a xs ∧ SqK k2 K H b ys ∧ xs[i]? = some x ∧ ys[i]? = some y,
    fun i H v H' => ∃ T x y, v = .ref T ∧ H T = none ∧ H' = upd H T (.tup [x, y]) ∧ (∀ xs, SqK k1 K H a xs → xs[i]? = some x) ∧ ∀ ys, SqK k2 K H b ys → ys[i]? = some y,
    fun i H => ∃ xs ys : List V, SqK k1 K H a xs ∧ SqK k2 K H b ys ∧ i = min xs.length ys.length⟩
theorem turn_zipK {P : Program} {w : World} {K : PySem.W.Frag} {elts : List Expr} {kk : Nat} {tpos : Pos} {k1 k2 : Bool} {a b z TI TO i1 i2 : Addr} (D : ZipSep2 z TI TO i1 i2 [i1, a] [i2, b]) (ha : a ≠ i1) (hb : b ≠ i2) :
    Turn P w K (.Tuple elts kk tpos) (ItzK k1 k2 K a b) [z, TI, TO, i1, i2] z (fun i h => IsZip h z TI TO .none ∧ IsPair h TI (.ref i1) (.ref i2) ∧ (∃ x y, IsPair h TO x y) ∧ ItK k1 h i1 a i ∧ ItK k2 h i2 b i) where
  mem := by simp
  obj := fun i h st c hc => by
    obtain ⟨hz, hTI, ⟨x, y, hTO⟩, h1, h2⟩ := st
    have e' : c = z ∨ c = TI ∨ c = TO ∨ c = i1 ∨ c = i2 := by simpa using hc
    rcases e' with q | q | q | q | q
    · rw [q]; exact ⟨_, hz, fun v q => nomatch q⟩
    · rw [q]; exact ⟨_, hTI, fun v q => nomatch q⟩
    · rw [q]; exact ⟨_, hTO, fun v q => nomatch q⟩
    · rw [q]; exact itK_ob h1
    · rw [q]; exact itK_ob h2
  keep := fun i h h' st k => by
    obtain ⟨hz, hTI, ⟨x, y, hTO⟩, h1, h2⟩ := st
    exact ⟨k z (by simp) _ hz, k TI (by simp) _ hTI, ⟨x, y, k TO (by simp) _ hTO⟩, itK_at h1 fun o q => k i1 (by simp) o q, itK_at h2 fun o q => k i2 (by simp) o q⟩
  item := by
    intro X hP hw hK hc i pins s σ H E I hf st hg
    subst hP hw hK
    obtain ⟨hz, hTI, ⟨x0, y0, hTO⟩, h1, h2⟩ := st
    obtain ⟨xs, ys, x, y, hqx, hqy, hx, hy⟩ := hg
    obtain ⟨its, rv, p, _⟩ := seq_of I hqx
    obtain ⟨its2, rv2, p2, _⟩ := seq_of I hqy
    obtain ⟨u, hu, ru⟩ := rv.get hx
    obtain ⟨u2, hu2, ru2⟩ := rv2.get hy
    have hzl : z < s.heap.objs.size := Heap.lt_size hz
    have D1 := draws_k (prog := X.prog) (w := X.w) (A := X.A.in1) k1 (I.ok.hd hc) i1 a ha its.toArray
    have D2 := draws_k (prog := X.prog) (w := X.w) (A := X.A.in1) k2 (I.ok.hd hc) i2 b hb its2.toArray
    have l1 : i < its.toArray.size := by rw [List.size_toArray]; exact (List.getElem?_eq_some_iff.mp hu).1
    have l2 : i < its2.toArray.size := by rw [List.size_toArray]; exact (List.getElem?_eq_some_iff.mp hu2).1
    refine wpAny_pyNext_zipD2_item D D1 D2 hz hTI hTO ⟨h1, p⟩ ⟨h2, p2⟩ l1 l2 fun x1 x2 h' tk g1 g2 z' TO' s1' s2' hT hsz hk => ?_
    have e1 : x1 = u := by
      have : its.toArray[i]? = some u := by simpa using hu
      rw [this] at g1
      exact (Option.some.inj g1).symm
    have e2 : x2 = u2 := by
      have : its2.toArray[i]? = some u2 := by simpa using hu2
      rw [this] at g2
      exact (Option.some.inj g2).symm
    subst e1 e2
    refine ⟨_, rfl, wpAny_letOwnedTupleGo_zip (s := { s with heap := h', toks := tk }) z' fun h'' z'' sb => ?_⟩
    have hT2 : h''.get? s.heap.objs.size = some { cls := .type "tuple", data := .seq #[x1, x2] } := (sb.2 _ (Nat.ne_of_gt hzl)).trans hT
    have new : ObjOk X.prog X.w (upd H s.heap.objs.size (.tup [x, y])) h'' s.heap.objs.size (.tup [x, y]) :=
      ⟨by show 2 ≤ sizeLine; decide, [x1, x2], .cons ru (.cons ru2 .nil), ⟨_, hT2, rfl, _, rfl⟩⟩
    have I1 : Inv X pins σ (upd H s.heap.objs.size (.tup [x, y])) { s with heap := h'', toks := tk } :=
      I.turnedNew (t' := tk) (ch := [z, TI, TO, i1, i2]) (fun c o hb q => (sb.2 c (fun q' => hb (by simp [q']))).trans (hk c o (fun q' => hb (by simp [q'])) (fun q' => hb (by simp [q'])) (fun q' => hb (by simp [q'])) (fun q' => hb (by simp [q'])) q)) hf (Nat.le_refl _) new
    refine ⟨.ref s.heap.objs.size, _, I1, rfl, ⟨_, x, y, rfl, I.hok.fresh (Nat.le_refl _), rfl, fun l hl => by rw [seq_inj I hl hqx]; exact hx, fun l hl => by rw [seq_inj I hl hqy]; exact hy⟩, ⟨z'', ?_, ⟨x1, x2, ?_⟩, ?_, ?_⟩, fun c hcm => ?_⟩
    · exact (sb.2 _ D.TIz).trans (hk _ _ D.TIz D.TITO D.TIi1 D.TIi2 hTI)
    · exact (sb.2 _ D.TOz).trans TO'
    · exact itK_at s1'.1 fun o q => (sb.2 _ (fun e => D.zi1 e.symm)).trans q
    · exact itK_at s2'.1 fun o q => (sb.2 _ (fun e => D.zi2 e.symm)).trans q
    · have hlt : c < s.heap.objs.size := by
        have e' : c = z ∨ c = TI ∨ c = TO ∨ c = i1 ∨ c = i2 := by simpa using hcm
        rcases e' with q | q | q | q | q
        · rw [q]; exact hzl
        · rw [q]; exact Heap.lt_size hTI
        · rw [q]; exact Heap.lt_size hTO
        · rw [q]; obtain ⟨_, e1, _⟩ := itK_ob h1; exact Heap.lt_size e1
        · rw [q]; obtain ⟨_, e2, _⟩ := itK_ob h2; exact Heap.lt_size e2
      rw [upd_ne (Nat.ne_of_lt hlt)]
      exact (hf c hcm).1
  done := by
    intro X hP hw hK hc i pins s σ H E I hf st hg
    subst hP hw hK
    obtain ⟨hz, hTI, ⟨x0, y0, hTO⟩, h1, h2⟩ := st
    obtain ⟨xs, ys, hqx, hqy, hend⟩ := hg
    obtain ⟨its, rv, p, _⟩ := seq_of I hqx
    obtain ⟨its2, rv2, p2, _⟩ := seq_of I hqy
    have l1 := rv.length
    have l2 := rv2.length
    have D1 := draws_k (prog := X.prog) (w := X.w) (A := X.A.in1) k1 (I.ok.hd hc) i1 a ha its.toArray
    have D2 := draws_k (prog := X.prog) (w := X.w) (A := X.A.in1) k2 (I.ok.hd hc) i2 b hb its2.toArray
    exact wpAny_pyNext_zipD2_end D D1 D2 hz hTI hTO ⟨h1, p⟩ ⟨h2, p2⟩ (by rw [List.size_toArray]; omega) (by rw [List.size_toArray]; omega) (by rw [List.size_toArray, List.size_toArray]; omega) fun h' tk hk => ⟨rfl, I.turnedL (t' := tk) (ch := [z, TI, TO, i1, i2]) (fun c o hb q =>
      hk c o (fun q' => hb (by simp [q'])) (fun q' => hb (by simp [q'])) (fun q' => hb (by simp [q'])) (fun q' => hb (by simp [q'])) q) hf⟩
  self := fun A i s Q E st h => wpAny_pyIter_zip st.1 h
def iZipK (K : PySem.W.Frag) (ta : TA) : TI := fun σ H R => ta σ H fun vs H1 => ∃ k1 k2 a b xs ys, vs = [.ref a, .ref b] ∧ SqK k1 K H1 a xs ∧ SqK k2 K H1 b ys ∧ R (ItzK k1 k2 K a b) H1
theorem isK_lt {k : Bool} {h : Heap} {a : Addr} {its : Array Value} (x : IsK k h a its) : a < h.objs.size := by
  cases k with
  | true => obtain ⟨o, e, _⟩ := (show h.IsList a its from x); exact Heap.lt_size e
  | false => obtain ⟨o, e, _⟩ := (show h.IsTuple a its from x); exact Heap.lt_size e
theorem pi_zipK {X : Cx} {e e2 : Expr} {ta : TA} {p pos tpos : Pos} {elts : List Expr} {kk : Nat} (hg : Gl X "zip") (hm : X.mg "zip" = none) (ha : PA X [e, e2] ta)
    (hs : starEach [e, e2] X.env = (false, eval e X.env) :: starEach [e2] X.env) (hpl : (backTo pos (starEach [e2] X.env)).any (·.1) = false) :
    PI X (.Tuple elts kk tpos) (.Call (.Name "zip" p) [e, e2] [] pos) (iZipK X.K ta) := by
  refine ⟨fun pins s σ H R I h => ?_⟩
  refine Call_ (ld_blt I hg hm PyProof.Rows.boot_zip (PyProof.Rows.callWith_type1 (thn (ha.run pos pins s σ H _ I h) fun us s1 ⟨vs, H1, I1, r1, q1⟩ => ?_) hs hpl))
  obtain ⟨k1, k2, a, b, xs, ys, ex, hqx, hqy, q⟩ := q1
  subst ex
  cases r1 with
  | cons r rr =>
    cases rr with
    | cons r' rr =>
      cases rr
      cases r
      cases r'
      obtain ⟨its, rv, p1, _⟩ := seq_of I1 hqx
      obtain ⟨its2, rv2, p2, _⟩ := seq_of I1 hqy
      have la : a < s1.heap.objs.size := isK_lt p1
      have lb : b < s1.heap.objs.size := isK_lt p2
      refine zip_begins2 (begins_k k1 a its.toArray) (begins_k k2 b its2.toArray) p1 p2 fun h' hz hTI hTO h1 h2 hsz hk => wpAny_pyIter_zip hz ?_
      have I2 : Inv X pins σ H1 { s1 with heap := h' } := I1.kept (t' := s1.toks) hk
      have sep : ZipSep2 (s1.heap.objs.size + 4) (s1.heap.objs.size + 2) (s1.heap.objs.size + 3) s1.heap.objs.size (s1.heap.objs.size + 1) (s1.heap.objs.size :: [a]) ((s1.heap.objs.size + 1) :: [b]) :=
        zip_sep2 (fun c hc => by rw [List.mem_singleton.mp hc]; exact la) (fun c hc => by rw [List.mem_singleton.mp hc]; exact lb)
      refine ⟨s1.heap.objs.size + 4, [s1.heap.objs.size + 4, s1.heap.objs.size + 2, s1.heap.objs.size + 3, s1.heap.objs.size, s1.heap.objs.size + 1], _, _, H1, rfl, I2, turn_zipK sep (Nat.ne_of_lt la) (Nat.ne_of_lt (Nat.lt_succ_of_lt lb)), ⟨hz, hTI, ⟨_, _, hTO⟩, itK_new h1, itK_new h2⟩, fun c hcm => ?_, q⟩
      have e' : c = s1.heap.objs.size + 4 ∨ c = s1.heap.objs.size + 2 ∨ c = s1.heap.objs.size + 3 ∨ c = s1.heap.objs.size ∨ c = s1.heap.objs.size + 1 := by simpa using hcm
      have hle : s1.heap.objs.size ≤ c := by
        rcases e' with z | z | z | z | z
        · rw [z]; exact Nat.le_add_right _ _
        · rw [z]; exact Nat.le_add_right _ _
        · rw [z]; exact Nat.le_add_right _ _
        · rw [z]; exact Nat.le_refl _
        · rw [z]; exact Nat.le_add_right _ _
      exact I1.fpOk hle (I1.hok.fresh hle)
theorem walk_zipK {K : PySem.W.Frag} {k1 k2 : Bool} {a b : Addr} {xs ys : List V} {n : Nat} (hn : n = min xs.length ys.length) : Walk (ItzK k1 k2 K a b) n (fun H => SqK k1 K H a xs ∧ SqK k2 K H b ys) (YPair (fun i => xs[i]?) (fun i => ys[i]?)) := by
  subst hn
  refine ⟨fun i _ hi q => ?_, fun _ q => ⟨xs, ys, q.1, q.2, rfl⟩, fun i H v H' _ q y => ?_⟩
  · have h1 : i < xs.length := by omega
    have h2 : i < ys.length := by omega
    exact ⟨xs, ys, xs[i], ys[i], q.1, q.2, by simp [h1], by simp [h2]⟩
  · obtain ⟨T, x, z, h1, h2, h3, h4, h5⟩ := y
    exact ⟨T, x, z, h1, h2, h3, h4 xs q.1, h5 ys q.2⟩
/-! enumerate -/
theorem meets_enumerate_newB0 {v : Value} {o : Obj} {H : Heap → Prop} (B : Begins v o H) :
    Meets (Builtin.«enumerate.__new__» ⟨[.type "enumerate", v], []⟩) (fun _ R s => H s.heap ∧
      R (.ok (.ret (.ref (s.heap.push o).objs.size))) { s with heap := (s.heap.push o).push { cls := .type "enumerate", data := .fields #[.none, .bool false, .ref s.heap.objs.size, rawInt 0, .none, .none] } }) :=
  .of_wp fun prog w A R s h => by
    obtain ⟨hp, g, d, tk, os⟩ := s; obtain ⟨h1, h⟩ := h
    have hsub := sub_enumerate
    have q1 : ∀ {A' : Around} {E : Value → Shared → Prop} {Q : Value → Shared → Prop}, Q (.ref hp.objs.size) ⟨hp.push o, g, d, tk, os⟩ → wpAny (model prog w) A' (pyIter v) Q E ⟨hp, g, d, tk, os⟩ :=
      fun q => B.iter prog w _ _ ⟨hp, g, d, tk, os⟩ _ h1 q
    wp_walk using q1
    refine wpAny_stack_any fun st => wpAny_pure ?_
    split
    · rename_i c _ _ _ _ _
      cases (c == Value.type "enumerate")
      · wp_walk using q1
        exact ⟨_, rfl, h⟩
      · wp_walk using q1
        exact ⟨_, rfl, h⟩
    · wp_walk using q1
      exact ⟨_, rfl, h⟩
theorem enum_begins0 {prog : Program} {w : World} {A : Around} {E : Value → Shared → Prop} {s : Shared} {v : Value} {o : Obj} {H : Heap → Prop} {Q : Value → Shared → Prop} (B : Begins v o H) (h1 : H s.heap)
    (h : ∀ h', IsEnum h' (s.heap.objs.size + 1) s.heap.objs.size 0 .none → h'.get? s.heap.objs.size = some o → h'.objs.size = s.heap.objs.size + 2 →
      (∀ b o, s.heap.get? b = some o → h'.get? b = some o) → Q (.ref (s.heap.objs.size + 1)) { s with heap := h' }) :
    wpAny (model prog w) A (call (.type "enumerate") [v]) Q E s := by
  refine callType_new F.called_enumerate (by decide) (F.typeCall_enumerate_1 _) (F.newCall_enumerate_1 _) (fun obj => F.args_object_init_2 obj _) F.entry_enumerate_new
    (meets_enumerate_newB0 B) ⟨h1, ?_⟩
  have hz : (s.heap.push o).objs.size = s.heap.objs.size + 1 := Heap.size_push ..
  show _ ∧ _
  rw [hz]
  have he : IsEnum ((s.heap.push o).push { cls := .type "enumerate", data := .fields #[.none, .bool false, .ref s.heap.objs.size, rawInt 0, .none, .none] }) (s.heap.objs.size + 1) s.heap.objs.size 0 .none := by
    have := Heap.get?_push_size (s.heap.push o) (o := { cls := .type "enumerate", data := .fields #[.none, .bool false, .ref s.heap.objs.size, rawInt 0, .none, .none] }) rfl
    rw [hz] at this; exact this
  refine ⟨⟨_, he, rfl⟩, h _ he (Heap.get?_push_of_some _ (Heap.get?_push_size _ B.free)) (by rw [Heap.size_push, hz]) fun b o x => Heap.get?_push_of_some _ (Heap.get?_push_of_some _ x)⟩
def IteK (k : Bool) (K : PySem.W.Frag) (a : Addr) : It :=
  ⟨fun i H => ∃ (xs : List V) (x : V), SqK k K H a xs ∧ xs[i]? = some x, fun i H v H' => ∃ T x, v = .ref T ∧ H T = none ∧ H' = upd H T (.tup [.int (i : Nat), x]) ∧ ∀ xs, SqK k K H a xs → xs[i]? = some x, fun i H => ∃ xs : List V, SqK k K H a xs ∧ xs.length = i⟩
theorem turn_enumK {P : Program} {w : World} {K : PySem.W.Frag} {elts : List Expr} {kk : Nat} {tpos : Pos} {k : Bool} {a e it : Addr} (hne : e ≠ it) (hea : e ≠ a) (hai : a ≠ it) :
    Turn P w K (.Tuple elts kk tpos) (IteK k K a) [e, it] e (fun i h => (∃ old, IsEnum h e it ((i : Nat) : Int) old) ∧ ItK k h it a i) where
  mem := by simp
  obj := fun i h st b hb => by
    obtain ⟨⟨old, he⟩, h1⟩ := st
    have e' : b = e ∨ b = it := by simpa using hb
    rcases e' with z | z
    · rw [z]; exact ⟨_, he, fun v q => nomatch q⟩
    · rw [z]; exact itK_ob h1
  keep := fun i h h' st k => let ⟨⟨old, he⟩, hi⟩ := st; ⟨⟨old, k e (by simp) _ he⟩, itK_at hi fun o q => k it (by simp) o q⟩
  item := by
    intro X hP hw hK hc i pins s σ H E I hf st hg
    subst hP hw hK
    obtain ⟨⟨old, he⟩, hit⟩ := st
    obtain ⟨xs, x, hq, hx⟩ := hg
    obtain ⟨its, rv, p, hz⟩ := seq_of I hq
    obtain ⟨u, hu, ru⟩ := rv.get hx
    have hel : e < s.heap.objs.size := Heap.lt_size he
    have hil : it < s.heap.objs.size := by obtain ⟨_, q, _⟩ := itK_ob hit; exact Heap.lt_size q
    have D1 := draws_k (prog := X.prog) (w := X.w) (A := X.A.in1) k (I.ok.hd hc) it a hai its.toArray
    have l1 : i < its.toArray.size := by rw [List.size_toArray]; exact (List.getElem?_eq_some_iff.mp hu).1
    refine wpAny_pyNext_enum_itemD D1 he ⟨hit, p⟩ l1 hne (by simp [hne, hea]) fun x1 h' tk g1 ho st' hT hsz hk => ?_
    have e1 : x1 = u := by
      have : its.toArray[i]? = some u := by simpa using hu
      rw [this] at g1
      exact (Option.some.inj g1).symm
    subst e1
    refine ⟨_, rfl, wpAny_letOwnedTupleGo_enum (s := { s with heap := h', toks := tk + 1 }) ho fun h'' he' sb => ?_⟩
    have hT2 : h''.get? s.heap.objs.size = some { cls := .type "tuple", data := .seq #[.int i tk, x1] } := (sb.2 _ (Nat.ne_of_gt hel)).trans hT
    have new : ObjOk X.prog X.w (upd H s.heap.objs.size (.tup [.int (i : Nat), x])) h'' s.heap.objs.size (.tup [.int (i : Nat), x]) :=
      ⟨by show 2 ≤ sizeLine; decide, [.int i tk, x1], .cons ⟨_, rfl⟩ (.cons ru .nil), ⟨_, hT2, rfl, _, rfl⟩⟩
    have I1 : Inv X pins σ (upd H s.heap.objs.size (.tup [.int (i : Nat), x])) { s with heap := h'', toks := tk + 1 } :=
      I.turnedNew (ch := [e, it]) (fun b ob hb q => (sb.2 b (fun z => hb (by simp [z]))).trans (hk b ob (fun z => hb (by simp [z])) (fun z => hb (by simp [z])) q)) hf (Nat.le_refl _) new
    refine ⟨.ref s.heap.objs.size, _, I1, rfl, ⟨_, x, rfl, I.hok.fresh (Nat.le_refl _), rfl, fun ys hy => by rw [seq_inj I hy hq]; exact hx⟩, ⟨⟨x1, ?_⟩, itK_at st'.1 fun o q => (sb.2 it (Ne.symm hne)).trans q⟩, fun b hb => ?_⟩
    · have e1 : ((i + 1 : Nat) : Int) = (i : Int) + 1 := by omega
      rw [e1]; exact he'
    · have hb' : b < s.heap.objs.size := by
        have e' : b = e ∨ b = it := by simpa using hb
        rcases e' with z | z
        · rw [z]; exact hel
        · rw [z]; exact hil
      rw [upd_ne (Nat.ne_of_lt hb')]
      exact (hf b hb).1
  done := by
    intro X hP hw hK hc i pins s σ H E I hf st hg
    subst hP hw hK
    obtain ⟨⟨old, he⟩, hit⟩ := st
    obtain ⟨xs, hq, hx⟩ := hg
    obtain ⟨its, rv, p, hz⟩ := seq_of I hq
    have hl := rv.length
    have D1 := draws_k (prog := X.prog) (w := X.w) (A := X.A.in1) k (I.ok.hd hc) it a hai its.toArray
    have W := WalksT.enumerateD D1 e hne (by simp [hne, hea]) (by simp)
    subst hx
    have hs : its.toArray.size = xs.length := by rw [List.size_toArray]; omega
    refine W.done s _ _ ⟨⟨old, by rw [hs]; exact he⟩, by rw [hs]; exact ⟨hit, p⟩⟩ fun h' tk hk => ?_
    exact ⟨rfl, I.turnedL (t' := tk) (ch := [e, it]) (fun c o hb q => hk c o hb q) hf⟩
  self := fun A i s Q E st h => wpAny_pyIter_enum st.1.choose_spec h
def iEnumK (K : PySem.W.Frag) (ta : TA) : TI := fun σ H R => ta σ H fun vs H1 => ∃ k a xs, vs = [.ref a] ∧ SqK k K H1 a xs ∧ R (IteK k K a) H1
theorem pi_enumK {X : Cx} {e : Expr} {ta : TA} {p pos tpos : Pos} {elts : List Expr} {kk : Nat} (hg : Gl X "enumerate") (hm : X.mg "enumerate" = none) (ha : PA X [e] ta) (hs : starEach [e] X.env = [(false, eval e X.env)]) :
    PI X (.Tuple elts kk tpos) (.Call (.Name "enumerate" p) [e] [] pos) (iEnumK X.K ta) := by
  refine ⟨fun pins s σ H R I h => ?_⟩
  refine Call_ (ld_blt I hg hm boot_enumerate (PyProof.Rows.callWith_type1 (thn (ha.run pos pins s σ H _ I h) fun us s1 ⟨vs, H1, I1, r1, q1⟩ => ?_) hs rfl))
  obtain ⟨k, a, xs, ex, hq, q⟩ := q1
  subst ex
  cases r1 with
  | cons r rr =>
    cases rr
    cases r
    obtain ⟨its, rv, p', hz⟩ := seq_of I1 hq
    have la : a < s1.heap.objs.size := isK_lt p'
    refine enum_begins0 (begins_k k a its.toArray) p' fun h' he hit hsz hk => wpAny_pyIter_enum he ?_
    have I2 : Inv X pins σ H1 { s1 with heap := h' } := I1.kept (t' := s1.toks) hk
    refine ⟨s1.heap.objs.size + 1, [s1.heap.objs.size + 1, s1.heap.objs.size], _, _, H1, rfl, I2, turn_enumK (a := a) (e := s1.heap.objs.size + 1) (it := s1.heap.objs.size) (Nat.succ_ne_self _) (Nat.ne_of_gt (Nat.lt_succ_of_lt la)) (Nat.ne_of_lt la), ⟨⟨.none, he⟩, itK_new hit⟩, fun b hb => ?_, q⟩
    have e' : b = s1.heap.objs.size + 1 ∨ b = s1.heap.objs.size := by simpa using hb
    have hle : s1.heap.objs.size ≤ b := by
      rcases e' with z | z
      · rw [z]; exact Nat.le_succ _
      · rw [z]; exact Nat.le_refl _
    exact I1.fpOk hle (I1.hok.fresh hle)
theorem walk_enumK {K : PySem.W.Frag} {k : Bool} {a : Addr} {xs : List V} : Walk (IteK k K a) xs.length (fun H => SqK k K H a xs) (YPair (fun i => some (.int (i : Nat))) (fun i => xs[i]?)) := by
  refine ⟨fun i _ hi q => ⟨xs, xs[i], q, by simp [hi]⟩, fun _ q => ⟨xs, q, rfl⟩, fun i H v H' _ q y => ?_⟩
  obtain ⟨T, x, h1, h2, h3, h4⟩ := y
  exact ⟨T, .int (i : Nat), x, h1, h2, h3, rfl, h4 xs q⟩
/-! a list or a tuple as it is -/
def iSeqK (K : PySem.W.Frag) (tl : TE) : TI := fun σ H R => tl σ H fun x H1 => ∃ a, x = .ref a ∧ ((∃ xs, SqL K H1 a xs) ∧ R (Itl K a) H1 ∨ (∃ xs, SqT K H1 a xs) ∧ R (Itt K a) H1)
theorem pi_seqK {X : Cx} {tg l : Expr} {tl : TE} (hl : PE X l tl) : PI X tg l (iSeqK X.K tl) := by
  refine ⟨fun pins s σ H R I h => ?_⟩
  refine thn (hl.run pins s σ H _ I h) fun u s1 ⟨x, H1, I1, r1, a, e, q⟩ => ?_
  subst e
  cases r1
  rcases q with ⟨⟨xs, hq⟩, q⟩ | ⟨⟨xs, hq⟩, q⟩
  · obtain ⟨its, rv, p', hz⟩ := I1.list hq
    refine wpAny_pyIter_list p'.isList (pi_one (tk := s1.toks) I1 _ (turn_list a _) ?_ q)
    exact ⟨_, Heap.get?_push_size _ rfl, rfl, rfl⟩
  · obtain ⟨its, rv, p', hz⟩ := I1.tuple hq
    refine wpAny_pyIter_tuple p' (pi_one (tk := s1.toks) I1 _ (turn_tuple a _) ?_ q)
    exact ⟨_, Heap.get?_push_size _ rfl, rfl, rfl⟩
end PD
end

section
set_option Elab.async false
set_option linter.all false
set_option maxRecDepth 100000
set_option maxHeartbeats 1000000
namespace PD
open PySem PySem.Spec PyProof.Rows L2
variable {X : Cx} {W : WX} {pos : Pos} {e e1 e2 : Expr} {es : List Expr} {f g : M PyData} {fs : M (List PyData)}
variable {K : PySem.W.Frag} {ph : Fx} {am am' : Am} {H H' : Hp} {σ : L2.St} {δ δ' : Sg} {p : Addr}

theorem seqT_hid {a : Addr} {xs : List V} (q : hid ph am H a = some (.tup xs)) : SqT K H a xs := .inl (.inl (hid_sub _ _ q))
theorem rd_hid {a : Addr} {xs : List V} (q : SqL K (hid ph am H) a xs) : SqL K H a xs := hid_sub.seq q
/-- a new object is not hidden -/
theorem new_hid {o : HO} (hn : ∀ b, Hid ph am b → ∃ o, H b = some o) (h : H p = none) : hid ph am (upd H p o) p = some o :=
  hid_some.mpr ⟨fun q => (by
    obtain ⟨o, e⟩ := hn p q
    rw [h] at e
    cases e), upd_same⟩
theorem new_tup {xs : List V} {ds : List PyData} (hn : ∀ b, Hid ph am b → ∃ o, H b = some o) (h : H p = none) (d : DqAll K (hid ph am H) xs ds) : Dq K (hid ph am (upd H p (.tup xs))) (.ref p) (.tuple ds) :=
  .tup (new_hid hn h) (dps_mono (hid_same (same_new h)) d)
theorem new_lst {xs : List V} {ds : List PyData} (hn : ∀ b, Hid ph am b → ∃ o, H b = some o) (h : H p = none) (d : DqAll K (hid ph am H) xs ds) : Dq K (hid ph am (upd H p (.lst xs))) (.ref p) (.list ds) :=
  .lst (.inl (.inl (new_hid hn h))) (dps_mono (hid_same (same_new h)) d)
theorem OpD.or {r r' : R2} {F G : PyData → PyData → Option PyData} (h : OpD X r F) (h' : OpD X r' G) : OpD X (fun x y H Q => r x y H Q ∨ r' x y H Q) (fun a b => match F a b with | some c => some c | none => G a b) := by
  intro ph am H x y d e c Q hn dx dy q k
  simp only at q
  cases hF : F d e with
  | some c' =>
    rw [hF] at q
    cases q
    exact .inl (h ph am H x y d e _ Q hn dx dy hF k)
  | none =>
    rw [hF] at q
    exact .inr (h' ph am H x y d e _ Q hn dx dy q k)

/-! ### ints -/
def intsD (F : Int → Int → Option PyData) : PyData → PyData → Option PyData
  | .int i, .int j => F i j
  | _, _ => none
theorem opd_rI0 {gv : Int → Int → V} {gd : Int → Int → PyData} (h : ∀ H i j, Dq X.K H (gv i j) (gd i j)) : OpD X (rI0 gv) (intsD fun i j => some (gd i j)) := by
  intro ph am H x y d e c Q hn dx dy q k
  cases dx with
  | int i =>
    cases dy with
    | int j =>
      cases q
      exact ⟨i, j, rfl, rfl, k _ H (Same.refl H) (h _ i j)⟩
    | _ => cases q
  | _ => cases q
theorem opd_rI {C : Int → Int → Prop} {Cb : Int → Int → Bool} {gv : Int → Int → V} {gd : Int → Int → PyData} (h : ∀ H i j, Dq X.K H (gv i j) (gd i j)) (hc : ∀ i j, Cb i j = true → C i j) : OpD X (rI C gv) (intsD fun i j => if Cb i j = true then some (gd i j) else none) := by
  intro ph am H x y d e c Q hn dx dy q k
  cases dx with
  | int i =>
    cases dy with
    | int j =>
      obtain ⟨h1, rfl⟩ := if_some q
      exact ⟨i, j, rfl, rfl, hc i j h1, k _ H (Same.refl H) (h _ i j)⟩
    | _ => cases q
  | _ => cases q
def small64 (i : Int) : Bool := decide (-(2 ^ 64) < i) && decide (i < 2 ^ 64)
def mulOk (i j : Int) : Bool := small64 i || small64 j
def subD : PyData → PyData → Option PyData := intsD fun i j => some (.int (i - j))
theorem opd_sub : OpD X (rI0 fun i j => .int (i - j)) subD := opd_rI0 fun _ i j => .int _
def mulI : PyData → PyData → Option PyData := intsD fun i j => if mulOk i j = true then some (.int (i * j)) else none
theorem opd_mulI : OpD X (rI CMul fun i j => .int (i * j)) mulI := opd_rI (fun _ i j => .int _) fun i j h => by
  unfold mulOk small64 at h
  simp only [Bool.or_eq_true, Bool.and_eq_true, decide_eq_true_eq] at h
  exact h
def divOk (j : Int) : Bool := decide (j ≠ 0) && decide (j.natAbs < 1073741824)
def fdivD : PyData → PyData → Option PyData := intsD fun i j => if divOk j = true then some (.int (i.fdiv j)) else none
theorem opd_fdiv : OpD X (rI CDivN fun i j => .int (i.fdiv j)) fdivD := opd_rI (Cb := fun _ j => divOk j) (fun _ i j => .int _) fun i j h => by
  unfold divOk at h
  simp only [Bool.and_eq_true, decide_eq_true_eq] at h
  exact h
def modD : PyData → PyData → Option PyData := intsD fun i j => if decide (j ≠ 0) = true then some (.int (i.fmod j)) else none
theorem opd_mod : OpD X (rI (fun _ j => j ≠ 0) fun i j => .int (i.fmod j)) modD := opd_rI (Cb := fun _ j => decide (j ≠ 0)) (fun _ i j => .int _) fun i j h => of_decide_eq_true h
def powOk (i j : Int) : Bool := decide (0 ≤ j) && decide (j ≤ 1000000) && decide (i.natAbs < 2 ^ 64)
def powD : PyData → PyData → Option PyData := intsD fun i j => if powOk i j = true then some (.int (i ^ j.toNat)) else none
theorem opd_pow : OpD X (rI CPow fun i j => .int (i ^ j.toNat)) powD := opd_rI (Cb := powOk) (fun _ i j => .int _) fun i j h => by
  unfold powOk at h
  simp only [Bool.and_eq_true, decide_eq_true_eq] at h
  exact ⟨h.1.1, h.1.2, h.2⟩
def addI : PyData → PyData → Option PyData := intsD fun i j => some (.int (i + j))
theorem opd_addI : OpD X (rI0 fun i j => .int (i + j)) addI := opd_rI0 fun _ i j => .int _
/-! ### tuples, lists -/
def catT : PyData → PyData → Option PyData
  | .tuple xs, .tuple ys => if xs.length + ys.length ≤ sizeLine then some (.tuple (xs ++ ys)) else none
  | _, _ => none
theorem opd_catT : OpD X (rCatA X.K) catT := by
  intro ph am H x y d e c Q hn dx dy q k
  cases dx with
  | tup h1 a1 =>
    cases dy with
    | tup h2 a2 =>
      rename_i a xs ds b ys es
      obtain ⟨hz, rfl⟩ := if_some q
      have l1 := a1.length
      have l2 := a2.length
      refine ⟨a, b, xs, ys, rfl, rfl, seqT_hid h1, seqT_hid h2, by omega, fun e => ?_, fun _ e => ?_, fun _ _ p np => ?_⟩
      · subst e
        cases a1
        exact k _ H (Same.refl H) (.tup h2 a2)
      · subst e
        cases a2
        rw [List.append_nil] at k
        exact k _ H (Same.refl H) (.tup h1 a1)
      · exact k _ _ (same_new np) (new_tup hn np (a1.append a2))
    | _ => cases q
  | _ => cases q
def catL : PyData → PyData → Option (List PyData)
  | .list xs, .list ys => if xs.length + ys.length ≤ sizeLine then some (xs ++ ys) else none
  | _, _ => none
theorem opf_catL : OpF X (rCatL X.K) catL := by
  intro ph am H x y d e c Q hn dx dy q k
  cases dx with
  | lst h1 a1 =>
    cases dy with
    | lst h2 a2 =>
      rename_i a xs ds b ys es
      obtain ⟨hz, rfl⟩ := if_some q
      have l1 := a1.length
      have l2 := a2.length
      exact ⟨a, b, xs, ys, rfl, rfl, rd_hid h1, rd_hid h2, by omega, fun p np => k p _ np (a1.append a2) (by rw [List.length_append]; omega)⟩
    | _ => cases q
  | _ => cases q
theorem OpF.d {r : R2} {F : PyData → PyData → Option (List PyData)} (h : OpF X r F) : OpD X r (fun a b => (F a b).map .list) := by
  intro ph am H x y d e c Q hn dx dy q k
  simp only at q
  cases hF : F d e with
  | none => rw [hF] at q; cases q
  | some cs =>
    rw [hF] at q
    cases q
    exact h ph am H x y d e cs Q hn dx dy hF fun p vs np dv hz => k _ _ (same_new np) (new_lst hn np dv)
def repT : PyData → PyData → Option PyData
  | .tuple xs, .int k => if -(2 ^ 63) ≤ k ∧ k ≤ 1000 ∧ xs.length ≤ 1000 then some (.tuple (List.replicate k.toNat xs).flatten) else none
  | _, _ => none
theorem DqAll.flat {vs : List V} {ds : List PyData} (h : DqAll K H vs ds) : ∀ n, DqAll K H (List.replicate n vs).flatten (List.replicate n ds).flatten
  | 0 => .nil
  | n + 1 => by
    rw [List.replicate_succ, List.replicate_succ, List.flatten_cons, List.flatten_cons]
    exact h.append (DqAll.flat h n)
theorem opd_repT : OpD X (rRepA X.K) repT := by
  intro ph am H x y d e c Q hn dx dy q k
  cases dx with
  | tup h1 a1 =>
    cases dy with
    | int n =>
      rename_i a xs ds
      obtain ⟨⟨z1, z2, z3⟩, rfl⟩ := if_some q
      have l1 := a1.length
      refine ⟨a, n, xs, rfl, rfl, seqT_hid h1, z1, z2, by omega, fun e => ?_, fun _ _ p np => ?_⟩
      · have e' : (List.replicate n.toNat ds).flatten = ds := by
          rcases e with e | e
          · subst e
            cases a1
            rw [List.flatten_replicate_nil]
          · subst e
            show (List.replicate 1 ds).flatten = ds
            simp
        rw [e'] at k
        exact k _ H (Same.refl H) (.tup h1 a1)
      · exact k _ _ (same_new np) (new_tup hn np (a1.flat _))
    | _ => cases q
  | _ => cases q
/-! ### the operators at any data -/
def addD : PyData → PyData → Option PyData := fun a b => match addI a b with | some c => some c | none => (fun a b => match catT a b with | some c => some c | none => (fun a b => (catL a b).map .list) a b) a b
theorem de_add (ha : DE X W e1 f) (hb : DE X W e2 g) : DE X W (.BinOp e1 .Add e2 pos) (xBin addD f g) :=
  de_bin (opd_addI.or (opd_catT.or opf_catL.d)) (op_add.or (op_catA.or op_catL)) ha hb
theorem df_cat (ha : DE X W e1 f) (hb : DE X W e2 g) : DF X W (.BinOp e1 .Add e2 pos) (xBinF catL f g) :=
  binF_core opf_catL ha hb fun _ _ pa pb => pe_op op_catL pa pb
theorem de_sub (ha : DE X W e1 f) (hb : DE X W e2 g) : DE X W (.BinOp e1 .Sub e2 pos) (xBin subD f g) := de_bin opd_sub op_sub ha hb
def mulD : PyData → PyData → Option PyData := fun a b => match mulI a b with | some c => some c | none => repT a b
theorem de_mul (ha : DE X W e1 f) (hb : DE X W e2 g) : DE X W (.BinOp e1 .Mult e2 pos) (xBin mulD f g) := de_bin (opd_mulI.or opd_repT) (op_mul.or op_repA) ha hb
theorem de_fdiv (ha : DE X W e1 f) (hb : DE X W e2 g) : DE X W (.BinOp e1 .FloorDiv e2 pos) (xBin fdivD f g) := de_bin opd_fdiv op_fdivN ha hb
theorem de_mod (ha : DE X W e1 f) (hb : DE X W e2 g) : DE X W (.BinOp e1 .Mod e2 pos) (xBin modD f g) := de_bin opd_mod op_modN ha hb
theorem de_pow (ha : DE X W e1 f) (hb : DE X W e2 g) : DE X W (.BinOp e1 .Pow e2 pos) (xBin powD f g) := de_bin opd_pow op_pow ha hb
/-! ### comparisons -/
def ltD : PyData → PyData → Option PyData := intsD fun i j => some (.bool (decide (i < j)))
def leD : PyData → PyData → Option PyData := intsD fun i j => some (.bool (decide (i ≤ j)))
def gtD : PyData → PyData → Option PyData := intsD fun i j => some (.bool (decide (j < i)))
def geD : PyData → PyData → Option PyData := intsD fun i j => some (.bool (decide (j ≤ i)))
theorem opd_lt : OpD X (rI0 fun i j => .bl (decide (i < j))) ltD := opd_rI0 fun _ i j => .bl _
theorem opd_le : OpD X (rI0 fun i j => .bl (decide (i ≤ j))) leD := opd_rI0 fun _ i j => .bl _
theorem opd_gt : OpD X (rI0 fun i j => .bl (decide (j < i))) gtD := opd_rI0 fun _ i j => .bl _
theorem opd_ge : OpD X (rI0 fun i j => .bl (decide (j ≤ i))) geD := opd_rI0 fun _ i j => .bl _
theorem de_lt (ha : DE X W e1 f) (hb : DE X W e2 g) : DE X W (.Compare e1 [.Lt] [e2] pos) (xBin ltD f g) := de_cmp opd_lt op_lt (nomark _) ha hb
theorem de_le (ha : DE X W e1 f) (hb : DE X W e2 g) : DE X W (.Compare e1 [.LtE] [e2] pos) (xBin leD f g) := de_cmp opd_le op_le (nomark _) ha hb
theorem de_gt (ha : DE X W e1 f) (hb : DE X W e2 g) : DE X W (.Compare e1 [.Gt] [e2] pos) (xBin gtD f g) := de_cmp opd_gt op_gt (nomark _) ha hb
theorem de_ge (ha : DE X W e1 f) (hb : DE X W e2 g) : DE X W (.Compare e1 [.GtE] [e2] pos) (xBin geD f g) := de_cmp opd_ge op_ge (nomark _) ha hb
def eqD (a b : PyData) : Option PyData := if SeqAt.shaped a = true ∧ SeqAt.shaped b = true then some (.bool (PyData.eqv a b)) else none
def neD (a b : PyData) : Option PyData := if SeqAt.shaped a = true ∧ SeqAt.shaped b = true then some (.bool (!PyData.eqv a b)) else none
theorem opd_eq : OpD X (rEqD X.K) eqD := by
  intro ph am H x y d e c Q hn dx dy q k
  obtain ⟨⟨h1, h2⟩, rfl⟩ := if_some q
  exact ⟨d, e, (dp_mono hid_sub dx).dp, (dp_mono hid_sub dy).dp, h1, h2, k _ H (Same.refl H) (.bl _)⟩
theorem opd_ne : OpD X (rNeD X.K) neD := by
  intro ph am H x y d e c Q hn dx dy q k
  obtain ⟨⟨h1, h2⟩, rfl⟩ := if_some q
  exact ⟨d, e, (dp_mono hid_sub dx).dp, (dp_mono hid_sub dy).dp, h1, h2, k _ H (Same.refl H) (.bl _)⟩
theorem de_eq (hu : X.A.units + 64 < cLine) (ha : DE X W e1 f) (hb : DE X W e2 g) : DE X W (.Compare e1 [.Eq] [e2] pos) (xBin eqD f g) := de_cmp opd_eq (op_eqD hu) (nomark _) ha hb
theorem de_ne (hu : X.A.units + 64 < cLine) (ha : DE X W e1 f) (hb : DE X W e2 g) : DE X W (.Compare e1 [.NotEq] [e2] pos) (xBin neD f g) := de_cmp opd_ne (op_neD hu) (nomark _) ha hb
def isNone : PyData → Bool
  | .none => true
  | _ => false
def isD (a b : PyData) : Option PyData := if isNone b = true then some (.bool (isNone a)) else none
def isnotD (a b : PyData) : Option PyData := if isNone b = true then some (.bool (!isNone a)) else none
theorem dq_none {v : V} {d : PyData} (h : Dq K H v d) : isNone d = decide (v = .non) := by cases h <;> rfl
theorem opd_is : OpD X (fun x y H Q => y = .non ∧ Q (.bl (decide (x = .non))) H) isD := by
  intro ph am H x y d e c Q hn dx dy q k
  obtain ⟨h1, rfl⟩ := if_some q
  refine ⟨?_, ?_⟩
  · rw [dq_none dy] at h1
    exact of_decide_eq_true h1
  · rw [dq_none dx] at k
    exact k _ H (Same.refl H) (.bl _)
theorem opd_isnot : OpD X (fun x y H Q => y = .non ∧ Q (.bl (!decide (x = .non))) H) isnotD := by
  intro ph am H x y d e c Q hn dx dy q k
  obtain ⟨h1, rfl⟩ := if_some q
  refine ⟨?_, ?_⟩
  · rw [dq_none dy] at h1
    exact of_decide_eq_true h1
  · rw [dq_none dx] at k
    exact k _ H (Same.refl H) (.bl _)
theorem de_is (ha : DE X W e1 f) (hb : DE X W e2 g) : DE X W (.Compare e1 [.Is] [e2] pos) (xBin isD f g) := de_cmp opd_is op_isN (nomark _) ha hb
theorem de_isnot (ha : DE X W e1 f) (hb : DE X W e2 g) : DE X W (.Compare e1 [.IsNot] [e2] pos) (xBin isnotD f g) := de_cmp opd_isnot op_notN (nomark _) ha hb
/-! ### signs -/
def negD : PyData → Option PyData
  | .int i => some (.int (-i))
  | _ => none
theorem und_neg : UnD X (rU fun i => .int (-i)) negD := by
  intro ph am H x d c Q hn dx q k
  cases dx with
  | int i =>
    cases q
    exact ⟨i, rfl, k _ H (Same.refl H) (.int _)⟩
  | _ => cases q
theorem de_neg (ha : DE X W e1 f) : DE X W (.UnaryOp .USub e1 pos) (xUn negD f) := de_un und_neg un_neg ha
/-! ### subscripts -/
def ixD : PyData → PyData → Option PyData
  | .list xs, .int i => atI xs i
  | .tuple xs, .int i => atI xs i
  | _, _ => none
theorem atI_get {vs : List V} {ds : List PyData} {i : Int} {d : PyData} (h : DqAll K H vs ds) (e : atI ds i = some d) : ∃ v, atI vs i = some v ∧ Dq K H v d := by
  unfold atI at e ⊢
  rw [h.length]
  cases hj : ixN ds.length i with
  | none => rw [hj] at e; cases e
  | some j =>
    rw [hj] at e
    exact h.get e
theorem de_ix (hs : PlainIx e2) (ha : DE X W e1 f) (hb : DE X W e2 g) : DE X W (.Subscript e1 e2 pos) (xBin ixD f g) :=
  bin_core (r := rIx X.K) (fun ph am H x y d e c Q hn dx dy q k => by
    cases dx with
    | lst h1 a1 =>
      cases dy with
      | int i =>
        obtain ⟨v, q1, q2⟩ := atI_get a1 q
        exact .inl ⟨_, _, i, v, rfl, rfl, rd_hid h1, q1, k _ H (Same.refl H) q2⟩
      | _ => cases q
    | tup h1 a1 =>
      cases dy with
      | int i =>
        obtain ⟨v, q1, q2⟩ := atI_get a1 q
        exact .inr (.inl ⟨_, _, i, v, rfl, rfl, seqT_hid h1, q1, k _ H (Same.refl H) q2⟩)
      | _ => cases q
    | _ => cases q) ha hb fun _ _ pa pb => pe_ix ix_seq pa pb hs
/-! ### calls -/
variable {t : TA} {p1 : Pos}
def lenD : List PyData → Option PyData
  | [.list xs] => some (.int xs.length)
  | [.tuple xs] => some (.int xs.length)
  | _ => none
theorem calld_len : CallD X (fun xs H Q => ∃ p ys, xs = [.ref p] ∧ (SqL X.K H p ys ∨ SqT X.K H p ys) ∧ Q (.int ys.length) H) lenD := by
  intro ph am H xs ds c Q hn dx q k
  cases dx with
  | nil => cases q
  | cons h t =>
    cases t with
    | cons _ _ => cases h <;> cases q
    | nil =>
      cases h with
      | lst h1 a1 => cases q; exact ⟨_, _, rfl, .inl (rd_hid h1), k _ H (Same.refl H) (by rw [← a1.length]; exact .int _)⟩
      | tup h1 a1 => cases q; exact ⟨_, _, rfl, .inr (seqT_hid h1), k _ H (Same.refl H) (by rw [← a1.length]; exact .int _)⟩
      | _ => cases q
def intD : List PyData → Option PyData
  | [.int i] => some (.int i)
  | [.bool k] => some (.int (if k then 1 else 0))
  | _ => none
theorem calld_int : CallD X (fun xs H Q => (∃ i, xs = [.int i] ∧ Q (.int i) H) ∨ ∃ k, xs = [.bl k] ∧ Q (.int (if k then 1 else 0)) H) intD := by
  intro ph am H xs ds c Q hn dx q k
  cases dx with
  | nil => cases q
  | cons h t =>
    cases t with
    | cons _ _ => cases h <;> cases q
    | nil =>
      cases h with
      | int i => cases q; exact .inl ⟨i, rfl, k _ H (Same.refl H) (.int _)⟩
      | bl b => cases q; exact .inr ⟨b, rfl, k _ H (Same.refl H) (.int _)⟩
      | _ => cases q
def absD : List PyData → Option PyData
  | [.int i] => some (.int (if i < 0 then -i else i))
  | _ => none
theorem calld_abs : CallD X (fun xs H Q => ∃ i, xs = [.int i] ∧ Q (.int (if i < 0 then -i else i)) H) absD := by
  intro ph am H xs ds c Q hn dx q k
  cases dx with
  | nil => cases q
  | cons h t =>
    cases t with
    | cons _ _ => cases h <;> cases q
    | nil =>
      cases h with
      | int i => cases q; exact ⟨i, rfl, k _ H (Same.refl H) (.int _)⟩
      | _ => cases q

/-- a built-in called by its name -/
theorem de_callB {id : String} {x : Str} {r : List V → Hp → VK → Prop} {F : List PyData → Option PyData} (hr : CallD X r F) (hc : CallR X (.builtin id) r) (hm : X.mg x = none) (hv : bootBuiltins x = some (.builtin id)) (h : DA X W (e :: es) fs)
    (hg : Gl X x := by rfl) (hn : x ≠ "__name__" := by decide) (hdb : (x == ("__debug__" : Str)) = false := by decide)
    (he : starEach (e :: es) X.env = (false, eval e X.env) :: starEach es X.env := by rfl) (hpl : (backTo pos (starEach es X.env)).any (·.1) = false := by rfl) : DE X W (.Call (.Name x p1) (e :: es) [] pos) (xCall F fs) :=
  call_core hr h fun t pa => pe_callB hc hg hm hv pa hn hdb he hpl
theorem de_callTy {T : String} {x : Str} {r : List V → Hp → VK → Prop} {F : List PyData → Option PyData} (hr : CallD X r F) (hc : CallR X (.type T) r) (hm : X.mg x = none) (hv : bootBuiltins x = some (.type T)) (h : DA X W (e :: es) fs)
    (hg : Gl X x := by rfl) (hn : x ≠ "__name__" := by decide) (hdb : (x == ("__debug__" : Str)) = false := by decide)
    (he : starEach (e :: es) X.env = (false, eval e X.env) :: starEach es X.env := by rfl) (hpl : (backTo pos (starEach es X.env)).any (·.1) = false := by rfl) : DE X W (.Call (.Name x p1) (e :: es) [] pos) (xCall F fs) :=
  call_core hr h fun t pa => pe_callTy hc hg hm hv pa hn hdb he hpl
theorem df_callTy {T : String} {x : Str} {r : List V → Hp → VK → Prop} {F : List PyData → Option (List PyData)} (hr : CallF X r F) (hc : CallR X (.type T) r) (hm : X.mg x = none) (hv : bootBuiltins x = some (.type T)) (h : DA X W (e :: es) fs)
    (hg : Gl X x := by rfl) (hn : x ≠ "__name__" := by decide) (hdb : (x == ("__debug__" : Str)) = false := by decide)
    (he : starEach (e :: es) X.env = (false, eval e X.env) :: starEach es X.env := by rfl) (hpl : (backTo pos (starEach es X.env)).any (·.1) = false := by rfl) : DF X W (.Call (.Name x p1) (e :: es) [] pos) (xCallF F fs) :=
  callF_core hr h fun t pa => pe_callTy hc hg hm hv pa hn hdb he hpl
/-! all, any, sum, tuple, list -/
def bools? : List PyData → Option (List Bool)
  | [] => some []
  | .bool b :: r => (bools? r).map (b :: ·)
  | _ :: _ => none
def ints? : List PyData → Option (List Int)
  | [] => some []
  | .int i :: r => (ints? r).map (i :: ·)
  | _ :: _ => none
theorem bools_vs : ∀ {vs : List V} {ds : List PyData} {bs : List Bool}, DqAll K H vs ds → bools? ds = some bs → vs = bs.map V.bl
  | _, _, _, .nil, h => by cases h; rfl
  | _, d :: r, bs, .cons hd t, h => by
    cases hd with
    | bl b =>
      unfold bools? at h
      cases hr : bools? r with
      | none => rw [hr] at h; cases h
      | some bs' =>
        rw [hr] at h
        cases h
        rw [bools_vs t hr]
        rfl
    | _ => cases h
theorem ints_vs : ∀ {vs : List V} {ds : List PyData} {bs : List Int}, DqAll K H vs ds → ints? ds = some bs → vs = bs.map V.int
  | _, _, _, .nil, h => by cases h; rfl
  | _, d :: r, bs, .cons hd t, h => by
    cases hd with
    | int b =>
      unfold ints? at h
      cases hr : ints? r with
      | none => rw [hr] at h; cases h
      | some bs' =>
        rw [hr] at h
        cases h
        rw [ints_vs t hr]
        rfl
    | _ => cases h
def allD : List PyData → Option PyData
  | [.list xs] => (bools? xs).map fun bs => .bool (bs.all id)
  | _ => none
def anyD : List PyData → Option PyData
  | [.list xs] => (bools? xs).map fun bs => .bool (bs.any id)
  | _ => none
def sumD : List PyData → Option PyData
  | [.list xs] => (ints? xs).map fun bs => .int bs.sum
  | _ => none
theorem one_list {F : List PyData → Option PyData} {R : List PyData → PyData → Prop} {r : List V → Hp → VK → Prop} (hF : ∀ ds c, F ds = some c → ∃ xs, ds = [.list xs] ∧ R xs c)
    (hr : ∀ a vs xs c H (ph : Fx) (am : Am) (Q : VK), SqL X.K H a vs → DqAll X.K (hid ph am H) vs xs → R xs c → (∀ v, Dq X.K (hid ph am H) v c → Q v H) → r [.ref a] H Q) : CallD X r F := by
  intro ph am H xs ds c Q hn dx q k
  obtain ⟨ys, rfl, h⟩ := hF ds c q
  cases dx with
  | cons h1 t =>
    cases t
    cases h1 with
    | lst h1 a1 => exact hr _ _ ys c H ph am Q (rd_hid h1) a1 h fun v dv => k v H (Same.refl H) dv
theorem calld_all : CallD X (rAll X.K) allD := one_list (R := fun xs c => ∃ bs, bools? xs = some bs ∧ c = .bool (bs.all id)) (fun ds c h => by
    unfold allD at h
    split at h
    · rename_i xs
      cases hb : bools? xs with
      | none => rw [hb] at h; cases h
      | some bs => rw [hb] at h; cases h; exact ⟨xs, rfl, bs, hb, rfl⟩
    · cases h) fun a vs xs c H ph am Q h1 a1 ⟨bs, hb, e⟩ k => by
      subst e
      have := bools_vs a1 hb
      subst this
      exact ⟨a, bs, rfl, h1, k _ (.bl _)⟩
theorem calld_any : CallD X (rAny X.K) anyD := one_list (R := fun xs c => ∃ bs, bools? xs = some bs ∧ c = .bool (bs.any id)) (fun ds c h => by
    unfold anyD at h
    split at h
    · rename_i xs
      cases hb : bools? xs with
      | none => rw [hb] at h; cases h
      | some bs => rw [hb] at h; cases h; exact ⟨xs, rfl, bs, hb, rfl⟩
    · cases h) fun a vs xs c H ph am Q h1 a1 ⟨bs, hb, e⟩ k => by
      subst e
      have := bools_vs a1 hb
      subst this
      exact ⟨a, bs, rfl, h1, k _ (.bl _)⟩
theorem calld_sum : CallD X (rSum X.K) sumD := one_list (R := fun xs c => ∃ bs, ints? xs = some bs ∧ c = .int bs.sum) (fun ds c h => by
    unfold sumD at h
    split at h
    · rename_i xs
      cases hb : ints? xs with
      | none => rw [hb] at h; cases h
      | some bs => rw [hb] at h; cases h; exact ⟨xs, rfl, bs, hb, rfl⟩
    · cases h) fun a vs xs c H ph am Q h1 a1 ⟨bs, hb, e⟩ k => by
      subst e
      have := ints_vs a1 hb
      subst this
      exact ⟨a, bs, rfl, h1, k _ (.int _)⟩
def tupleD : List PyData → Option PyData
  | [.list xs] => some (.tuple xs)
  | [.tuple xs] => some (.tuple xs)
  | _ => none
theorem calld_tuple : CallD X (fun xs H Q => ∃ p ys, xs = [.ref p] ∧ ((SqL X.K H p ys ∧ ∀ l, H l = none → Q (.ref l) (upd H l (.tup ys))) ∨ (SqT X.K H p ys ∧ Q (.ref p) H))) tupleD := by
  intro ph am H xs ds c Q hn dx q k
  cases dx with
  | nil => cases q
  | cons h t =>
    cases t with
    | cons _ _ => cases h <;> cases q
    | nil =>
      cases h with
      | lst h1 a1 => cases q; exact ⟨_, _, rfl, .inl ⟨rd_hid h1, fun l nl => k _ _ (same_new nl) (new_tup hn nl a1)⟩⟩
      | tup h1 a1 => cases q; exact ⟨_, _, rfl, .inr ⟨seqT_hid h1, k _ H (Same.refl H) (.tup h1 a1)⟩⟩
      | _ => cases q
def listD : List PyData → Option (List PyData)
  | [.list xs] => if xs.length ≤ sizeLine then some xs else none
  | [.tuple xs] => if xs.length ≤ sizeLine then some xs else none
  | _ => none
theorem callf_list : CallF X (fun xs H Q => ∃ p ys, xs = [.ref p] ∧ (SqL X.K H p ys ∨ SqT X.K H p ys) ∧ ∀ l, H l = none → Q (.ref l) (upd H l (.lst ys))) listD := by
  intro ph am H xs ds c Q hn dx q k
  cases dx with
  | nil => cases q
  | cons h t =>
    cases t with
    | cons _ _ => cases h <;> cases q
    | nil =>
      cases h with
      | lst h1 a1 =>
        obtain ⟨hz, rfl⟩ := if_some q
        exact ⟨_, _, rfl, .inl (rd_hid h1), fun l nl => k _ _ nl a1 (by rw [a1.length]; exact hz)⟩
      | tup h1 a1 =>
        obtain ⟨hz, rfl⟩ := if_some q
        exact ⟨_, _, rfl, .inr (seqT_hid h1), fun l nl => k _ _ nl a1 (by rw [a1.length]; exact hz)⟩
      | _ => cases q
/-! isinstance -/
def tyOfD : PyData → String
  | .none => "NoneType"
  | .bool _ => "bool"
  | .int _ => "int"
  | .str _ => "str"
  | .list _ => "list"
  | .tuple _ => "tuple"
  | .dict _ => "dict"
theorem tyx_of {v : V} {d : PyData} (h : Dq X.K (hid ph am H) v d) : TyX X.K H v (.type (tyOfD d)) := by
  cases h with
  | non => exact .base .non
  | bl b => exact .base (.bl b)
  | int i => exact .base (.int i)
  | str x => exact .base (.str x)
  | lst h1 _ =>
    rcases rd_hid h1 with (q | ⟨o, q⟩) | ⟨o, its, n, q, c, _⟩
    · exact .base (.lst q)
    · exact .base (.frz q)
    · exact .kList q c
  | tup h1 _ =>
    rcases seqT_hid h1 with (q | ⟨o, q⟩) | ⟨o, its, n, q, c, _⟩
    · exact .base (.tup q)
    · exact .fTuple q
    · exact .kTuple q c
end PD
end

section
set_option Elab.async false
set_option linter.all false
set_option maxRecDepth 100000
set_option maxHeartbeats 1000000
namespace PD
open PySem PySem.Spec PyProof.Rows L2
variable {X : Cx} {W : WX} {pos : Pos} {e e1 e2 e3 : Expr} {es : List Expr} {f g h : M PyData} {fs : M (List PyData)} {fb gb : M Bool}
variable {K : PySem.W.Frag} {ph : Fx} {am am' : Am} {H H' : Hp} {σ : L2.St} {δ δ' : Sg} {p p1 p2 : Addr}

/-! ### isinstance -/
def isSub (s T : String) : Bool := s == T || (s == "bool" && T == "int")
theorem kit_tab : ∀ s ∈ ["NoneType", "bool", "int", "str", "list", "tuple", "dict"], ∀ T ∈ ["int", "bool", "str", "list", "tuple"], kitB s T = some (isSub s T) := by decide +kernel
theorem tyOf_mem (d : PyData) : tyOfD d ∈ ["NoneType", "bool", "int", "str", "list", "tuple", "dict"] := by cases d <;> simp [tyOfD]
def isiD (Ts : List String) (d : PyData) : Option PyData := some (.bool (Ts.any (isSub (tyOfD d))))
theorem kit_any {t : String} (ht : t ∈ ["NoneType", "bool", "int", "str", "list", "tuple", "dict"]) : ∀ {Ts : List String}, (∀ T ∈ Ts, T ∈ ["int", "bool", "str", "list", "tuple"]) → PySem.W.kitAny K (.type t) (Ts.map .type) = some (Ts.any (isSub t))
  | [], _ => rfl
  | T :: Ts, hT => by
    have h1 := kit_tab t ht T (hT T (by simp))
    refine kitAny_cons (b := isSub t T) (kit_ty h1) (fun e => ?_) (fun e => ?_)
    · rw [kit_any ht fun T h => hT T (by simp [h])]
      simp [e]
    · simp [e]
variable {pf pt pT : Pos}
theorem de_isi1 {T : Str} (Tn : String) (hT : Tn ∈ ["int", "bool", "str", "list", "tuple"]) (hm : X.mg "isinstance" = none) (hmT : X.mg T = none) (hv : bootBuiltins T = some (.type Tn)) (he : DE X W e f)
    (hg : Gl X "isinstance" := by rfl) (hgT : Gl X T := by rfl) (hn : T ≠ "__name__" := by decide) (hd : (T == ("__debug__" : Str)) = false := by decide)
    (hs1 : starEach [.Name T pT] X.env = (false, eval (.Name T pT) X.env) :: starEach [] X.env := by rfl)
    (hs : starEach [e, .Name T pT] X.env = (false, eval e X.env) :: starEach [.Name T pT] X.env := by rfl) (hpl : (backTo pos (starEach [.Name T pT] X.env)).any (·.1) = false := by rfl) :
    DE X W (.Call (.Name "isinstance" pf) [e, .Name T pT] [] pos) (xUn (isiD [Tn]) f) := by
  obtain ⟨ta, pa, qa⟩ := he.ex
  refine ⟨⟨_, pe_callB call_isi hg hm boot_isinstance (pa_cons pa (pa_cons (pe_bltn (v := .ty Tn) hgT hmT hv rfl hn hd) pa_nil hs1) hs) (by decide) (by decide) hs hpl, fun ph am σ H δ Q ans δ' s q k kx => ?_⟩⟩
  rcases bnd_some q with ⟨a, δ1, e1, q1⟩ | ⟨c, fs, e1, q1⟩
  · refine qa ph am σ H δ _ _ _ s e1 (fun d ed am1 x H1 st1 s1 d1 => ?_) (fun c fs z => by cases z)
    cases ed
    obtain ⟨z, e3, rfl, rfl⟩ := lif_some q1
    cases e3
    refine ⟨x, .ty Tn, .type (tyOfD a), .type Tn, isSub (tyOfD a) Tn, rfl, .ty Tn, tyx_of d1, kit_ty (kit_tab _ (tyOf_mem a) _ hT), k _ rfl am1 _ H1 st1 s1 ?_⟩
    have : [Tn].any (isSub (tyOfD a)) = isSub (tyOfD a) Tn := by simp
    rw [this]
    exact .bl _
  · subst q1
    exact qa ph am σ H δ _ _ _ s e1 (fun d ed => by cases ed) (fun c' fs' z => by cases z; exact kx _ _ rfl)
/-- isinstance(x, (S, T)) -/
theorem de_isi2 {S T : Str} {kk : Nat} {pS pT2 : Pos} (Sn Tn : String) (hS : Sn ∈ ["int", "bool", "str", "list", "tuple"]) (hT : Tn ∈ ["int", "bool", "str", "list", "tuple"]) (hm : X.mg "isinstance" = none) (hmS : X.mg S = none) (hvS : bootBuiltins S = some (.type Sn)) (hmT : X.mg T = none) (hv : bootBuiltins T = some (.type Tn)) (he : DE X W e f)
    (hg : Gl X "isinstance" := by rfl) (hgS : Gl X S := by rfl) (hnS : S ≠ "__name__" := by decide) (hdS : (S == ("__debug__" : Str)) = false := by decide) (hgT : Gl X T := by rfl) (hn : T ≠ "__name__" := by decide) (hd : (T == ("__debug__" : Str)) = false := by decide)
    (hs0 : starEach [.Name T pT] X.env = (false, eval (.Name T pT) X.env) :: starEach [] X.env := by rfl)
    (hs2 : starEach [.Name S pS, .Name T pT] X.env = (false, eval (.Name S pS) X.env) :: starEach [.Name T pT] X.env := by rfl)
    (hs1 : starEach [.Tuple [.Name S pS, .Name T pT] kk pT2] X.env = (false, eval (.Tuple [.Name S pS, .Name T pT] kk pT2) X.env) :: starEach [] X.env := by rfl)
    (hs : starEach [e, .Tuple [.Name S pS, .Name T pT] kk pT2] X.env = (false, eval e X.env) :: starEach [.Tuple [.Name S pS, .Name T pT] kk pT2] X.env := by rfl) (hpl : (backTo pos (starEach [.Tuple [.Name S pS, .Name T pT] kk pT2] X.env)).any (·.1) = false := by rfl) :
    DE X W (.Call (.Name "isinstance" pf) [e, .Tuple [.Name S pS, .Name T pT] kk pT2] [] pos) (xUn (isiD [Sn, Tn]) f) := by
  obtain ⟨ta, pa, qa⟩ := he.ex
  refine ⟨⟨_, pe_callB call_isiT hg hm boot_isinstance (pa_cons pa (pa_cons (pe_tup (pa_cons (pe_bltn (v := .ty Sn) hgS hmS hvS rfl hnS hdS) (pa_cons (pe_bltn (v := .ty Tn) hgT hmT hv rfl hn hd) pa_nil hs0) hs2)) pa_nil hs1) hs) (by decide) (by decide) hs hpl, fun ph am σ H δ Q ans δ' s q k kx => ?_⟩⟩
  rcases bnd_some q with ⟨a, δ1, e1, q1⟩ | ⟨c, fs, e1, q1⟩
  · refine qa ph am σ H δ _ _ _ s e1 (fun d ed am1 x H1 st1 s1 d1 => ?_) (fun c fs z => by cases z)
    cases ed
    obtain ⟨z, e3, rfl, rfl⟩ := lif_some q1
    cases e3
    refine ⟨by show 2 ≤ sizeLine; decide, fun p np => ?_⟩
    have sm : Same H1 (upd H1 p (.tup [.ty Sn, .ty Tn])) := same_new np
    refine ⟨x, p, [.ty Sn, .ty Tn], .type (tyOfD a), [.type Sn, .type Tn], [Sn, Tn].any (isSub (tyOfD a)), rfl, upd_same, .cons (.ty Sn) (.cons (.ty Tn) .nil), tyx_of (dp_mono (hid_same sm) d1), kit_any (K := X.K) (Ts := [Sn, Tn]) (tyOf_mem a) (fun T h => ?_), k _ rfl am1 _ _ (st1.trans (Step.of sm)) (s1.same sm) (.bl _)⟩
    simp only [List.mem_cons, List.not_mem_nil, or_false] at h
    rcases h with rfl | rfl
    · exact hS
    · exact hT
  · subst q1
    exact qa ph am σ H δ _ _ _ s e1 (fun d ed => by cases ed) (fun c' fs' z => by cases z; exact kx _ _ rfl)

/-! ### tests -/
def truthD : PyData → Option Bool
  | .none => some false
  | .bool b => some b
  | .int i => some (i != 0)
  | .str x => if x.length ≤ sizeLine then some ((x.length : Int) != 0) else none
  | .list xs => some (!xs.isEmpty)
  | .tuple xs => some (!xs.isEmpty)
  | _ => none
theorem tru_of {v : V} {d : PyData} {b : Bool} (h : Dq X.K (hid ph am H) v d) (e : truthD d = some b) : TruV X.K v H b := by
  cases h with
  | non => cases e; rfl
  | bl b => cases e; rfl
  | int i => cases e; rfl
  | str x => obtain ⟨h1, rfl⟩ := if_some e; exact ⟨h1, rfl⟩
  | lst h1 a1 =>
    cases e
    refine .inl ⟨_, rd_hid h1, ?_⟩
    cases a1 <;> rfl
  | tup h1 a1 =>
    cases e
    refine .inr (.inl ⟨_, seqT_hid h1, ?_⟩)
    cases a1 <;> rfl
def boolD : PyData → Option Bool
  | .bool b => some b
  | _ => none
def xTru (f : M PyData) : M Bool := bnd f fun d => lif (truthD d)
def xBool (f : M PyData) : M Bool := bnd f fun d => lif (boolD d)
theorem dt_tru (ha : DE X W e f) (he : ∀ whole, isTrue e X.env whole = (do let v ← whole; standAt e.pos; holding [v] (truthy v)) := by intro _; rfl) : DT X W e (xTru f) := by
  obtain ⟨ta, pa, qa⟩ := ha.ex
  refine ⟨⟨_, pt_truth pa he, fun ph am σ H δ Q ans δ' s q k kx => ?_⟩⟩
  rcases bnd_some q with ⟨a, δ1, e1, q1⟩ | ⟨c, fs, e1, q1⟩
  · refine qa ph am σ H δ _ _ _ s e1 (fun d ed am1 x H1 st1 s1 d1 => ?_) (fun c fs z => by cases z)
    cases ed
    obtain ⟨z, e3, rfl, rfl⟩ := lif_some q1
    exact ⟨z, tru_of d1 e3, k _ rfl am1 H1 st1 s1⟩
  · subst q1
    exact qa ph am σ H δ _ _ _ s e1 (fun d ed => by cases ed) (fun c' fs' z => by cases z; exact kx _ _ rfl)
theorem bool_read {t : TE} (qa : ReadE X W t f) : ReadT X W (tTest t) (xBool f) := by
  intro ph am σ H δ Q ans δ' s q k kx
  rcases bnd_some q with ⟨a, δ1, e1, q1⟩ | ⟨c, fs, e1, q1⟩
  · refine qa ph am σ H δ _ _ _ s e1 (fun d ed am1 x H1 st1 s1 d1 => ?_) (fun c fs z => by cases z)
    cases ed
    obtain ⟨z, e3, rfl, rfl⟩ := lif_some q1
    cases d1 with
    | bl b => cases e3; exact ⟨_, rfl, k _ rfl am1 H1 st1 s1⟩
    | _ => cases e3
  · subst q1
    exact qa ph am σ H δ _ _ _ s e1 (fun d ed => by cases ed) (fun c' fs' z => by cases z; exact kx _ _ rfl)
theorem dt_cmp {op : CmpOp} {r : R2} {F : PyData → PyData → Option PyData} (hr : OpD X r F) (ho : OpR X (compareOp op) r) (hm : behindInMarks op e2 = false) (ha : DE X W e1 f) (hb : DE X W e2 g) : DT X W (.Compare e1 [op] [e2] pos) (xBool (xBin F f g)) := by
  obtain ⟨ta, pa, qa⟩ := ha.ex
  obtain ⟨tb, pb, qb⟩ := hb.ex
  exact ⟨⟨_, pt_cmpR ho pa pb hm, bool_read (bin_read hr qa qb)⟩⟩
theorem dt_lt (ha : DE X W e1 f) (hb : DE X W e2 g) : DT X W (.Compare e1 [.Lt] [e2] pos) (xBool (xBin ltD f g)) := dt_cmp opd_lt op_lt (nomark _) ha hb
theorem dt_le (ha : DE X W e1 f) (hb : DE X W e2 g) : DT X W (.Compare e1 [.LtE] [e2] pos) (xBool (xBin leD f g)) := dt_cmp opd_le op_le (nomark _) ha hb
theorem dt_gt (ha : DE X W e1 f) (hb : DE X W e2 g) : DT X W (.Compare e1 [.Gt] [e2] pos) (xBool (xBin gtD f g)) := dt_cmp opd_gt op_gt (nomark _) ha hb
theorem dt_ge (ha : DE X W e1 f) (hb : DE X W e2 g) : DT X W (.Compare e1 [.GtE] [e2] pos) (xBool (xBin geD f g)) := dt_cmp opd_ge op_ge (nomark _) ha hb
theorem dt_eq (hu : X.A.units + 64 < cLine) (ha : DE X W e1 f) (hb : DE X W e2 g) : DT X W (.Compare e1 [.Eq] [e2] pos) (xBool (xBin eqD f g)) := dt_cmp opd_eq (op_eqD hu) (nomark _) ha hb
theorem dt_ne (hu : X.A.units + 64 < cLine) (ha : DE X W e1 f) (hb : DE X W e2 g) : DT X W (.Compare e1 [.NotEq] [e2] pos) (xBool (xBin neD f g)) := dt_cmp opd_ne (op_neD hu) (nomark _) ha hb
theorem dt_is (ha : DE X W e1 f) (hb : DE X W e2 g) : DT X W (.Compare e1 [.Is] [e2] pos) (xBool (xBin isD f g)) := dt_cmp opd_is op_isN (nomark _) ha hb
theorem dt_isnot (ha : DE X W e1 f) (hb : DE X W e2 g) : DT X W (.Compare e1 [.IsNot] [e2] pos) (xBool (xBin isnotD f g)) := dt_cmp opd_isnot op_notN (nomark _) ha hb
/-- a < b < c -/
def xChain (F G : PyData → PyData → Option PyData) (f g h : M PyData) : M PyData := bnd f fun a => bnd g fun b => bnd (lif (F a b)) fun z => match z with
  | .bool true => bnd h fun c => lif (G b c)
  | .bool false => ret (.bool false)
  | _ => lif none
theorem chain_read {ta tb tc : TE} {r r' : R2} {F G : PyData → PyData → Option PyData} (hr : OpD X r F) (hr' : OpD X r' G) (qa : ReadE X W ta f) (qb : ReadE X W tb g) (qc : ReadE X W tc h) : ReadE X W (tChain r r' ta tb tc) (xChain F G f g h) := by
  intro ph am σ H δ Q ans δ' s q k kx
  rcases bnd_some q with ⟨a, δ1, e1, q1⟩ | ⟨c, fs, e1, q1⟩
  · refine qa ph am σ H δ _ _ _ s e1 (fun d ed am1 x H1 st1 s1 d1 => ?_) (fun c fs z => by cases z)
    cases ed
    rcases bnd_some q1 with ⟨b, δ2, e2, q2⟩ | ⟨c, fs, e2, q2⟩
    · refine qb ph am1 σ H1 δ1 _ _ _ s1 e2 (fun d ed am2 y H2 st2 s2 d2 => ?_) (fun c fs z => by cases z)
      cases ed
      rcases bnd_some q2 with ⟨z, δ3, e3, q3⟩ | ⟨c, fs, e3, q3⟩
      · obtain ⟨z', e4, e5, e6⟩ := lif_some e3
        cases e5
        subst e6
        refine hr ph am2 H2 x y a b z _ (fun b h => s2.hidden h) (dp_mono st2.hid d1) d2 e4 fun v H3 sm dv => ?_
        have st3 := (st1.trans st2).trans (Step.of (am := am2) sm)
        have s3 := s2.same sm
        cases dv with
        | bl kb =>
          cases kb with
          | false =>
            cases q3
            exact ⟨false, rfl, iteF (k _ rfl am2 _ H3 st3 s3 (.bl false))⟩
          | true =>
            refine ⟨true, rfl, iteT ?_⟩
            simp only at q3
            rcases bnd_some q3 with ⟨c, δ4, e7, q4⟩ | ⟨c, fs, e7, q4⟩
            · refine qc ph am2 σ H3 _ _ _ _ s3 e7 (fun d ed am4 w H4 st4 s4 d4 => ?_) (fun c fs z => by cases z)
              cases ed
              obtain ⟨z2, e8, rfl, rfl⟩ := lif_some q4
              refine hr' ph am4 H4 y w b c z2 _ (fun b h => s4.hidden h) (dp_mono st4.hid (dp_mono (hid_same sm) d2)) d4 e8 fun v H5 sm5 dv5 => ?_
              exact k _ rfl am4 v H5 ((st3.trans st4).trans (Step.of sm5)) (s4.same sm5) dv5
            · subst q4
              exact qc ph am2 σ H3 _ _ _ _ s3 e7 (fun d ed => by cases ed) (fun c' fs' z => by cases z; exact (kx _ _ rfl).step st3)
        | _ => cases q3
      · obtain ⟨_, _, z, _⟩ := lif_some e3
        cases z
    · subst q2
      exact qb ph am1 σ H1 δ1 _ _ _ s1 e2 (fun d ed => by cases ed) (fun c' fs' z => by cases z; exact (kx _ _ rfl).step st1)
  · subst q1
    exact qa ph am σ H δ _ _ _ s e1 (fun d ed => by cases ed) (fun c' fs' z => by cases z; exact kx _ _ rfl)
theorem de_chain {op op' : CmpOp} {r r' : R2} {F G : PyData → PyData → Option PyData} (hr : OpD X r F) (hr' : OpD X r' G) (ho : OpR X (compareOp op) r) (ho' : OpR X (compareOp op') r') (ha : DE X W e1 f) (hb : DE X W e2 g) (hc : DE X W e3 h)
    (hm : lastMarks [op, op'] [e2, e3] = false := by with_unfolding_all rfl) : DE X W (.Compare e1 [op, op'] [e2, e3] pos) (xChain F G f g h) := by
  obtain ⟨ta, pa, qa⟩ := ha.ex
  obtain ⟨tb, pb, qb⟩ := hb.ex
  obtain ⟨tc, pc, qc⟩ := hc.ex
  exact ⟨⟨_, pe_chain ho ho' pa pb pc hm, chain_read hr hr' qa qb qc⟩⟩
theorem dt_chain {op op' : CmpOp} {r r' : R2} {F G : PyData → PyData → Option PyData} (hr : OpD X r F) (hr' : OpD X r' G) (ho : OpR X (compareOp op) r) (ho' : OpR X (compareOp op') r') (ha : DE X W e1 f) (hb : DE X W e2 g) (hc : DE X W e3 h)
    (hm : lastMarks [op, op'] [e2, e3] = false := by with_unfolding_all rfl) : DT X W (.Compare e1 [op, op'] [e2, e3] pos) (xBool (xChain F G f g h)) := by
  obtain ⟨ta, pa, qa⟩ := ha.ex
  obtain ⟨tb, pb, qb⟩ := hb.ex
  obtain ⟨tc, pc, qc⟩ := hc.ex
  exact ⟨⟨_, pt_chain ho ho' pa pb pc hm, bool_read (chain_read hr hr' qa qb qc)⟩⟩
/-! and, or, not as tests -/
def xAndT (fb gb : M Bool) : M Bool := bnd fb fun b => if b = true then gb else ret false
def xOrT (fb gb : M Bool) : M Bool := bnd fb fun b => if b = true then ret true else gb
def xNotT (fb : M Bool) : M Bool := bnd fb fun b => ret (!b)
theorem dw_and1 (ha : DT X W e1 fb) : DW X W (.BoolOp .And [e1] pos) fb := by
  obtain ⟨ta, pa, qa⟩ := ha.ex
  exact ⟨⟨_, pw_and1 pa, qa⟩⟩
theorem dw_or1 (ha : DT X W e1 fb) : DW X W (.BoolOp .Or [e1] pos) fb := by
  obtain ⟨ta, pa, qa⟩ := ha.ex
  exact ⟨⟨_, pw_or1 pa, qa⟩⟩
theorem dw_and (ha : DT X W e1 fb) (hb : DW X W (.BoolOp .And (e2 :: es) pos) gb) : DW X W (.BoolOp .And (e1 :: e2 :: es) pos) (xAndT fb gb) := by
  obtain ⟨ta, pa, qa⟩ := ha.ex
  obtain ⟨tb, pb, qb⟩ := hb.ex
  refine ⟨⟨_, pw_and pa pb, fun ph am σ H δ Q ans δ' s q k kx => ?_⟩⟩
  rcases bnd_some q with ⟨a, δ1, e1, q1⟩ | ⟨c, fs, e1, q1⟩
  · refine qa ph am σ H δ _ _ _ s e1 (fun d ed am1 H1 st1 s1 => ?_) (fun c fs z => by cases z)
    cases ed
    cases a with
    | true =>
      rw [if_pos rfl] at q1
      exact iteT (qb ph am1 σ H1 δ1 _ _ _ s1 q1 (fun d ed am2 H2 st2 s2 => k d ed am2 H2 (st1.trans st2) s2) fun c fs z => (kx c fs z).step st1)
    | false =>
      rw [if_neg Bool.false_ne_true] at q1
      cases q1
      exact iteF (k _ rfl am1 H1 st1 s1)
  · subst q1
    exact qa ph am σ H δ _ _ _ s e1 (fun d ed => by cases ed) (fun c' fs' z => by cases z; exact kx _ _ rfl)
theorem dw_or (ha : DT X W e1 fb) (hb : DW X W (.BoolOp .Or (e2 :: es) pos) gb) : DW X W (.BoolOp .Or (e1 :: e2 :: es) pos) (xOrT fb gb) := by
  obtain ⟨ta, pa, qa⟩ := ha.ex
  obtain ⟨tb, pb, qb⟩ := hb.ex
  refine ⟨⟨_, pw_or pa pb, fun ph am σ H δ Q ans δ' s q k kx => ?_⟩⟩
  rcases bnd_some q with ⟨a, δ1, e1, q1⟩ | ⟨c, fs, e1, q1⟩
  · refine qa ph am σ H δ _ _ _ s e1 (fun d ed am1 H1 st1 s1 => ?_) (fun c fs z => by cases z)
    cases ed
    cases a with
    | true =>
      rw [if_pos rfl] at q1
      cases q1
      exact iteT (k _ rfl am1 H1 st1 s1)
    | false =>
      rw [if_neg Bool.false_ne_true] at q1
      exact iteF (qb ph am1 σ H1 δ1 _ _ _ s1 q1 (fun d ed am2 H2 st2 s2 => k d ed am2 H2 (st1.trans st2) s2) fun c fs z => (kx c fs z).step st1)
  · subst q1
    exact qa ph am σ H δ _ _ _ s e1 (fun d ed => by cases ed) (fun c' fs' z => by cases z; exact kx _ _ rfl)
theorem dt_w (ha : DW X W e fb) : DT X W e fb := by
  obtain ⟨ta, pa, qa⟩ := ha.ex
  exact ⟨⟨_, pa.pt, qa⟩⟩
theorem dt_not (ha : DT X W e fb) : DT X W (.UnaryOp .Not e pos) (xNotT fb) := by
  obtain ⟨ta, pa, qa⟩ := ha.ex
  refine ⟨⟨_, pt_not pa, fun ph am σ H δ Q ans δ' s q k kx => ?_⟩⟩
  rcases bnd_some q with ⟨a, δ1, e1, q1⟩ | ⟨c, fs, e1, q1⟩
  · refine qa ph am σ H δ _ _ _ s e1 (fun d ed am1 H1 st1 s1 => ?_) (fun c fs z => by cases z)
    cases ed
    cases q1
    exact k _ rfl am1 H1 st1 s1
  · subst q1
    exact qa ph am σ H δ _ _ _ s e1 (fun d ed => by cases ed) (fun c' fs' z => by cases z; exact kx _ _ rfl)
/-! and, or, not as values: all but the last True or False -/
def xAnd (f g : M PyData) : M PyData := bnd f fun d => match d with
  | .bool true => g
  | .bool false => ret (.bool false)
  | _ => lif none
def xOr (f g : M PyData) : M PyData := bnd f fun d => match d with
  | .bool true => ret (.bool true)
  | .bool false => g
  | _ => lif none
def xNot (f : M PyData) : M PyData := bnd f fun d => match d with
  | .bool b => ret (.bool (!b))
  | _ => lif none
theorem de_one {op} (ha : DE X W e f) : DE X W (.BoolOp op [e] pos) f := by
  obtain ⟨ta, pa, qa⟩ := ha.ex
  exact ⟨⟨_, pe_one pa, qa⟩⟩
theorem lif_none {α : Type} {ans : Ans α} (h : lif (none : Option α) δ = some (ans, δ')) : False := by cases h
theorem de_and (ha : DE X W e1 f) (hb : DE X W (.BoolOp .And (e2 :: es) pos) g) : DE X W (.BoolOp .And (e1 :: e2 :: es) pos) (xAnd f g) := by
  obtain ⟨ta, pa, qa⟩ := ha.ex
  obtain ⟨tb, pb, qb⟩ := hb.ex
  refine ⟨⟨_, pe_and pa pb, fun ph am σ H δ Q ans δ' s q k kx => ?_⟩⟩
  rcases bnd_some q with ⟨a, δ1, e1, q1⟩ | ⟨c, fs, e1, q1⟩
  · refine qa ph am σ H δ _ _ _ s e1 (fun d ed am1 x H1 st1 s1 d1 => ?_) (fun c fs z => by cases z)
    cases ed
    cases d1 with
    | bl b =>
      cases b with
      | true => exact ⟨true, rfl, iteT (qb ph am1 σ H1 δ1 _ _ _ s1 q1 (fun d ed am2 v H2 st2 s2 d2 => k d ed am2 v H2 (st1.trans st2) s2 d2) fun c fs z => (kx c fs z).step st1)⟩
      | false =>
        cases q1
        exact ⟨false, rfl, iteF (k _ rfl am1 _ H1 st1 s1 (.bl false))⟩
    | _ => exact (lif_none q1).elim
  · subst q1
    exact qa ph am σ H δ _ _ _ s e1 (fun d ed => by cases ed) (fun c' fs' z => by cases z; exact kx _ _ rfl)
theorem de_or (ha : DE X W e1 f) (hb : DE X W (.BoolOp .Or (e2 :: es) pos) g) : DE X W (.BoolOp .Or (e1 :: e2 :: es) pos) (xOr f g) := by
  obtain ⟨ta, pa, qa⟩ := ha.ex
  obtain ⟨tb, pb, qb⟩ := hb.ex
  refine ⟨⟨_, pe_or pa pb, fun ph am σ H δ Q ans δ' s q k kx => ?_⟩⟩
  rcases bnd_some q with ⟨a, δ1, e1, q1⟩ | ⟨c, fs, e1, q1⟩
  · refine qa ph am σ H δ _ _ _ s e1 (fun d ed am1 x H1 st1 s1 d1 => ?_) (fun c fs z => by cases z)
    cases ed
    cases d1 with
    | bl b =>
      cases b with
      | false => exact ⟨false, rfl, iteF (qb ph am1 σ H1 δ1 _ _ _ s1 q1 (fun d ed am2 v H2 st2 s2 d2 => k d ed am2 v H2 (st1.trans st2) s2 d2) fun c fs z => (kx c fs z).step st1)⟩
      | true =>
        cases q1
        exact ⟨true, rfl, iteT (k _ rfl am1 _ H1 st1 s1 (.bl true))⟩
    | _ => exact (lif_none q1).elim
  · subst q1
    exact qa ph am σ H δ _ _ _ s e1 (fun d ed => by cases ed) (fun c' fs' z => by cases z; exact kx _ _ rfl)
theorem de_not (ha : DE X W e f) : DE X W (.UnaryOp .Not e pos) (xNot f) := by
  obtain ⟨ta, pa, qa⟩ := ha.ex
  refine ⟨⟨_, pe_not pa, fun ph am σ H δ Q ans δ' s q k kx => ?_⟩⟩
  rcases bnd_some q with ⟨a, δ1, e1, q1⟩ | ⟨c, fs, e1, q1⟩
  · refine qa ph am σ H δ _ _ _ s e1 (fun d ed am1 x H1 st1 s1 d1 => ?_) (fun c fs z => by cases z)
    cases ed
    cases d1 with
    | bl b => cases q1; exact ⟨b, rfl, k _ rfl am1 _ H1 st1 s1 (.bl _)⟩
    | _ => exact (lif_none q1).elim
  · subst q1
    exact qa ph am σ H δ _ _ _ s e1 (fun d ed => by cases ed) (fun c' fs' z => by cases z; exact kx _ _ rfl)
def xIf {α : Type} (fb : M Bool) (f g : M α) : M α := bnd fb fun b => if b = true then f else g
theorem de_if (hc : DT X W e3 fb) (ha : DE X W e1 f) (hb : DE X W e2 g) : DE X W (.IfExp e3 e1 e2 pos) (xIf fb f g) := by
  obtain ⟨tc, pc, qc⟩ := hc.ex
  obtain ⟨ta, pa, qa⟩ := ha.ex
  obtain ⟨tb, pb, qb⟩ := hb.ex
  refine ⟨⟨_, pe_ifExp pc pa pb, fun ph am σ H δ Q ans δ' s q k kx => ?_⟩⟩
  rcases bnd_some q with ⟨a, δ1, e1, q1⟩ | ⟨c, fs, e1, q1⟩
  · refine qc ph am σ H δ _ _ _ s e1 (fun d ed am1 H1 st1 s1 => ?_) (fun c fs z => by cases z)
    cases ed
    cases a with
    | true =>
      rw [if_pos rfl] at q1
      exact iteT (qa ph am1 σ H1 δ1 _ _ _ s1 q1 (fun d ed am2 v H2 st2 s2 d2 => k d ed am2 v H2 (st1.trans st2) s2 d2) fun c fs z => (kx c fs z).step st1)
    | false =>
      rw [if_neg Bool.false_ne_true] at q1
      exact iteF (qb ph am1 σ H1 δ1 _ _ _ s1 q1 (fun d ed am2 v H2 st2 s2 d2 => k d ed am2 v H2 (st1.trans st2) s2 d2) fun c fs z => (kx c fs z).step st1)
  · subst q1
    exact qc ph am σ H δ _ _ _ s e1 (fun d ed => by cases ed) (fun c' fs' z => by cases z; exact kx _ _ rfl)
end PD
end

section
set_option Elab.async false
set_option linter.all false
set_option maxRecDepth 100000
set_option maxHeartbeats 1000000
namespace PD
open PySem PySem.Spec PyProof.Rows L2
variable {X : Cx} {W : WX} {pos : Pos} {e e1 e2 e3 : Expr} {es : List Expr} {f g h : M PyData} {fs : M (List PyData)} {fb gb : M Bool}
variable {K : PySem.W.Frag} {ph : Fx} {am am' am1 : Am} {H H' H1 : Hp} {σ σ' : L2.St} {δ δ' δ1 : Sg} {a p p1 p2 : Addr} {v : V} {vs : List V} {d : PyData} {ds : List PyData} {i : Nat}

/-! ### slots -/
/-- a cell that may be stored anew -/
def Cell.free : Cell → Bool
  | .ow true _ => false
  | _ => true
theorem SR.nba (s : SR K ph am σ H δ) {c : Cell} (e : δ[i]? = some c) (hc : c.free = true) : ph.ba i = none := by
  cases hb : ph.ba i with
  | none => rfl
  | some a =>
    have h1 := s.bas i a hb
    obtain ⟨_, c', h2, co⟩ := s.amf i a h1
    rw [e] at h2
    cases h2
    cases c with
    | un => exact co.elim
    | fz d => exact co.elim
    | od o =>
      obtain ⟨_, _, _, _, _, _, h3⟩ := s.od i o e
      rw [h3] at hb
      cases hb
    | ow b ds =>
      cases b with
      | true => cases hc
      | false =>
        obtain ⟨_, _, _, _, _, _, _, h3⟩ := s.ow i false ds e
        rw [h3 rfl] at hb
        cases hb
theorem SR.put (s : SR K ph am σ H δ) {c : Cell} (e : δ[i]? = some c) (hc : c.free = true) (dv : Dq K (hid ph am H) v d) : SR K ph (amDrop am i) (σ.set i (some v)) H (δ.set i (.fz d)) := by
  have st : Step am H (amDrop am i) H := step_drop
  have hi : i < δ.length := (List.getElem?_eq_some_iff.mp e).1
  have hσ : i < σ.length := by rw [s.len]; exact hi
  refine ⟨by rw [List.length_set, List.length_set, s.len], fun j d' q => ?_, fun j b' ds' q => ?_, fun j a' q => ?_, fun j k a' q1 q2 => ?_, s.phs, fun j a' q => ?_, fun j o q => ?_⟩
  · by_cases hj : j = i
    · subst hj
      rw [List.getElem?_set_self hi] at q
      cases q
      exact ⟨v, List.getElem?_set_self hσ, dp_mono st.hid dv⟩
    · rw [List.getElem?_set_ne (Ne.symm hj)] at q
      obtain ⟨v', h1, h2⟩ := s.fz j d' q
      exact ⟨v', by rw [List.getElem?_set_ne (Ne.symm hj)]; exact h1, dp_mono st.hid h2⟩
  · by_cases hj : j = i
    · subst hj
      rw [List.getElem?_set_self hi] at q
      cases q
    · rw [List.getElem?_set_ne (Ne.symm hj)] at q
      obtain ⟨a2, vs2, h1, h2, h3, h4, h5, h6⟩ := s.ow j b' ds' q
      exact ⟨a2, vs2, amDrop_some.mpr ⟨hj, h1⟩, by rw [List.getElem?_set_ne (Ne.symm hj)]; exact h2, h3, dps_mono st.hid h4, h5, h6⟩
  · obtain ⟨n, q⟩ := amDrop_some.mp q
    obtain ⟨h1, c', h2, h3⟩ := s.amf j a' q
    exact ⟨h1, c', by rw [List.getElem?_set_ne (Ne.symm n)]; exact h2, h3⟩
  · exact s.inj j k a' (amDrop_some.mp q1).2 (amDrop_some.mp q2).2
  · refine amDrop_some.mpr ⟨fun z => ?_, s.bas j a' q⟩
    subst z
    rw [s.nba e hc] at q
    cases q
  · by_cases hj : j = i
    · subst hj
      rw [List.getElem?_set_self hi] at q
      cases q
    · rw [List.getElem?_set_ne (Ne.symm hj)] at q
      obtain ⟨a2, u, h1, h2, h3, h4, h5⟩ := s.od j o q
      exact ⟨a2, u, amDrop_some.mpr ⟨hj, h1⟩, by rw [List.getElem?_set_ne (Ne.symm hj)]; exact h2, h3, dor_mono st.hid h4, h5⟩
def amPut (am : Am) (i : Nat) (p : Addr) : Am := fun j => if j = i then some p else am j
theorem amPut_same : amPut am i p i = some p := by simp [amPut]
theorem amPut_ne {j : Nat} (h : j ≠ i) : amPut am i p j = am j := by simp [amPut, h]
theorem step_put (n : H p = none) : Step am H (amPut am i p) (upd H p (.lst vs)) :=
  ⟨fun b o h _ => same_new n b o h, fun j a h => by
    by_cases hj : j = i
    · subst hj
      rw [amPut_same] at h
      cases h
      exact .inr n
    · rw [amPut_ne hj] at h
      exact .inl ⟨j, h⟩, fun b o h => ⟨o, same_new n b o h⟩⟩
theorem SR.putOwn (s : SR K ph am σ H δ) {c : Cell} (e : δ[i]? = some c) (hc : c.free = true) (n : H p = none) (dv : DqAll K (hid ph am H) vs ds) (hz : vs.length ≤ sizeLine) :
    SR K ph (amPut am i p) (σ.set i (some (.ref p))) (upd H p (.lst vs)) (δ.set i (.ow false ds)) := by
  have st : Step am H (amPut am i p) (upd H p (.lst vs)) := step_put n
  have hi : i < δ.length := (List.getElem?_eq_some_iff.mp e).1
  have hσ : i < σ.length := by rw [s.len]; exact hi
  have np : ¬ Hid ph am p := s.new n
  refine ⟨by rw [List.length_set, List.length_set, s.len], fun j d' q => ?_, fun j b' ds' q => ?_, fun j a' q => ?_, fun j k a' q1 q2 => ?_, fun b hb => ?_, fun j a' q => ?_, fun j o q => ?_⟩
  · by_cases hj : j = i
    · subst hj
      rw [List.getElem?_set_self hi] at q
      cases q
    · rw [List.getElem?_set_ne (Ne.symm hj)] at q
      obtain ⟨v', h1, h2⟩ := s.fz j d' q
      exact ⟨v', by rw [List.getElem?_set_ne (Ne.symm hj)]; exact h1, dp_mono st.hid h2⟩
  · by_cases hj : j = i
    · subst hj
      rw [List.getElem?_set_self hi] at q
      cases q
      exact ⟨p, vs, amPut_same, List.getElem?_set_self hσ, upd_same, dps_mono st.hid dv, hz, fun _ => s.nba e hc⟩
    · rw [List.getElem?_set_ne (Ne.symm hj)] at q
      obtain ⟨a2, vs2, h1, h2, h3, h4, h5, h6⟩ := s.ow j b' ds' q
      exact ⟨a2, vs2, by rw [amPut_ne hj]; exact h1, by rw [List.getElem?_set_ne (Ne.symm hj)]; exact h2, same_new n _ _ h3, dps_mono st.hid h4, h5, h6⟩
  · by_cases hj : j = i
    · subst hj
      rw [amPut_same] at q
      cases q
      exact ⟨fun z => np (.inl z), _, List.getElem?_set_self hi, trivial⟩
    · rw [amPut_ne hj] at q
      obtain ⟨h1, c', h2, h3⟩ := s.amf j a' q
      exact ⟨h1, c', by rw [List.getElem?_set_ne (Ne.symm hj)]; exact h2, h3⟩
  · by_cases hj : j = i
    · by_cases hk : k = i
      · rw [hj, hk]
      · rw [hj, amPut_same] at q1
        cases q1
        rw [amPut_ne hk] at q2
        exact (np (.inr ⟨k, q2⟩)).elim
    · by_cases hk : k = i
      · rw [hk, amPut_same] at q2
        cases q2
        rw [amPut_ne hj] at q1
        exact (np (.inr ⟨j, q1⟩)).elim
      · rw [amPut_ne hj] at q1
        rw [amPut_ne hk] at q2
        exact s.inj j k a' q1 q2
  · obtain ⟨o, h1, m⟩ := s.phs b hb
    exact ⟨o, same_new n _ _ h1, m⟩
  · have hj : j ≠ i := fun z => by
      subst z
      rw [s.nba e hc] at q
      cases q
    rw [amPut_ne hj]
    exact s.bas j a' q
  · by_cases hj : j = i
    · subst hj
      rw [List.getElem?_set_self hi] at q
      cases q
    · rw [List.getElem?_set_ne (Ne.symm hj)] at q
      obtain ⟨a2, u, h1, h2, h3, h4, h5⟩ := s.od j o q
      exact ⟨a2, u, by rw [amPut_ne hj]; exact h1, by rw [List.getElem?_set_ne (Ne.symm hj)]; exact h2, same_new n _ _ h3, dor_mono st.hid h4, h5⟩
/-- a list of one's own is changed -/
theorem hid_own (h : am i = some a) {o : HO} : hid ph am (upd H a o) = hid ph am H := by
  funext b
  unfold hid
  by_cases hb : Hid ph am b
  · rw [if_pos hb, if_pos hb]
  · rw [if_neg hb, if_neg hb, upd_ne]
    intro z
    subst z
    exact hb (.inr ⟨i, h⟩)
theorem step_mut (h : am i = some a) {u : HO} (e : H a = some u) : Step am H am (upd H a (.lst vs)) :=
  ⟨fun b o q n => by rw [upd_ne (fun z => n i (by rw [z]; exact h))]; exact q, fun j b q => .inl ⟨j, q⟩, fun b o q => by
    by_cases z : b = a
    · subst z
      exact ⟨_, upd_same⟩
    · exact ⟨o, by rw [upd_ne z]; exact q⟩⟩
theorem SR.mut (s : SR K ph am σ H δ) {b : Bool} (e : δ[i]? = some (.ow b ds)) (h : am i = some a) {ds' : List PyData} {vs' : List V} (dv : DqAll K (hid ph am H) vs' ds') (hz : vs'.length ≤ sizeLine) :
    SR K ph am σ (upd H a (.lst vs')) (δ.set i (.ow b ds')) := by
  have hi : i < δ.length := (List.getElem?_eq_some_iff.mp e).1
  obtain ⟨a0, vs0, e1, e2, e3, e4, e5, e6⟩ := s.ow i b ds e
  rw [h] at e1
  cases e1
  have hh : ∀ o, hid ph am (upd H a o) = hid ph am H := fun o => hid_own h
  refine ⟨by rw [List.length_set, s.len], fun j d' q => ?_, fun j b' ds2 q => ?_, fun j a' q => ?_, s.inj, fun c hc => ?_, s.bas, fun j o q => ?_⟩
  · have hj : j ≠ i := fun z => by
      subst z
      rw [List.getElem?_set_self hi] at q
      cases q
    rw [List.getElem?_set_ne (Ne.symm hj)] at q
    rw [hh]
    exact s.fz j d' q
  · by_cases hj : j = i
    · subst hj
      rw [List.getElem?_set_self hi] at q
      cases q
      exact ⟨a, vs', h, e2, upd_same, by rw [hh]; exact dv, hz, e6⟩
    · rw [List.getElem?_set_ne (Ne.symm hj)] at q
      obtain ⟨a2, vs2, h1, h2, h3, h4, h5, h6⟩ := s.ow j b' ds2 q
      have na : a2 ≠ a := fun z => hj (s.inj j i a (by rw [← z]; exact h1) h)
      exact ⟨a2, vs2, h1, h2, by rw [upd_ne na]; exact h3, by rw [hh]; exact h4, h5, h6⟩
  · obtain ⟨h1, c2, h2, h3⟩ := s.amf j a' q
    by_cases hj : j = i
    · exact ⟨h1, .ow b ds', by rw [hj]; exact List.getElem?_set_self hi, trivial⟩
    · exact ⟨h1, c2, by rw [List.getElem?_set_ne (Ne.symm hj)]; exact h2, h3⟩
  · obtain ⟨o, h1, m⟩ := s.phs c hc
    have na : c ≠ a := fun z => (s.amf i a h).1 (by rw [← z]; exact hc)
    exact ⟨o, by rw [upd_ne na]; exact h1, m⟩
  · by_cases hj : j = i
    · subst hj
      rw [List.getElem?_set_self hi] at q
      cases q
    · rw [List.getElem?_set_ne (Ne.symm hj)] at q
      obtain ⟨a2, u, h1, h2, h3, h4, h5⟩ := s.od j o q
      have na : a2 ≠ a := fun z => hj (s.inj j i a (by rw [← z]; exact h1) h)
      exact ⟨a2, u, h1, h2, by rw [upd_ne na]; exact h3, by rw [hh]; exact h4, h5⟩

/-! ### canonical readings -/
theorem PE.weak {t t' : TE} (h : PE X e t) (w : ∀ σ H Q, t' σ H Q → t σ H Q) : PE X e t' := ⟨fun pins s σ H Q I q => h.run pins s σ H Q I (w σ H Q q)⟩
theorem PT.weak {t t' : TT} (h : PT X e t) (w : ∀ σ H Q, t' σ H Q → t σ H Q) : PT X e t' := ⟨fun pins s σ H Q I q => h.run pins s σ H Q I (w σ H Q q)⟩
def tOf (K : PySem.W.Frag) (mg : Str → Option Value) (W : WX) (f : M PyData) : TE := fun σ H Q => ∃ ph am δ ans δ', SR K ph am σ H δ ∧ f δ = some (ans, δ') ∧
  (∀ d, ans = .ok d → ∀ am' v H', Step am H am' H' → SR K ph am' σ H' δ' → Dq K (hid ph am' H') v d → Q v H') ∧ (∀ c fs, ans = .ex c fs → XPm K mg W ph am σ H δ' c fs)
def ttOf (K : PySem.W.Frag) (mg : Str → Option Value) (W : WX) (f : M Bool) : TT := fun σ H Q => ∃ ph am δ ans δ', SR K ph am σ H δ ∧ f δ = some (ans, δ') ∧
  (∀ b, ans = .ok b → ∀ am' H', Step am H am' H' → SR K ph am' σ H' δ' → Q b H') ∧ (∀ c fs, ans = .ex c fs → XPm K mg W ph am σ H δ' c fs)
theorem DE.can (d : DE X W e f) : PE X e (tOf X.K X.mg W f) := by
  obtain ⟨t, p, q⟩ := d.ex
  refine PE.weak p fun σ H Q ⟨ph, am, δ, ans, δ', s, e, k, kx⟩ => q ph am σ H δ Q ans δ' s e k kx
theorem DT.can (d : DT X W e fb) : PT X e (ttOf X.K X.mg W fb) := by
  obtain ⟨t, p, q⟩ := d.ex
  refine PT.weak p fun σ H Q ⟨ph, am, δ, ans, δ', s, e, k, kx⟩ => q ph am σ H δ Q ans δ' s e k kx

/-! ### targets -/
abbrev Tg := PyData → Sg → Option Sg
def ReadG (X : Cx) (t : TG) (s : Tg) : Prop := ∀ (ph : Fx) (am : Am) (σ : L2.St) (H : Hp) (δ δ' : Sg) (v : V) (d : PyData) (Q : L2.St → Hp → Prop), SR X.K ph am σ H δ → Dq X.K (hid ph am H) v d → s d δ = some δ' →
  (∀ am' σ', Step am H am' H → SR X.K ph am' σ' H δ' → Q σ' H) → t v σ H Q
structure DG (X : Cx) (tg : Expr) (s : Tg) : Prop where
  ex : ∃ t, PG X tg t ∧ ReadG X t s
def tgOf (K : PySem.W.Frag) (s : Tg) : TG := fun v σ H Q => ∃ ph am δ δ' d, SR K ph am σ H δ ∧ Dq K (hid ph am H) v d ∧ s d δ = some δ' ∧ (∀ am' σ', Step am H am' H → SR K ph am' σ' H δ' → Q σ' H)
theorem DG.can {tg : Expr} {s : Tg} (d : DG X tg s) : PG X tg (tgOf X.K s) := by
  obtain ⟨t, p, q⟩ := d.ex
  exact ⟨fun pins st σ H v u Q I r ⟨ph, am, δ, δ', dd, s1, s2, s3, k⟩ => p.run pins st σ H v u Q I r (q ph am σ H δ δ' v dd Q s1 s2 s3 k)⟩
def sName (i : Nat) : Tg := fun d δ => match δ[i]? with
  | some c => if c.free = true then some (δ.set i (.fz d)) else none
  | none => none
theorem sName_some {i : Nat} (h : sName i d δ = some δ') : ∃ c, δ[i]? = some c ∧ c.free = true ∧ δ' = δ.set i (.fz d) := by
  unfold sName at h
  split at h
  · rename_i c e
    obtain ⟨h1, rfl⟩ := if_some h
    exact ⟨c, e, h1, rfl⟩
  · cases h
theorem dg_name {i : Nat} {x : Str} (hN : X.N.Nodup) (hi : X.N[i]? = some x := by rfl) (hx : Loc X.env.scope x := by first | exact Or.inl rfl | exact Or.inr rfl) (hf : X.fn x = true ∨ X.env.scope.names.lookup x = some .local := by first | exact .inl rfl | exact .inr rfl) : DG X (.Name x pos) (sName i) :=
  ⟨⟨gName i, pg_name hN hi hx hf, fun ph am σ H δ δ' v d Q s dv q k => by
    obtain ⟨c, e1, e2, rfl⟩ := sName_some q
    exact k _ _ step_drop (s.put e1 e2 dv)⟩⟩
abbrev Tgs := List PyData → Sg → Option Sg
structure DGs (X : Cx) (ts : List Expr) (s : Tgs) : Prop where
  ex : ∃ t, PGs X ts t ∧ ∀ (ph : Fx) (am : Am) (σ : L2.St) (H : Hp) (δ δ' : Sg) (vs : List V) (ds : List PyData) (Q : L2.St → Hp → Prop), SR X.K ph am σ H δ → DqAll X.K (hid ph am H) vs ds → s ds δ = some δ' →
    (∀ am' σ', Step am H am' H → SR X.K ph am' σ' H δ' → Q σ' H) → t vs σ H Q
def sNil : Tgs := fun ds δ => match ds with
  | [] => some δ
  | _ :: _ => none
def sCons (s : Tg) (r : Tgs) : Tgs := fun ds δ => match ds with
  | [] => none
  | d :: ds => match s d δ with
    | some δ1 => r ds δ1
    | none => none
theorem dgs_nil : DGs X [] sNil := ⟨⟨gNil, pgs_nil, fun ph am σ H δ δ' vs ds Q s dv q k => by
  cases dv with
  | nil => cases q; exact ⟨rfl, k am σ Step.refl s⟩
  | cons _ _ => cases q⟩⟩
theorem dgs_cons {tg : Expr} {ts : List Expr} {s : Tg} {r : Tgs} (h : DG X tg s) (t : DGs X ts r) (hs : (assignEach (tg :: ts) X.env).map (·.2) = assign tg X.env :: (assignEach ts X.env).map (·.2) := by rfl) : DGs X (tg :: ts) (sCons s r) := by
  obtain ⟨t1, p1, q1⟩ := h.ex
  obtain ⟨t2, p2, q2⟩ := t.ex
  refine ⟨⟨_, pgs_cons p1 p2 hs, fun ph am σ H δ δ' vs ds Q s dv q k => ?_⟩⟩
  cases dv with
  | nil => cases q
  | cons dv dt =>
    rename_i v vs d ds
    unfold sCons at q
    simp only at q
    split at q
    · rename_i δ1 e1
      refine ⟨v, vs, rfl, q1 ph am σ H δ δ1 v d _ s dv e1 fun am1 σ1 st1 s1 => ?_⟩
      exact q2 ph am1 σ1 H δ1 δ' vs ds Q s1 (dps_mono st1.hid dt) q fun am2 σ2 st2 s2 => k am2 σ2 (st1.trans st2) s2
    · cases q
def sTup (n : Nat) (r : Tgs) : Tg := fun d δ => match d with
  | .tuple ds => if ds.length = n then r ds δ else none
  | _ => none
theorem dg_tup {ts : List Expr} {k n : Nat} {r : Tgs} (hc : X.calm = true) (t : DGs X ts r) (hn : (assignEach ts X.env).length = n := by rfl) (hst : (assignEach ts X.env).findIdx? (·.1) = none := by rfl) : DG X (.Tuple ts k pos) (sTup n r) := by
  obtain ⟨t2, p2, q2⟩ := t.ex
  refine ⟨⟨_, pg_tup hc p2 hn hst, fun ph am σ H δ δ' v d Q s dv q k => ?_⟩⟩
  cases dv with
  | tup h1 a1 =>
    unfold sTup at q
    simp only at q
    split at q
    · rename_i hl
      exact ⟨_, _, rfl, seqT_hid h1, by rw [a1.length]; exact hl, q2 ph am σ H δ δ' _ _ Q s a1 q k⟩
    · cases q
  | _ => cases q
end PD
end

section
set_option Elab.async false
set_option linter.all false
set_option maxRecDepth 100000
set_option maxHeartbeats 1000000
namespace PD
open PySem PySem.Spec PyProof.Rows L2
variable {X : Cx} {W : WX} {pos : Pos} {e e1 e2 e3 : Expr} {es : List Expr} {f g h : M PyData} {fs : M (List PyData)} {fb gb : M Bool}
variable {K : PySem.W.Frag} {ph : Fx} {am am' am1 : Am} {H H' H1 : Hp} {σ σ' : L2.St} {δ δ' δ1 : Sg} {a p p1 p2 : Addr} {v : V} {vs : List V} {d : PyData} {ds : List PyData} {i : Nat}

inductive Flo where
  | nx | bk | ct
  | rt (d : PyData)
  | rf (ds : List PyData)
  | ro (ds : List PyData)
abbrev MS := M Flo
/-- what is wanted at an end -/
def EndOk (K : PySem.W.Frag) (ph : Fx) (am : Am) (H : Hp) (δ' : Sg) (D : Ends) : Flo → Prop
  | .nx => ∀ am' σ' H', Step am H am' H' → SR K ph am' σ' H' δ' → D.nx σ' H'
  | .bk => ∀ am' σ' H', Step am H am' H' → SR K ph am' σ' H' δ' → D.bk σ' H'
  | .ct => ∀ am' σ' H', Step am H am' H' → SR K ph am' σ' H' δ' → D.ct σ' H'
  | .rt d => ∀ am' σ' v H', Step am H am' H' → SR K ph am' σ' H' δ' → Dq K (hid ph am' H') v d → D.rt v H'
  | .rf ds => ∀ am' σ' p vs H', H p = none → H' p = none → Step am H am' H' → SR K ph am' σ' H' δ' → DqAll K (hid ph am' H') vs ds → vs.length ≤ sizeLine → D.rt (.ref p) (upd H' p (.lst vs))
  | .ro ds => ∀ am' σ' i p vs H', Step am H am' H' → SR K ph am' σ' H' δ' → δ'[i]? = some (.ow false ds) → am' i = some p → H' p = some (.lst vs) → DqAll K (hid ph am' H') vs ds → vs.length ≤ sizeLine → D.rt (.ref p) H'
theorem EndOk.step {D : Ends} {fl : Flo} (st : Step am H am1 H1) (k : EndOk K ph am H δ' D fl) : EndOk K ph am1 H1 δ' D fl := by
  cases fl with
  | nx => exact fun am' σ' H' s1 s2 => k am' σ' H' (st.trans s1) s2
  | bk => exact fun am' σ' H' s1 s2 => k am' σ' H' (st.trans s1) s2
  | ct => exact fun am' σ' H' s1 s2 => k am' σ' H' (st.trans s1) s2
  | rt d => exact fun am' σ' v H' s1 s2 => k am' σ' v H' (st.trans s1) s2
  | rf ds => exact fun am' σ' p vs H' n1 n2 s1 s2 => k am' σ' p vs H' (st.none n1) n2 (st.trans s1) s2
  | ro ds => exact fun am' σ' i p vs H' s1 s2 => k am' σ' i p vs H' (st.trans s1) s2
def ReadS (X : Cx) (W : WX) (t : TS) (g : MS) : Prop := ∀ (ph : Fx) (am : Am) (σ : L2.St) (H : Hp) (δ : Sg) (D : Ends) (ans : Ans Flo) (δ' : Sg), SR X.K ph am σ H δ → g δ = some (ans, δ') →
  (∀ fl, ans = .ok fl → EndOk X.K ph am H δ' D fl) → (∀ c fs, ans = .ex c fs → XPS X W ph am H δ' c fs) → t D σ H
structure DS (X : Cx) (W : WX) (st : Stmt) (g : MS) : Prop where
  ex : ∃ t, PS X st t ∧ ReadS X W t g
structure DSs (X : Cx) (W : WX) (st : List Stmt) (g : MS) : Prop where
  ex : ∃ t, PSs X st t ∧ ReadS X W t g
variable {st : Stmt} {sts : List Stmt} {gs hs : MS}
def sSkip : MS := ret .nx
def sSeq (g h : MS) : MS := fun δ => match g δ with
  | some (.ok .nx, δ1) => h δ1
  | r => r
theorem sSeq_some {g h : MS} {ans : Ans Flo} (q : sSeq g h δ = some (ans, δ')) : (∃ δ1, g δ = some (.ok .nx, δ1) ∧ h δ1 = some (ans, δ')) ∨ (g δ = some (ans, δ') ∧ ans ≠ .ok .nx) := by
  unfold sSeq at q
  split at q
  · rename_i δ1 e
    exact .inl ⟨δ1, e, q⟩
  · rename_i hne
    refine .inr ⟨q, fun z => ?_⟩
    subst z
    exact hne δ' q
theorem dss_nil : DSs X W [] sSkip := ⟨⟨tNext, pss_nil, fun ph am σ H δ D ans δ' s q k _ => by cases q; exact k _ rfl am σ H Step.refl s⟩⟩
theorem dss_one (h1 : DS X W st gs) : DSs X W [st] gs := by
  obtain ⟨t, p, q⟩ := h1.ex
  exact ⟨⟨t, pss_one p, q⟩⟩
theorem seq_read {t u : TS} (q1 : ReadS X W t gs) (q2 : ReadS X W u hs) : ReadS X W (tSeq t u) (sSeq gs hs) := by
  intro ph am σ H δ D ans δ' s q k kx
  rcases sSeq_some q with ⟨δ1, e1, e2⟩ | ⟨e1, ne⟩
  · refine q1 ph am σ H δ _ _ _ s e1 (fun fl z => ?_) (fun c fs z => by cases z)
    cases z
    intro am1 σ1 H1 st1 s1
    exact q2 ph am1 σ1 H1 δ1 D ans δ' s1 e2 (fun fl z => (k fl z).step st1) fun c fs z => (kx c fs z).step st1
  · refine q1 ph am σ H δ _ _ _ s e1 (fun fl z => ?_) kx
    subst z
    cases fl with
    | nx => exact (ne rfl).elim
    | bk => exact k _ rfl
    | ct => exact k _ rfl
    | rt d => exact k _ rfl
    | rf ds => exact k _ rfl
    | ro ds => exact k _ rfl
theorem dss_cons (h1 : DS X W st gs) (h2 : DSs X W sts hs) : DSs X W (st :: sts) (sSeq gs hs) := by
  obtain ⟨t1, p1, q1⟩ := h1.ex
  obtain ⟨t2, p2, q2⟩ := h2.ex
  exact ⟨⟨_, pss_cons p1 p2, seq_read q1 q2⟩⟩
/-! ### returns, expressions -/
def sRet (f : M PyData) : MS := bnd f fun d => ret (.rt d)
theorem ds_ret (he : DE X W e f) : DS X W (.Return (some e) pos) (sRet f) := by
  obtain ⟨t, p, q⟩ := he.ex
  refine ⟨⟨_, ps_ret p, fun ph am σ H δ D ans δ' s z k kx => ?_⟩⟩
  rcases bnd_some z with ⟨d, δ1, e1, e2⟩ | ⟨c, fs, e1, e2⟩
  · cases e2
    exact q ph am σ H δ _ _ _ s e1 (fun d ed am1 v H1 st1 s1 d1 => by cases ed; exact k _ rfl am1 σ v H1 st1 s1 d1) (fun c fs z => by cases z)
  · subst e2
    exact q ph am σ H δ _ _ _ s e1 (fun d ed => by cases ed) (fun c' fs' z => by cases z; exact (kx _ _ rfl).at)
def sRetF (f : M (List PyData)) : MS := bnd f fun d => ret (.rf d)
theorem ds_retF (he : DF X W e fs) : DS X W (.Return (some e) pos) (sRetF fs) := by
  obtain ⟨t, p, q⟩ := he.ex
  refine ⟨⟨_, ps_ret p, fun ph am σ H δ D ans δ' s z k kx => ?_⟩⟩
  rcases bnd_some z with ⟨d, δ1, e1, e2⟩ | ⟨c, fs, e1, e2⟩
  · cases e2
    exact q ph am σ H δ _ _ _ s e1 (fun d ed am1 p vs H1 n0 n1 st1 s1 d1 hz => by cases ed; exact k _ rfl am1 σ p vs H1 n0 n1 st1 s1 d1 hz) (fun c fs z => by cases z)
  · subst e2
    exact q ph am σ H δ _ _ _ s e1 (fun d ed => by cases ed) (fun c' fs' z => by cases z; exact (kx _ _ rfl).at)
/-- a list of its own handed back -/
def sRetO (i : Nat) : MS := fun δ => match δ[i]? with
  | some (.ow false ds) => some (.ok (.ro ds), δ)
  | _ => none
theorem ds_retO {i : Nat} {x : Str} {pn : Pos} (hN : X.N[i]? = some x := by rfl) (hv : Vis X.env.scope x := by first | exact Or.inl rfl | exact Or.inr (Or.inl rfl) | exact Or.inr (Or.inr rfl)) (hd : (x == ("__debug__" : Str)) = false := by decide)
    (hcd : (x == ("__classdict__" : Str)) = false := by decide) : DS X W (.Return (some (.Name x pn)) pos) (sRetO i) := by
  refine ⟨⟨_, ps_ret (pe_var hN hv hd hcd), fun ph am σ H δ D ans δ' s z k kx => ?_⟩⟩
  unfold sRetO at z
  split at z
  · rename_i ds e
    cases z
    obtain ⟨a, vs, o1, o2, o3, o4, o5, o6⟩ := s.ow i false ds e
    exact ⟨.ref a, o2, k _ rfl am σ i a vs H Step.refl s e o1 o3 o4 o5⟩
  · cases z
theorem ds_retN : DS X W (.Return none pos) (ret (.rt .none)) := ⟨⟨tRetN, ps_retN, fun ph am σ H δ D ans δ' s z k kx => by
  cases z
  exact k _ rfl am σ .non H Step.refl s .non⟩⟩
def sDrop (f : M PyData) : MS := bnd f fun _ => ret .nx
theorem ds_expr (he : DE X W e f) (hs : swapsWith e none pos.line X.env = pure false := by rfl) : DS X W (.Expr e pos) (sDrop f) := by
  obtain ⟨t, p, q⟩ := he.ex
  refine ⟨⟨_, ps_expr p hs, fun ph am σ H δ D ans δ' s z k kx => ?_⟩⟩
  rcases bnd_some z with ⟨d, δ1, e1, e2⟩ | ⟨c, fs, e1, e2⟩
  · cases e2
    exact q ph am σ H δ _ _ _ s e1 (fun d ed am1 v H1 st1 s1 d1 => by cases ed; exact k _ rfl am1 σ H1 st1 s1) (fun c fs z => by cases z)
  · subst e2
    exact q ph am σ H δ _ _ _ s e1 (fun d ed => by cases ed) (fun c' fs' z => by cases z; exact (kx _ _ rfl).at)
theorem ds_pass : DS X W (.Pass pos) sSkip := ⟨⟨tNext, ps_pass, fun ph am σ H δ D ans δ' s q k _ => by cases q; exact k _ rfl am σ H Step.refl s⟩⟩
theorem ds_break : DS X W (.Break pos) (ret .bk) := ⟨⟨tBreak, ps_break, fun ph am σ H δ D ans δ' s q k _ => by cases q; exact k _ rfl am σ H Step.refl s⟩⟩
theorem ds_continue : DS X W (.Continue pos) (ret .ct) := ⟨⟨tCont, ps_continue, fun ph am σ H δ D ans δ' s q k _ => by cases q; exact k _ rfl am σ H Step.refl s⟩⟩
def sIf (c : M Bool) (g h : MS) : MS := bnd c fun b => if b = true then g else h
theorem ds_if {a b : List Stmt} (hc : DT X W e fb) (ha : DSs X W a gs) (hb : DSs X W b hs) : DS X W (.If e a b pos) (sIf fb gs hs) := by
  obtain ⟨tc, pc, qc⟩ := hc.ex
  obtain ⟨ta, pa, qa⟩ := ha.ex
  obtain ⟨tb, pb, qb⟩ := hb.ex
  refine ⟨⟨_, ps_if pc pa pb, fun ph am σ H δ D ans δ' s q k kx => ?_⟩⟩
  rcases bnd_some q with ⟨x, δ1, e1, q1⟩ | ⟨c, fs, e1, q1⟩
  · refine qc ph am σ H δ _ _ _ s e1 (fun d ed am1 H1 st1 s1 => ?_) (fun c fs z => by cases z)
    cases ed
    cases x with
    | true =>
      rw [if_pos rfl] at q1
      exact iteT (qa ph am1 σ H1 δ1 D _ _ s1 q1 (fun fl z => (k fl z).step st1) fun c fs z => (kx c fs z).step st1)
    | false =>
      rw [if_neg Bool.false_ne_true] at q1
      exact iteF (qb ph am1 σ H1 δ1 D _ _ s1 q1 (fun fl z => (k fl z).step st1) fun c fs z => (kx c fs z).step st1)
  · subst q1
    exact qc ph am σ H δ _ _ _ s e1 (fun d ed => by cases ed) (fun c' fs' z => by cases z; exact (kx _ _ rfl).at)
/-! ### stores -/
def sAsg (f : M PyData) (s : Tg) : MS := bnd f fun d => fun δ => match s d δ with
  | some δ' => some (.ok .nx, δ')
  | none => none
theorem asg_read {t : TE} {u : TG} {s : Tg} (q1 : ReadE X W t f) (q2 : ReadG X u s) : ReadS X W (tAsg t u) (sAsg f s) := by
  intro ph am σ H δ D ans δ' sr z k kx
  rcases bnd_some z with ⟨d, δ1, e1, e2⟩ | ⟨c, fs, e1, e2⟩
  · refine q1 ph am σ H δ _ _ _ sr e1 (fun d ed am1 v H1 st1 s1 d1 => ?_) (fun c fs z => by cases z)
    cases ed
    split at e2
    · rename_i δ2 e3
      cases e2
      exact q2 ph am1 σ H1 δ1 _ v d _ s1 d1 e3 fun am2 σ2 st2 s2 => k _ rfl am2 σ2 H1 (st1.trans st2) s2
    · cases e2
  · subst e2
    exact q1 ph am σ H δ _ _ _ sr e1 (fun d ed => by cases ed) (fun c' fs' z => by cases z; exact (kx _ _ rfl).at)
theorem ds_asg {tg : Expr} {s : Tg} (he : DE X W e f) (hg : DG X tg s) (hs : swapsWithSole [tg] e pos.line X.env = pure false := by rfl) (hw : swappedStores [tg] e X.env = pure none := by rfl)
    (h1 : (assignEach [tg] X.env).map (·.2) = [assign tg X.env] := by rfl) : DS X W (.Assign [tg] e pos) (sAsg f s) := by
  obtain ⟨t, p, q⟩ := he.ex
  obtain ⟨u, pu, qu⟩ := hg.ex
  exact ⟨⟨_, ps_asg p pu hs hw h1, asg_read q qu⟩⟩
theorem ds_set {i : Nat} {x : Str} {pos' : Pos} (hN : X.N.Nodup) (he : DE X W e f) (hi : X.N[i]? = some x := by rfl) (hx : Loc X.env.scope x := by first | exact Or.inl rfl | exact Or.inr rfl) (hs : swapsWith e (some (.Name x pos')) pos.line X.env = pure false := by rfl)
    (hf : X.fn x = true ∨ X.env.scope.names.lookup x = some .local := by first | exact .inl rfl | exact .inr rfl) : DS X W (.Assign [.Name x pos'] e pos) (sAsg f (sName i)) := by
  obtain ⟨t, p, q⟩ := he.ex
  exact ⟨⟨_, ps_set hN hi hx p hs hf, asg_read q fun ph am σ H δ δ' v d Q s dv q k => by
    obtain ⟨c, e1, e2, rfl⟩ := sName_some q
    exact k _ _ step_drop (s.put e1 e2 dv)⟩⟩
/-- a new list that the name is to own -/
def sOwn (f : M (List PyData)) (i : Nat) : MS := bnd f fun ds => fun δ => match δ[i]? with
  | some c => if c.free = true then some (.ok .nx, δ.set i (.ow false ds)) else none
  | none => none
theorem own_read {t : TE} (q1 : ReadF X W t fs) : ReadS X W (tAsg t (gName i)) (sOwn fs i) := by
  intro ph am σ H δ D ans δ' sr z k kx
  rcases bnd_some z with ⟨ds, δ1, e1, e2⟩ | ⟨c, fs, e1, e2⟩
  · refine q1 ph am σ H δ _ _ _ sr e1 (fun d ed am1 p vs H1 n0 n1 st1 s1 d1 hz => ?_) (fun c fs z => by cases z)
    cases ed
    split at e2
    · rename_i c e3
      obtain ⟨h1, e4⟩ := if_some e2
      cases e4
      exact k _ rfl (amPut am1 i p) _ _ (st1.trans (step_put n1)) (s1.putOwn e3 h1 n1 d1 hz)
    · cases e2
  · subst e2
    exact q1 ph am σ H δ _ _ _ sr e1 (fun d ed => by cases ed) (fun c' fs' z => by cases z; exact (kx _ _ rfl).at)
theorem ds_own {i : Nat} {x : Str} {pos' : Pos} (hN : X.N.Nodup) (he : DF X W e fs) (hi : X.N[i]? = some x := by rfl) (hx : Loc X.env.scope x := by first | exact Or.inl rfl | exact Or.inr rfl) (hs : swapsWith e (some (.Name x pos')) pos.line X.env = pure false := by rfl)
    (hf : X.fn x = true ∨ X.env.scope.names.lookup x = some .local := by first | exact .inl rfl | exact .inr rfl) : DS X W (.Assign [.Name x pos'] e pos) (sOwn fs i) := by
  obtain ⟨t, p, q⟩ := he.ex
  exact ⟨⟨_, ps_set hN hi hx p hs hf, own_read q⟩⟩
/-- xs[k] = e, xs owned -/
def sSub (f : M PyData) (i : Nat) (g : M PyData) : MS := bnd f fun d => fun δ1 => match δ1[i]? with
  | some (.ow _ _) => (bnd g fun k => fun δ2 => match δ2[i]?, k with
    | some (.ow b ds), .int n => match ixN ds.length n with
      | some j => some (.ok .nx, δ2.set i (.ow b (ds.set j d)))
      | none => none
    | _, _ => none) δ1
  | _ => none
theorem ds_sub {i : Nat} {x : Str} {pn ps' : Pos} (he : DE X W e f) (hk : DE X W e2 g) (hN : X.N[i]? = some x := by rfl) (hv : Vis X.env.scope x := by first | exact Or.inl rfl | exact Or.inr (Or.inl rfl) | exact Or.inr (Or.inr rfl)) (hd : (x == ("__debug__" : Str)) = false := by decide) (hcd : (x == ("__classdict__" : Str)) = false := by decide)
    (ha : ∀ v, assign (.Subscript (.Name x pn) e2 ps') X.env v = (do
      let ov ← holding [v] (eval (.Name x pn) X.env)
      let iv ← holding [v, ov] (eval e2 X.env)
      standAt ps'
      holding [v, ov, iv] (setItem ov iv v)
      release [v, ov, iv] []) := by intro _; rfl)
    (hs : swapsWithSole [.Subscript (.Name x pn) e2 ps'] e pos.line X.env = pure false := by rfl) (hw : swappedStores [.Subscript (.Name x pn) e2 ps'] e X.env = pure none := by rfl)
    (h1 : (assignEach [.Subscript (.Name x pn) e2 ps'] X.env).map (·.2) = [assign (.Subscript (.Name x pn) e2 ps') X.env] := by rfl) : DS X W (.Assign [.Subscript (.Name x pn) e2 ps'] e pos) (sSub f i g) := by
  obtain ⟨t, p, q⟩ := he.ex
  obtain ⟨t2, p2, q2⟩ := hk.ex
  refine ⟨⟨_, ps_asg p (pg_sub (pe_var hN hv hd hcd) p2 set_list ha) hs hw h1, fun ph am σ H δ D ans δ' sr z k kx => ?_⟩⟩
  rcases bnd_some z with ⟨d, δ1, e1, e2⟩ | ⟨c, fs, e1, e2⟩
  · refine q ph am σ H δ _ _ _ sr e1 (fun d ed am1 v H1 st1 s1 d1 => ?_) (fun c fs z => by cases z)
    cases ed
    split at e2
    · rename_i b0 ds0 e3
      obtain ⟨a0, vs0, o1, o2, o3, o4, _, _⟩ := s1.ow i b0 ds0 e3
      refine ⟨.ref a0, o2, ?_⟩
      rcases bnd_some e2 with ⟨n, δ2, e4, e5⟩ | ⟨c, fs, e4, e5⟩
      · refine q2 ph am1 σ H1 δ1 _ _ _ s1 e4 (fun d ed am2 w H2 st2 s2 d2 => ?_) (fun c fs z => by cases z)
        cases ed
        split at e5
        · rename_i b ds k' e6
          cases d2 with
          | int n =>
            obtain ⟨a1, vs1, r1, r2, r3, r4, r5, r6⟩ := s2.ow i b ds e6
            rw [o2] at r2
            cases r2
            split at e5
            · rename_i j e7
              cases e5
              refine ⟨a0, vs1, _, j, rfl, rfl, r3, by rw [r4.length]; exact e7, ?_⟩
              exact k _ rfl am2 σ _ ((st1.trans st2).trans (step_mut r1 r3)) (s2.mut e6 r1 (r4.set (dp_mono st2.hid d1) j) (by rw [List.length_set]; exact r5))
            · cases e5
        · cases e5
      · subst e5
        exact q2 ph am1 σ H1 δ1 _ _ _ s1 e4 (fun d ed => by cases ed) (fun c' fs' z => by cases z; exact ((kx _ _ rfl).step st1).at)
    · cases e2
  · subst e2
    exact q ph am σ H δ _ _ _ sr e1 (fun d ed => by cases ed) (fun c' fs' z => by cases z; exact (kx _ _ rfl).at)
/-- xs.append(e), xs owned -/
def sApp (i : Nat) (f : M PyData) : MS := fun δ => match δ[i]? with
  | some (.ow _ _) => (bnd f fun d => fun δ1 => match δ1[i]? with
    | some (.ow b ds) => if ds.length < sizeLine then some (.ok .nx, δ1.set i (.ow b (ds ++ [d]))) else none
    | _ => none) δ
  | _ => none
theorem ds_app {i : Nat} {x : Str} {pn apos cpos : Pos} (he : DE X W e f) (hN : X.N[i]? = some x := by rfl) (hv : Vis X.env.scope x := by first | exact Or.inl rfl | exact Or.inr (Or.inl rfl) | exact Or.inr (Or.inr rfl)) (hd : (x == ("__debug__" : Str)) = false := by decide) (hcd : (x == ("__classdict__" : Str)) = false := by decide)
    (hs0 : starEach [e] X.env = (false, eval e X.env) :: starEach [] X.env := by rfl)
    (hbase : attributeBase (.Name x pn) "append" X.env (eval (.Name x pn) X.env) = eval (.Name x pn) X.env := by rfl)
    (hfew : ((backTo cpos (starEach [e] X.env)).all (fun x => !x.1) && (backToKw cpos (keywordEach [] X.env)).all (fun x => x.1.isSome)
      && decide (([e] : List Expr).length + ([] : List Keyword).length + (if ([] : List Keyword).isEmpty then 0 else 1) < 30)) = true := by rfl)
    (hline : (apos.endLine == cpos.line) = true := by rfl) (hplain : (backTo cpos (starEach [] X.env)).any (·.1) = false := by rfl)
    (hs : swapsWith (.Call (.Attribute (.Name x pn) "append" apos) [e] [] cpos) none pos.line X.env = pure false := by rfl) : DS X W (.Expr (.Call (.Attribute (.Name x pn) "append" apos) [e] [] cpos) pos) (sApp i f) := by
  obtain ⟨t, p, q⟩ := he.ex
  refine ⟨⟨_, ps_expr (pe_bm PySem.F.plainAttrs_list PySem.F.slot_list_append PySem.F.type_list_append mt_append (pe_var hN hv hd hcd) (pa_cons p pa_nil hs0) hbase hfew hline hs0 hplain) hs, fun ph am σ H δ D ans δ' sr z k kx => ?_⟩⟩
  unfold sApp at z
  split at z
  · rename_i b0 ds0 e3
    obtain ⟨a0, vs0, o1, o2, o3, o4, _, _⟩ := sr.ow i b0 ds0 e3
    refine ⟨.ref a0, o2, .inl ⟨rfl, _, .inl (.inl o3)⟩, ?_⟩
    rcases bnd_some z with ⟨d, δ2, e4, e5⟩ | ⟨c, fs, e4, e5⟩
    · refine q ph am σ H δ _ _ _ sr e4 (fun d ed am2 w H2 st2 s2 d2 => ?_) (fun c fs z => by cases z)
      cases ed
      split at e5
      · rename_i b ds e6
        obtain ⟨a1, vs1, r1, r2, r3, r4, r5, r6⟩ := s2.ow i b ds e6
        rw [o2] at r2
        cases r2
        obtain ⟨hz, e8⟩ := if_some e5
        cases e8
        refine ⟨a0, vs1, w, rfl, rfl, r3, by rw [r4.length]; exact hz, ?_⟩
        exact k _ rfl am2 σ _ (st2.trans (step_mut r1 r3)) (s2.mut e6 r1 (r4.append (.cons d2 .nil)) (by rw [List.length_append, r4.length]; exact hz))
      · cases e5
    · subst e5
      exact q ph am σ H δ _ _ _ sr e4 (fun d ed => by cases ed) (fun c' fs' z => by cases z; exact (kx _ _ rfl).at)
  · cases z
/-! ### reading what one owns, without freezing -/
def xIxO (i : Nat) (g : M PyData) : M PyData := fun δ => match δ[i]? with
  | some (.ow _ _) => (bnd g fun b => fun δ1 => match δ1[i]? with
    | some (.ow _ ds) => lif (ixD (.list ds) b) δ1
    | _ => none) δ
  | _ => none
theorem de_ixo {i : Nat} {x : Str} {pn : Pos} (hp : PlainIx e2) (hb : DE X W e2 g) (hN : X.N[i]? = some x := by rfl) (hv : Vis X.env.scope x := by first | exact Or.inl rfl | exact Or.inr (Or.inl rfl) | exact Or.inr (Or.inr rfl)) (hd : (x == ("__debug__" : Str)) = false := by decide) (hcd : (x == ("__classdict__" : Str)) = false := by decide) :
    DE X W (.Subscript (.Name x pn) e2 pos) (xIxO i g) := by
  obtain ⟨t, p, q⟩ := hb.ex
  refine ⟨⟨_, pe_ix ix_list (pe_var hN hv hd hcd) p hp, fun ph am σ H δ Q ans δ' sr z k kx => ?_⟩⟩
  unfold xIxO at z
  split at z
  · rename_i b0 ds0 e3
    obtain ⟨a0, vs0, o1, o2, o3, o4, _, _⟩ := sr.ow i b0 ds0 e3
    refine ⟨.ref a0, o2, ?_⟩
    rcases bnd_some z with ⟨d, δ2, e4, e5⟩ | ⟨c, fs, e4, e5⟩
    · refine q ph am σ H δ _ _ _ sr e4 (fun d ed am2 w H2 st2 s2 d2 => ?_) (fun c fs z => by cases z)
      cases ed
      split at e5
      · rename_i b ds e6
        obtain ⟨a1, vs1, r1, r2, r3, r4, r5, r6⟩ := s2.ow i b ds e6
        rw [o2] at r2
        cases r2
        obtain ⟨c, e7, rfl, rfl⟩ := lif_some e5
        cases d2 with
        | int n =>
          obtain ⟨v', h1, h2⟩ := atI_get r4 e7
          exact ⟨a0, vs1, n, v', rfl, rfl, .inl (.inl r3), h1, k _ rfl am2 v' H2 st2 s2 h2⟩
        | _ => cases e7
      · cases e5
    · subst e5
      exact q ph am σ H δ _ _ _ sr e4 (fun d ed => by cases ed) (fun c' fs' z => by cases z; exact kx _ _ rfl)
  · cases z
/-- len(xs) -/
def xLenO (i : Nat) : M PyData := fun δ => match δ[i]? with
  | some (.ow _ ds) => some (.ok (.int ds.length), δ)
  | _ => none
theorem de_leno {i : Nat} {x : Str} {pn pf : Pos} (hm : X.mg "len" = none) (hN : X.N[i]? = some x := by rfl) (hv : Vis X.env.scope x := by first | exact Or.inl rfl | exact Or.inr (Or.inl rfl) | exact Or.inr (Or.inr rfl)) (hd : (x == ("__debug__" : Str)) = false := by decide) (hcd : (x == ("__classdict__" : Str)) = false := by decide) (hg : Gl X "len" := by rfl)
    (he : starEach [.Name x pn] X.env = (false, eval (.Name x pn) X.env) :: starEach [] X.env := by rfl) (hpl : (backTo pos (starEach [] X.env)).any (·.1) = false := by rfl) : DE X W (.Call (.Name "len" pf) [.Name x pn] [] pos) (xLenO i) := by
  refine ⟨⟨_, pe_callB call_len_seq hg hm PySem.boot_len (pa_cons (pe_var hN hv hd hcd) pa_nil he) (by decide) (by decide) he hpl, fun ph am σ H δ Q ans δ' sr z k kx => ?_⟩⟩
  unfold xLenO at z
  split at z
  · rename_i b0 ds0 e3
    cases z
    obtain ⟨a0, vs0, o1, o2, o3, o4, _, _⟩ := sr.ow i b0 ds0 e3
    exact ⟨.ref a0, o2, a0, vs0, rfl, .inl (.inl (.inl o3)), k _ rfl am _ H Step.refl sr (by rw [o4.length]; exact .int _)⟩
  · cases z
/-- xs == e, xs != e: what comes is no part of xs -/
def xCmpO (F : PyData → PyData → Option PyData) (i : Nat) (g : M PyData) : M PyData := fun δ => match δ[i]? with
  | some (.ow _ _) => (bnd g fun b => fun δ1 => match δ1[i]? with
    | some (.ow _ ds) => match F (.list ds) b with
      | some (.bool c) => some (.ok (.bool c), δ1)
      | _ => none
    | _ => none) δ
  | _ => none
theorem cmpo_read {i : Nat} {t : TE} {r : R2} {F : PyData → PyData → Option PyData} (hr : OpD X r F) (q : ReadE X W t g) : ReadE X W (tOp r (tVar i) t) (xCmpO F i g) := by
  intro ph am σ H δ Q ans δ' sr z k kx
  unfold xCmpO at z
  split at z
  · rename_i b0 ds0 e3
    obtain ⟨a0, vs0, o1, o2, o3, o4, _, _⟩ := sr.ow i b0 ds0 e3
    refine ⟨.ref a0, o2, ?_⟩
    rcases bnd_some z with ⟨d, δ2, e4, e5⟩ | ⟨c, fs, e4, e5⟩
    · refine q ph am σ H δ _ _ _ sr e4 (fun d ed am2 w H2 st2 s2 d2 => ?_) (fun c fs z => by cases z)
      cases ed
      split at e5
      · rename_i b ds e6
        obtain ⟨a1, vs1, r1, r2, r3, r4, r5, r6⟩ := s2.ow i b ds e6
        rw [o2] at r2
        cases r2
        split at e5
        · rename_i c e7
          cases e5
          have st : Step am2 H2 (amDrop am2 i) H2 := step_drop
          have na : ¬ Hid ph (amDrop am2 i) a0 := by
            rintro (q | ⟨j, q⟩)
            · exact (s2.amf i a0 r1).1 q
            · obtain ⟨n, q⟩ := amDrop_some.mp q
              exact n (s2.inj j i a0 q r1)
          refine hr ph (amDrop am2 i) H2 _ w (.list ds) _ (.bool c) Q (fun b h => s2.hidden ?_) (.lst (.inl (.inl (hid_some.mpr ⟨na, r3⟩))) (dps_mono st.hid r4)) (dp_mono st.hid d2) e7 fun v H3 sm dv => ?_
          · rcases h with h | ⟨j, h⟩
            · exact .inl h
            · exact .inr ⟨j, (amDrop_some.mp h).2⟩
          · cases dv with
            | bl c => exact k _ rfl am2 _ H3 (st2.trans (Step.of sm)) (s2.same sm) (.bl c)
        · cases e5
      · cases e5
    · subst e5
      exact q ph am σ H δ _ _ _ sr e4 (fun d ed => by cases ed) (fun c' fs' z => by cases z; exact kx _ _ rfl)
  · cases z
theorem de_cmpo {i : Nat} {x : Str} {pn : Pos} {op : CmpOp} {r : R2} {F : PyData → PyData → Option PyData} (hr : OpD X r F) (ho : OpR X (compareOp op) r) (hm : behindInMarks op e2 = false) (hb : DE X W e2 g) (hN : X.N[i]? = some x := by rfl) (hv : Vis X.env.scope x := by first | exact Or.inl rfl | exact Or.inr (Or.inl rfl) | exact Or.inr (Or.inr rfl)) (hd : (x == ("__debug__" : Str)) = false := by decide) (hcd : (x == ("__classdict__" : Str)) = false := by decide) :
    DE X W (.Compare (.Name x pn) [op] [e2] pos) (xCmpO F i g) := by
  obtain ⟨t, p, q⟩ := hb.ex
  exact ⟨⟨_, pe_cmpR ho (pe_var hN hv hd hcd) p hm, cmpo_read hr q⟩⟩
theorem dt_cmpo {i : Nat} {x : Str} {pn : Pos} {op : CmpOp} {r : R2} {F : PyData → PyData → Option PyData} (hr : OpD X r F) (ho : OpR X (compareOp op) r) (hm : behindInMarks op e2 = false) (hb : DE X W e2 g) (hN : X.N[i]? = some x := by rfl) (hv : Vis X.env.scope x := by first | exact Or.inl rfl | exact Or.inr (Or.inl rfl) | exact Or.inr (Or.inr rfl)) (hd : (x == ("__debug__" : Str)) = false := by decide) (hcd : (x == ("__classdict__" : Str)) = false := by decide) :
    DT X W (.Compare (.Name x pn) [op] [e2] pos) (xBool (xCmpO F i g)) := by
  obtain ⟨t, p, q⟩ := hb.ex
  exact ⟨⟨_, pt_cmpR ho (pe_var hN hv hd hcd) p hm, bool_read (cmpo_read hr q)⟩⟩
end PD
end

section
set_option Elab.async false
set_option linter.all false
set_option maxRecDepth 100000
set_option maxHeartbeats 1000000
namespace PD
open PySem PySem.Spec PyProof.Rows L2
variable {X : Cx} {W : WX} {pos : Pos} {e e1 e2 e3 : Expr} {es : List Expr} {f g h : M PyData} {fs : M (List PyData)} {fb gb : M Bool}
variable {K : PySem.W.Frag} {ph : Fx} {am am' am1 : Am} {H H' H1 : Hp} {σ σ' : L2.St} {δ δ' δ1 : Sg} {a p p1 p2 : Addr} {v : V} {vs : List V} {d : PyData} {ds : List PyData} {i : Nat}

/-- what is walked gives ds, one after another, whatever the turns do -/
def WalkD (K : PySem.W.Frag) (ph : Fx) (am : Am) (H : Hp) (J : It) (ds : List PyData) : Prop :=
  ∃ (G : Hp → Prop) (Y : Nat → Hp → V → Hp → Prop), Walk J ds.length G Y ∧ (∀ (ph2 : Fx) am2 H2, (∀ b o, hid ph am H b = some o → hid ph2 am2 H2 b = some o) → G H2) ∧
    ∀ i x H2 H3 (ph2 : Fx) am2, i < ds.length → (∀ b o, hid ph am H b = some o → hid ph2 am2 H2 b = some o) → (∀ b, Hid ph2 am2 b → ∃ o, H2 b = some o) → Y i H2 x H3 →
      ∃ d, ds[i]? = some d ∧ Same H2 H3 ∧ Dq K (hid ph2 am2 H3) x d
def ReadI (X : Cx) (W : WX) (t : TI) (f : M (List PyData)) : Prop := ∀ (ph : Fx) (am : Am) (σ : L2.St) (H : Hp) (δ : Sg) (R : It → Hp → Prop) (ans : Ans (List PyData)) (δ' : Sg), SR X.K ph am σ H δ → f δ = some (ans, δ') →
  (∀ ds, ans = .ok ds → ∀ am' H' J, Step am H am' H' → SR X.K ph am' σ H' δ' → WalkD X.K ph am' H' J ds → R J H') → (∀ c fs, ans = .ex c fs → XP X W ph am σ H δ' c fs) → t σ H R
structure DI (X : Cx) (W : WX) (tg iter : Expr) (f : M (List PyData)) : Prop where
  ex : ∃ t, PI X tg iter t ∧ ReadI X W t f
/-! ### the walks -/
def seqD : PyData → Option (List PyData)
  | .list xs => some xs
  | .tuple xs => some xs
  | _ => none
theorem seq_rd {x : V} (h : Dq K (hid ph am H) x d) (e : seqD d = some ds) : ∃ k a xs, x = .ref a ∧ SqK k K (hid ph am H) a xs ∧ DqAll K (hid ph am H) xs ds := by
  cases h with
  | lst h1 a1 => cases e; exact ⟨true, _, _, rfl, h1, a1⟩
  | tup h1 a1 => cases e; exact ⟨false, _, _, rfl, .inl (.inl h1), a1⟩
  | _ => cases e
theorem sqK_mono {k : Bool} {xs : List V} (s : Same H H') (q : SqK k K H a xs) : SqK k K H' a xs := by
  cases k with
  | true => exact s.seq (show SqL K H a xs from q)
  | false => exact seqT_mono s (show SqT K H a xs from q)
theorem sqK_hid {k : Bool} {xs : List V} (q : SqK k K (hid ph am H) a xs) : SqK k K H a xs := sqK_mono hid_sub q
theorem at_dq {xs : List V} {x : V} (h : DqAll K H xs ds) (e : xs[i]? = some x) : ∃ d, ds[i]? = some d ∧ Dq K H x d := by
  have hi : i < ds.length := by rw [← h.length]; exact (List.getElem?_eq_some_iff.mp e).1
  obtain ⟨v, h1, h2⟩ := h.get (i := i) (List.getElem?_eq_getElem hi)
  rw [e] at h1
  cases h1
  exact ⟨_, List.getElem?_eq_getElem hi, h2⟩
theorem walkD_list {xs : List V} (q : SqL K (hid ph am H) a xs) (h : DqAll K (hid ph am H) xs ds) : WalkD K ph am H (Itl K a) ds := by
  refine ⟨_, _, by rw [← h.length]; exact walk_list (xs := xs), fun ph2 am2 H2 s => hid_sub.seq (Same.seq (H := hid ph am H) (H' := hid ph2 am2 H2) s q), fun i x H2 H3 ph2 am2 hi s hn y => ?_⟩
  obtain ⟨rfl, y⟩ := y
  obtain ⟨d, h1, h2⟩ := at_dq h y
  exact ⟨d, h1, Same.refl _, dp_mono s h2⟩
theorem walkD_tup {xs : List V} (q : SqT K (hid ph am H) a xs) (h : DqAll K (hid ph am H) xs ds) : WalkD K ph am H (Itt K a) ds := by
  refine ⟨_, _, by rw [← h.length]; exact walk_tup (xs := xs), fun ph2 am2 H2 s => seqT_mono hid_sub (seqT_mono (H := hid ph am H) (H' := hid ph2 am2 H2) s q), fun i x H2 H3 ph2 am2 hi s hn y => ?_⟩
  obtain ⟨rfl, y⟩ := y
  obtain ⟨d, h1, h2⟩ := at_dq h y
  exact ⟨d, h1, Same.refl _, dp_mono s h2⟩
def xSeq (f : M PyData) : M (List PyData) := bnd f fun d => lif (seqD d)
theorem di_seq {tg : Expr} (he : DE X W e f) : DI X W tg e (xSeq f) := by
  obtain ⟨t, p, q⟩ := he.ex
  refine ⟨⟨_, pi_seqK p, fun ph am σ H δ R ans δ' s z k kx => ?_⟩⟩
  rcases bnd_some z with ⟨d, δ1, e1, e2⟩ | ⟨c, fs, e1, e2⟩
  · refine q ph am σ H δ _ _ _ s e1 (fun d' ed am1 v H1 st1 s1 d1 => ?_) (fun c fs z => by cases z)
    cases ed
    obtain ⟨ds, e3, rfl, rfl⟩ := lif_some e2
    cases d1 with
    | lst h1 a1 =>
      cases e3
      exact ⟨_, rfl, .inl ⟨⟨_, rd_hid h1⟩, k _ rfl am1 H1 _ st1 s1 (walkD_list h1 a1)⟩⟩
    | tup h1 a1 =>
      cases e3
      exact ⟨_, rfl, .inr ⟨⟨_, seqT_hid h1⟩, k _ rfl am1 H1 _ st1 s1 (walkD_tup (.inl (.inl h1)) a1)⟩⟩
    | _ => cases e3
  · subst e2
    exact q ph am σ H δ _ _ _ s e1 (fun d ed => by cases ed) (fun c' fs' z => by cases z; exact kx _ _ rfl)
/-! range -/
def rangeL (lo : Int) (n : Nat) : List PyData := (List.range n).map fun i => .int (lo + (i : Nat))
theorem rangeL_length (lo : Int) (n : Nat) : (rangeL lo n).length = n := by simp [rangeL]
theorem walkD_range {lo : Int} {n : Nat} : WalkD K ph am H (Itr lo n) (rangeL lo n) := by
  refine ⟨_, _, by rw [rangeL_length]; exact walk_range, fun _ _ _ _ => trivial, fun i x H2 H3 ph2 am2 hi s hn y => ?_⟩
  obtain ⟨rfl, rfl⟩ := y
  rw [rangeL_length] at hi
  exact ⟨.int (lo + i), by simp [rangeL, hi], Same.refl _, .int _⟩
def fit62 (i : Int) : Bool := decide (-(2 ^ 62) ≤ i) && decide (i < 2 ^ 62)
def range1D : List PyData → Option (List PyData)
  | [.int j] => if fit62 j = true then some (rangeL 0 j.toNat) else none
  | _ => none
def range2D : List PyData → Option (List PyData)
  | [.int i, .int j] => if fit62 i = true ∧ fit62 j = true then some (rangeL i (j - i).toNat) else none
  | _ => none
def xCallF' (F : List PyData → Option (List PyData)) (fs : M (List PyData)) : M (List PyData) := bnd fs fun ds => lif (F ds)
variable {tg : Expr} {pf : Pos}
theorem di_range1 (hm : X.mg "range" = none) (h : DA X W [e] fs) (hg : Gl X "range" := by rfl) (hs : starEach [e] X.env = [(false, eval e X.env)] := by rfl) : DI X W tg (.Call (.Name "range" pf) [e] [] pos) (xCallF' range1D fs) := by
  obtain ⟨t, p, q⟩ := h.ex
  refine ⟨⟨_, pi_range1 hg hm p hs, fun ph am σ H δ R ans δ' s z k kx => ?_⟩⟩
  rcases bnd_some z with ⟨d, δ1, e1, e2⟩ | ⟨c, fs, e1, e2⟩
  · refine q ph am σ H δ _ _ _ s e1 (fun d' ed am1 v H1 st1 s1 d1 => ?_) (fun c fs z => by cases z)
    cases ed
    obtain ⟨ds, e3, rfl, rfl⟩ := lif_some e2
    cases d1 with
    | nil => cases e3
    | cons h1 t1 =>
      cases t1 with
      | cons _ _ => cases h1 <;> cases e3
      | nil =>
        cases h1 with
        | int j =>
          obtain ⟨h2, rfl⟩ := if_some e3
          unfold fit62 at h2
          simp only [Bool.and_eq_true, decide_eq_true_eq] at h2
          exact ⟨j, rfl, h2.1, h2.2, k _ rfl am1 H1 _ st1 s1 walkD_range⟩
        | _ => cases e3
  · subst e2
    exact q ph am σ H δ _ _ _ s e1 (fun d ed => by cases ed) (fun c' fs' z => by cases z; exact kx _ _ rfl)
theorem di_range2 (hm : X.mg "range" = none) (h : DA X W [e, e2] fs) (hg : Gl X "range" := by rfl) (hs : starEach [e, e2] X.env = [(false, eval e X.env), (false, eval e2 X.env)] := by rfl) (hs2 : starEach [e2] X.env = [(false, eval e2 X.env)] := by rfl) : DI X W tg (.Call (.Name "range" pf) [e, e2] [] pos) (xCallF' range2D fs) := by
  obtain ⟨t, p, q⟩ := h.ex
  refine ⟨⟨_, pi_range2 hg hm p hs hs2, fun ph am σ H δ R ans δ' s z k kx => ?_⟩⟩
  rcases bnd_some z with ⟨d, δ1, e1, e2⟩ | ⟨c, fs, e1, e2⟩
  · refine q ph am σ H δ _ _ _ s e1 (fun d' ed am1 v H1 st1 s1 d1 => ?_) (fun c fs z => by cases z)
    cases ed
    obtain ⟨ds, e3, rfl, rfl⟩ := lif_some e2
    cases d1 with
    | nil => cases e3
    | cons h1 t1 =>
      cases t1 with
      | nil => cases h1 <;> cases e3
      | cons h2 t2 =>
        cases t2 with
        | cons _ _ => cases h1 <;> cases h2 <;> cases e3
        | nil =>
          cases h1 with
          | int i =>
            cases h2 with
            | int j =>
              obtain ⟨h2, rfl⟩ := if_some e3
              unfold fit62 at h2
              simp only [Bool.and_eq_true, decide_eq_true_eq] at h2
              exact ⟨i, j, rfl, ⟨h2.1.1, h2.1.2, h2.2.1, h2.2.2⟩, k _ rfl am1 H1 _ st1 s1 walkD_range⟩
            | _ => cases e3
          | _ => cases e3
  · subst e2
    exact q ph am σ H δ _ _ _ s e1 (fun d ed => by cases ed) (fun c' fs' z => by cases z; exact kx _ _ rfl)
/-! zip, enumerate -/
def pairL : List PyData → List PyData → List PyData
  | x :: xs, y :: ys => .tuple [x, y] :: pairL xs ys
  | _, _ => []
theorem pairL_length : ∀ xs ys : List PyData, (pairL xs ys).length = min xs.length ys.length
  | [], ys => by simp [pairL]
  | x :: xs, [] => by simp [pairL]
  | x :: xs, y :: ys => by simp only [pairL, List.length_cons, pairL_length xs ys]; omega
theorem pairL_get : ∀ {xs ys : List PyData} {i : Nat} {x y : PyData}, xs[i]? = some x → ys[i]? = some y → (pairL xs ys)[i]? = some (.tuple [x, y])
  | [], _, _, _, _, h, _ => by simp at h
  | _ :: _, [], _, _, _, _, h => by simp at h
  | x :: xs, y :: ys, 0, _, _, h1, h2 => by simp at h1 h2; subst h1 h2; rfl
  | x :: xs, y :: ys, i + 1, _, _, h1, h2 => by
    simp at h1 h2
    simpa [pairL] using pairL_get h1 h2
def zipD : List PyData → Option (List PyData)
  | [a, b] => match seqD a, seqD b with
    | some xs, some ys => some (pairL xs ys)
    | _, _ => none
  | _ => none
theorem walkD_zip {k1 k2 : Bool} {b : Addr} {xs ys : List V} {es : List PyData} (q1 : SqK k1 K (hid ph am H) a xs) (q2 : SqK k2 K (hid ph am H) b ys) (h1 : DqAll K (hid ph am H) xs ds) (h2 : DqAll K (hid ph am H) ys es) : WalkD K ph am H (ItzK k1 k2 K a b) (pairL ds es) := by
  refine ⟨_, _, walk_zipK (xs := xs) (ys := ys) (by rw [pairL_length, h1.length, h2.length]), fun ph2 am2 H2 s => ⟨sqK_hid (sqK_mono s q1), sqK_hid (sqK_mono s q2)⟩, fun i x H2 H3 ph2 am2 hi s hn y => ?_⟩
  obtain ⟨T, x1, y1, rfl, nT, rfl, e1, e2⟩ := y
  obtain ⟨d1, f1, g1⟩ := at_dq h1 e1
  obtain ⟨d2, f2, g2⟩ := at_dq h2 e2
  exact ⟨_, pairL_get f1 f2, same_new nT, new_tup hn nT (.cons (dp_mono s g1) (.cons (dp_mono s g2) .nil))⟩
variable {tpos : Pos} {elts : List Expr} {kk : Nat}
theorem di_zip (hm : X.mg "zip" = none) (h : DA X W [e, e2] fs) (hg : Gl X "zip" := by rfl) (hs : starEach [e, e2] X.env = (false, eval e X.env) :: starEach [e2] X.env := by rfl) (hpl : (backTo pos (starEach [e2] X.env)).any (·.1) = false := by rfl) :
    DI X W (.Tuple elts kk tpos) (.Call (.Name "zip" pf) [e, e2] [] pos) (xCallF' zipD fs) := by
  obtain ⟨t, p, q⟩ := h.ex
  refine ⟨⟨_, pi_zipK hg hm p hs hpl, fun ph am σ H δ R ans δ' s z k kx => ?_⟩⟩
  rcases bnd_some z with ⟨d, δ1, e1, e2⟩ | ⟨c, fs, e1, e2⟩
  · refine q ph am σ H δ _ _ _ s e1 (fun d' ed am1 v H1 st1 s1 d1 => ?_) (fun c fs z => by cases z)
    cases ed
    obtain ⟨ds, e3, rfl, rfl⟩ := lif_some e2
    cases d1 with
    | nil => cases e3
    | cons h1 t1 =>
      cases t1 with
      | nil => cases e3
      | cons h2 t2 =>
        cases t2 with
        | cons _ _ => cases e3
        | nil =>
          unfold zipD at e3
          simp only at e3
          split at e3
          · rename_i xs ys r1 r2
            cases e3
            obtain ⟨k1, a, us, rfl, q1, z1⟩ := seq_rd h1 r1
            obtain ⟨k2, b, ws, rfl, q2, z2⟩ := seq_rd h2 r2
            exact ⟨k1, k2, a, b, us, ws, rfl, sqK_hid q1, sqK_hid q2, k _ rfl am1 H1 _ st1 s1 (walkD_zip q1 q2 z1 z2)⟩
          · cases e3
  · subst e2
    exact q ph am σ H δ _ _ _ s e1 (fun d ed => by cases ed) (fun c' fs' z => by cases z; exact kx _ _ rfl)
def enumL (ds : List PyData) : List PyData := ds.zipIdx.map fun p => .tuple [.int (p.2 : Nat), p.1]
def enumD : List PyData → Option (List PyData)
  | [a] => (seqD a).map enumL
  | _ => none
theorem walkD_enum {k : Bool} {xs : List V} (q1 : SqK k K (hid ph am H) a xs) (h1 : DqAll K (hid ph am H) xs ds) : WalkD K ph am H (IteK k K a) (enumL ds) := by
  refine ⟨_, _, by rw [show (enumL ds).length = xs.length by rw [h1.length]; simp [enumL]]; exact walk_enumK (xs := xs), fun ph2 am2 H2 s => sqK_hid (sqK_mono s q1), fun i x H2 H3 ph2 am2 hi s hn y => ?_⟩
  obtain ⟨T, x1, y1, rfl, nT, rfl, e1, e2⟩ := y
  cases e1
  obtain ⟨d2, f2, g2⟩ := at_dq h1 e2
  exact ⟨_, by simp [enumL, f2], same_new nT, new_tup hn nT (.cons (.int _) (.cons (dp_mono s g2) .nil))⟩
theorem di_enum (hm : X.mg "enumerate" = none) (h : DA X W [e] fs) (hg : Gl X "enumerate" := by rfl) (hs : starEach [e] X.env = [(false, eval e X.env)] := by rfl) :
    DI X W (.Tuple elts kk tpos) (.Call (.Name "enumerate" pf) [e] [] pos) (xCallF' enumD fs) := by
  obtain ⟨t, p, q⟩ := h.ex
  refine ⟨⟨_, pi_enumK hg hm p hs, fun ph am σ H δ R ans δ' s z k kx => ?_⟩⟩
  rcases bnd_some z with ⟨d, δ1, e1, e2⟩ | ⟨c, fs, e1, e2⟩
  · refine q ph am σ H δ _ _ _ s e1 (fun d' ed am1 v H1 st1 s1 d1 => ?_) (fun c fs z => by cases z)
    cases ed
    obtain ⟨ds, e3, rfl, rfl⟩ := lif_some e2
    cases d1 with
    | nil => cases e3
    | cons h1 t1 =>
      cases t1 with
      | cons _ _ => cases e3
      | nil =>
        rename_i dd
        replace e3 : (seqD dd).map enumL = some ds := e3
        cases r1 : seqD dd with
        | none => rw [r1] at e3; cases e3
        | some xs =>
          rw [r1] at e3
          cases e3
          obtain ⟨k1, a, us, rfl, q1, z1⟩ := seq_rd h1 r1
          exact ⟨k1, a, us, rfl, sqK_hid q1, k _ rfl am1 H1 _ st1 s1 (walkD_enum q1 z1)⟩
  · subst e2
    exact q ph am σ H δ _ _ _ s e1 (fun d ed => by cases ed) (fun c' fs' z => by cases z; exact kx _ _ rfl)

/-! ### for -/
variable {gs hs : MS} {body : List Stmt}
def loopD (set : Tg) (b : MS) : List PyData → MS
  | [], δ => some (.ok .nx, δ)
  | d :: ds, δ => match set d δ with
    | none => none
    | some δ1 => match b δ1 with
      | some (.ok .nx, δ2) => loopD set b ds δ2
      | some (.ok .ct, δ2) => loopD set b ds δ2
      | some (.ok .bk, δ2) => some (.ok .nx, δ2)
      | r => r
def sFor (it : M (List PyData)) (set : Tg) (b : MS) : MS := bnd it fun ds => loopD set b ds
theorem ds_for {iter : Expr} {set : Tg} (hp : PassesOwn (model X.prog X.w) X.A X.env X.xe) (hc : X.calm = true) (hi : DI X W tg iter fs) (hg : DG X tg set) (hb : DSs X W body gs) (hs : ∀ x, foldedSetIterable iter X.env x = pure x := by intro _; rfl) :
    DS X W (.For tg iter body [] pos) (sFor fs set gs) := by
  obtain ⟨ti, pi, qi⟩ := hi.ex
  obtain ⟨tgt, pg, qg⟩ := hg.ex
  obtain ⟨tb, pb, qb⟩ := hb.ex
  refine ⟨⟨_, ps_for hp hc pi pg pb hs, fun ph am σ H δ D ans δ' s z k kx => ?_⟩⟩
  rcases bnd_some z with ⟨ds, δ1, e1, e2⟩ | ⟨c, fs, e1, e2⟩
  · refine qi ph am σ H δ _ _ _ s e1 (fun d' ed am1 H1 J st1 s1 wd => ?_) (fun c fs z => by cases z)
    cases ed
    obtain ⟨G, Y, w, hG, hY⟩ := wd
    refine for_it w (fun i σ' H' => ∃ am2 δ2, Step am1 H1 am2 H' ∧ SR X.K ph am2 σ' H' δ2 ∧ loopD set gs (ds.drop i) δ2 = some (ans, δ')) ⟨am1, δ1, Step.refl, s1, e2⟩ (fun i σ' H' _ ⟨am2, δ2, st, _, _⟩ => hG ph am2 H' st.hid) (fun i x σ' H2 H3 hi ⟨am2, δ2, st, s2, el⟩ y => ?_) (fun σ' H' ⟨am2, δ2, st, s2, el⟩ => ?_)
    · obtain ⟨d, hd, sm, dq⟩ := hY i x H2 H3 ph am2 hi st.hid (fun b h => s2.hidden h) y
      have hdr : ds.drop i = d :: ds.drop (i + 1) := by
        obtain ⟨h1, h2⟩ := List.getElem?_eq_some_iff.mp hd
        rw [List.drop_eq_getElem_cons h1, h2]
      rw [hdr] at el
      unfold loopD at el
      have s3 := s2.same sm
      split at el
      · cases el
      · rename_i δ3 es
        refine qg ph am2 σ' H3 δ2 δ3 x d _ s3 dq es fun am4 σ4 st4 s4 => ?_
        have stA : Step am1 H1 am4 H3 := (st.trans (Step.of sm)).trans st4
        split at el
        · rename_i δ4 eb
          exact qb ph am4 σ4 H3 δ3 _ _ _ s4 eb (fun fl z => by cases z; exact fun am5 σ5 H5 st5 s5 => ⟨am5, δ4, stA.trans st5, s5, el⟩) (fun c fs z => by cases z)
        · rename_i δ4 eb
          exact qb ph am4 σ4 H3 δ3 _ _ _ s4 eb (fun fl z => by cases z; exact fun am5 σ5 H5 st5 s5 => ⟨am5, δ4, stA.trans st5, s5, el⟩) (fun c fs z => by cases z)
        · rename_i δ4 eb
          cases el
          exact qb ph am4 σ4 H3 δ3 _ _ _ s4 eb (fun fl z => by cases z; exact fun am5 σ5 H5 st5 s5 => k _ rfl am5 σ5 H5 ((st1.trans stA).trans st5) s5) (fun c fs z => by cases z)
        · rename_i n1 n2 n3
          refine qb ph am4 σ4 H3 δ3 _ ans δ' s4 el (fun fl z => ?_) (fun c fs z => (kx c fs z).step (st1.trans stA))
          subst z
          cases fl with
          | nx => exact (n1 _ el).elim
          | ct => exact (n2 _ el).elim
          | bk => exact (n3 _ el).elim
          | rt d => exact fun am5 σ5 v H5 st5 s5 d5 => k _ rfl am5 σ5 v H5 ((st1.trans stA).trans st5) s5 d5
          | rf ds => exact fun am5 σ5 p vs H5 m1 m2 st5 s5 d5 => k _ rfl am5 σ5 p vs H5 ((st1.trans stA).none m1) m2 ((st1.trans stA).trans st5) s5 d5
          | ro ds => exact fun am5 σ5 i p vs H5 st5 s5 d5 => k _ rfl am5 σ5 i p vs H5 ((st1.trans stA).trans st5) s5 d5
    · rw [List.drop_length] at el
      cases el
      exact k _ rfl am2 σ' H' (st1.trans st) s2
  · subst e2
    exact qi ph am σ H δ _ _ _ s e1 (fun d ed => by cases ed) (fun c' fs' z => by cases z; exact (kx _ _ rfl).at)
end PD
end

section
set_option Elab.async false
set_option linter.all false
set_option maxRecDepth 100000
set_option maxHeartbeats 1000000
namespace PD
open PySem PySem.Spec PyProof.Rows L2
variable {X : Cx} {W : WX} {pos : Pos} {e e1 e2 e3 : Expr} {es : List Expr} {f g h : M PyData} {fs : M (List PyData)} {fb gb : M Bool}
variable {K : PySem.W.Frag} {ph : Fx} {am am' am1 : Am} {H H' H1 : Hp} {σ σ' : L2.St} {δ δ' δ1 : Sg} {a p p1 p2 D : Addr} {v : V} {vs : List V} {d : PyData} {ds : List PyData} {i : Nat}

/-! ### a heap without the new list -/
def del (D : Addr) (H : Hp) : Hp := fun b => if b = D then none else H b
theorem del_same : del D H D = none := by simp [del]
theorem del_ne {b : Addr} (h : b ≠ D) : del D H b = H b := by simp [del, h]
theorem del_upd {o : HO} : del D (upd H D o) = del D H := by
  funext b
  by_cases h : b = D
  · rw [h, del_same, del_same]
  · rw [del_ne h, del_ne h, upd_ne h]
theorem del_new {o : HO} (n : H D = none) : del D (upd H D o) = H := by
  funext b
  by_cases h : b = D
  · rw [h, del_same, n]
  · rw [del_ne h, upd_ne h]
theorem upd_del {o : HO} (e : H D = some o) : upd (del D H) D o = H := by
  funext b
  by_cases h : b = D
  · rw [h, upd_same, e]
  · rw [upd_ne h, del_ne h]
/-- D hidden too -/
def Fx.also (ph : Fx) (D : Addr) : Fx := ⟨fun b => ph.ph b ∨ b = D, ph.ba⟩
theorem hid_also : hid (ph.also D) am H = hid ph am (del D H) := by
  funext b
  unfold hid
  by_cases hD : b = D
  · rw [hD, del_same, if_pos (show Hid (ph.also D) am D from .inl (.inr rfl))]
    split <;> rfl
  · rw [del_ne hD]
    have : Hid (ph.also D) am b ↔ Hid ph am b := by
      unfold Hid Fx.also
      constructor
      · rintro ((q | q) | q)
        · exact .inl q
        · exact (hD q).elim
        · exact .inr q
      · rintro (q | q)
        · exact .inl (.inl q)
        · exact .inr q
    by_cases h : Hid ph am b
    · rw [if_pos h, if_pos (this.mpr h)]
    · rw [if_neg h, if_neg (fun z => h (this.mp z))]
theorem SR.also (s : SR K ph am σ (del D H) δ) {o : HO} (e : H D = some o) (hm : mu o := by intro _ z; cases z) : SR K (ph.also D) am σ H δ := by
  have aD : ∀ i a, am i = some a → a ≠ D := fun i a h z => by
    obtain ⟨o', h'⟩ := s.hidden (.inr ⟨i, h⟩)
    rw [z, del_same] at h'
    cases h'
  refine ⟨s.len, fun i d q => by rw [hid_also]; exact s.fz i d q, fun i b ds q => ?_, fun i a q => ?_, s.inj, fun b hb => ?_, s.bas, fun i o q => ?_⟩
  · obtain ⟨a, vs, h1, h2, h3, h4, h5⟩ := s.ow i b ds q
    exact ⟨a, vs, h1, h2, by rw [del_ne (aD i a h1)] at h3; exact h3, by rw [hid_also]; exact h4, h5⟩
  · obtain ⟨h1, h2⟩ := s.amf i a q
    exact ⟨fun z => z.elim h1 (aD i a q), h2⟩
  · rcases hb with hb | hb
    · obtain ⟨o', h', m⟩ := s.phs b hb
      have : b ≠ D := fun z => by
        rw [z, del_same] at h'
        cases h'
      rw [del_ne this] at h'
      exact ⟨o', h', m⟩
    · exact ⟨o, by rw [hb]; exact e, hm⟩
  · obtain ⟨a, u, h1, h2, h3, h4, h5⟩ := s.od i o q
    exact ⟨a, u, h1, h2, by rw [del_ne (aD i a h1)] at h3; exact h3, by rw [hid_also]; exact h4, h5⟩
theorem SR.unalso (s : SR K (ph.also D) am σ H δ) (hph : ¬ ph.ph D) : SR K ph am σ (del D H) δ := by
  have aD : ∀ i a, am i = some a → a ≠ D := fun i a h z => (s.amf i a h).1 (.inr z)
  refine ⟨s.len, fun i d q => by rw [← hid_also]; exact s.fz i d q, fun i b ds q => ?_, fun i a q => ?_, s.inj, fun b hb => ?_, s.bas, fun i o q => ?_⟩
  · obtain ⟨a, vs, h1, h2, h3, h4, h5⟩ := s.ow i b ds q
    exact ⟨a, vs, h1, h2, by rw [del_ne (aD i a h1)]; exact h3, by rw [← hid_also]; exact h4, h5⟩
  · obtain ⟨h1, h2⟩ := s.amf i a q
    exact ⟨fun z => h1 (.inl z), h2⟩
  · obtain ⟨o', h', m⟩ := s.phs b (.inl hb)
    have : b ≠ D := fun z => hph (by rw [← z]; exact hb)
    exact ⟨o', by rw [del_ne this]; exact h', m⟩
  · obtain ⟨a, u, h1, h2, h3, h4, h5⟩ := s.od i o q
    exact ⟨a, u, h1, h2, by rw [del_ne (aD i a h1)]; exact h3, by rw [← hid_also]; exact h4, h5⟩
theorem Step.del (st : Step am H am' H') (hD : ∀ i, am' i ≠ some D) : Step am (PD.del D H) am' (PD.del D H') where
  keep := fun b o h n => by
    by_cases z : b = D
    · rw [z, del_same] at h; cases h
    · rw [del_ne z] at h ⊢
      exact st.keep b o h n
  new := fun i a h => by
    rcases st.new i a h with q | q
    · exact .inl q
    · refine .inr ?_
      rw [del_ne (fun z => hD i (by rw [← z]; exact h))]
      exact q
  there := fun b o h => by
    by_cases z : b = D
    · rw [z, del_same] at h; cases h
    · rw [del_ne z] at h ⊢
      exact st.there b o h

/-! ### the comprehension's own names -/
def wipeD (δ : Sg) : List Nat → Sg
  | [] => δ
  | i :: r => (wipeD δ r).set i .un
def noOw (δ : Sg) (is : List Nat) : Bool := is.all fun i => match δ[i]? with
  | some (.ow _ _) => false
  | some (.od _) => false
  | _ => true
theorem wipeD_length : ∀ {is : List Nat}, (wipeD δ is).length = δ.length
  | [] => rfl
  | i :: r => by rw [wipeD, List.length_set, wipeD_length]
theorem wipeD_out : ∀ {is : List Nat}, i ∉ is → (wipeD δ is)[i]? = δ[i]?
  | [], _ => rfl
  | j :: r, h => by
    rw [wipeD, List.getElem?_set_ne (fun z => h (by simp [z])), wipeD_out (fun z => h (by simp [z]))]
theorem wipeD_in : ∀ {is : List Nat} {c : Cell}, i ∈ is → (wipeD δ is)[i]? = some c → c = .un
  | j :: r, c, h, q => by
    by_cases hj : j = i
    · subst hj
      rw [wipeD] at q
      by_cases hl : j < (wipeD δ r).length
      · rw [List.getElem?_set_self hl] at q
        exact (Option.some.inj q).symm
      · rw [List.getElem?_eq_none (by rw [List.length_set]; omega)] at q
        cases q
    · rw [wipeD, List.getElem?_set_ne hj] at q
      exact wipeD_in (by simpa [Ne.symm hj] using h) q
theorem SR.wipe (s : SR K ph am σ H δ) {is : List Nat} (n : noOw δ is = true) : SR K ph am (L2.wipe σ is) H (wipeD δ is) := by
  have no : ∀ i ∈ is, ∀ c : Cell, c.Own → δ[i]? ≠ some c := fun i hi c co e => by
    have := List.all_eq_true.mp n i hi
    rw [e] at this
    cases c <;> first | exact co.elim | cases this
  refine ⟨by rw [L2.wipe_length, wipeD_length, s.len], fun i d q => ?_, fun i b ds q => ?_, fun i a q => ?_, s.inj, s.phs, s.bas, fun i o q => ?_⟩
  · by_cases hi : i ∈ is
    · cases wipeD_in hi q
    · rw [wipeD_out hi] at q
      rw [L2.wipe_out hi]
      exact s.fz i d q
  · by_cases hi : i ∈ is
    · cases wipeD_in hi q
    · rw [wipeD_out hi] at q
      rw [L2.wipe_out hi]
      exact s.ow i b ds q
  · obtain ⟨h1, c, h2, h3⟩ := s.amf i a q
    exact ⟨h1, c, by rw [wipeD_out (fun hi => no i hi c h3 h2)]; exact h2, h3⟩
  · by_cases hi : i ∈ is
    · cases wipeD_in hi q
    · rw [wipeD_out hi] at q
      rw [L2.wipe_out hi]
      exact s.od i o q
/-- the names as they were, all else as it is -/
def backD (δ0 δ : Sg) : List Nat → Sg
  | [] => δ
  | i :: r => (backD δ0 δ r).set i (δ0.getD i .un)
theorem backD_length {δ0 : Sg} : ∀ {is : List Nat}, (backD δ0 δ is).length = δ.length
  | [] => rfl
  | i :: r => by rw [backD, List.length_set, backD_length]
theorem backD_out {δ0 : Sg} : ∀ {is : List Nat}, i ∉ is → (backD δ0 δ is)[i]? = δ[i]?
  | [], _ => rfl
  | j :: r, h => by
    rw [backD, List.getElem?_set_ne (fun z => h (by simp [z])), backD_out (fun z => h (by simp [z]))]
theorem backD_in {δ0 : Sg} : ∀ {is : List Nat} {c : Cell}, i ∈ is → (backD δ0 δ is)[i]? = some c → c = δ0.getD i .un
  | j :: r, c, h, q => by
    by_cases hj : j = i
    · subst hj
      rw [backD] at q
      by_cases hl : j < (backD δ0 δ r).length
      · rw [List.getElem?_set_self hl] at q
        exact (Option.some.inj q).symm
      · rw [List.getElem?_eq_none (by rw [List.length_set]; omega)] at q
        cases q
    · rw [backD, List.getElem?_set_ne hj] at q
      exact backD_in (by simpa [Ne.symm hj] using h) q
theorem SR.back {δ0 : Sg} {am0 : Am} {H0 : Hp} (s0 : SR K ph am0 σ H0 δ0) (st : Step am0 H0 am H) {is : List Nat} (n0 : noOw δ0 is = true) (s : SR K ph am (L2.wipe σ is) H δ) (n : ∀ i ∈ is, ∀ c, δ[i]? = some c → c = .un) : SR K ph am σ H (backD δ0 δ is) := by
  have no : ∀ i ∈ is, ∀ c : Cell, c.Own → δ0[i]? ≠ some c := fun i hi c co e => by
    have := List.all_eq_true.mp n0 i hi
    rw [e] at this
    cases c <;> first | exact co.elim | cases this
  refine ⟨?_, fun i d q => ?_, fun i b ds q => ?_, fun i a q => ?_, s.inj, s.phs, s.bas, fun i o q => ?_⟩
  · have := s.len
    rw [L2.wipe_length] at this
    rw [backD_length, this]
  · by_cases hi : i ∈ is
    · have e := backD_in hi q
      cases e0 : δ0[i]? with
      | none =>
        rw [List.getD_eq_getElem?_getD, e0] at e
        cases e
      | some c =>
        rw [List.getD_eq_getElem?_getD, e0] at e
        have e' : Cell.fz d = c := e
        subst e'
        obtain ⟨v, h1, h2⟩ := s0.fz i d e0
        exact ⟨v, h1, dp_mono st.hid h2⟩
    · rw [backD_out hi] at q
      obtain ⟨v, h1, h2⟩ := s.fz i d q
      rw [L2.wipe_out hi] at h1
      exact ⟨v, h1, h2⟩
  · by_cases hi : i ∈ is
    · have e := backD_in hi q
      cases e0 : δ0[i]? with
      | none =>
        rw [List.getD_eq_getElem?_getD, e0] at e
        cases e
      | some c =>
        rw [List.getD_eq_getElem?_getD, e0] at e
        have e' : Cell.ow b ds = c := e
        subst e'
        exact (no i hi (.ow b ds) trivial e0).elim
    · rw [backD_out hi] at q
      obtain ⟨a, vs, h1, h2, h3⟩ := s.ow i b ds q
      rw [L2.wipe_out hi] at h2
      exact ⟨a, vs, h1, h2, h3⟩
  · obtain ⟨h1, c, h2, h3⟩ := s.amf i a q
    have hi : i ∉ is := fun hi => by
      have e := n i hi _ h2
      rw [e] at h3
      exact h3.elim
    exact ⟨h1, c, by rw [backD_out hi]; exact h2, h3⟩
  · by_cases hi : i ∈ is
    · have e := backD_in hi q
      cases e0 : δ0[i]? with
      | none =>
        rw [List.getD_eq_getElem?_getD, e0] at e
        cases e
      | some c =>
        rw [List.getD_eq_getElem?_getD, e0] at e
        have e' : Cell.od o = c := e
        subst e'
        exact (no i hi (.od o) trivial e0).elim
    · rw [backD_out hi] at q
      obtain ⟨a, u, h1, h2, h3⟩ := s.od i o q
      rw [L2.wipe_out hi] at h2
      exact ⟨a, u, h1, h2, h3⟩
/-! ### [e for x in xs if t] -/
def compD (is : List Nat) (set : Tg) (t : M Bool) (el : M PyData) : List PyData → List PyData → Sg → Option (List PyData × Sg)
  | [], acc, δ => some (acc, δ)
  | d :: ds, acc, δ => match set d δ with
    | none => none
    | some δ1 => match t δ1 with
      | some (.ok true, δ2) => match el δ2 with
        | some (.ok y, δ3) => if acc.length < sizeLine ∧ noOw δ3 is = true then compD is set t el ds (acc ++ [y]) (wipeD δ3 is) else none
        | _ => none
      | some (.ok false, δ2) => if noOw δ2 is = true then compD is set t el ds acc (wipeD δ2 is) else none
      | _ => none
def xComp (it : M (List PyData)) (is : List Nat) (set : Tg) (t : M Bool) (el : M PyData) : M (List PyData) := bnd it fun ds => fun δ =>
  if noOw δ is = true then match compD is set t el ds [] (wipeD δ is) with
    | some (acc, δ') => some (.ok acc, backD δ δ' is)
    | none => none
  else none
theorem compD_un {is : List Nat} {set : Tg} {t : M Bool} {el : M PyData} : ∀ {ds acc out : List PyData} {δ δ' : Sg}, compD is set t el ds acc δ = some (out, δ') → (∀ i ∈ is, ∀ c, δ[i]? = some c → c = .un) → ∀ i ∈ is, ∀ c, δ'[i]? = some c → c = .un
  | [], acc, out, δ, δ', h, n => by cases h; exact n
  | d :: ds, acc, out, δ, δ', h, n => by
    unfold compD at h
    split at h
    · cases h
    · split at h
      · split at h
        · split at h
          · exact compD_un h fun i hi c q => wipeD_in hi q
          · cases h
        · cases h
      · split at h
        · exact compD_un h fun i hi c q => wipeD_in hi q
        · cases h
      · cases h
abbrev Blk (X : Cx) (scope : Scope) (s : Shared) (H : Hp) (C : Addr) (cl : List (Str × Addr)) (fp : List Addr) : Cx := X.blk s H scope (compEnvC scope cl C X.env) fp
/-- a target of a comprehension: what it stores are the own names -/
structure DGc (X : Cx) (tg : Expr) (is : List Nat) (s : Tg) : Prop where
  ex : ∃ t, PG X tg t ∧ ∀ (ph : Fx) (am : Am) (σ : L2.St) (H : Hp) (δ δ' : Sg) (v : V) (d : PyData) (Q : L2.St → Hp → Prop), SR X.K ph am σ H δ → Dq X.K (hid ph am H) v d → s d δ = some δ' →
    (∀ am' σ', Step am H am' H → SR X.K ph am' σ' H δ' → L2.wipe σ' is = L2.wipe σ is → Q σ' H) → t v σ H Q
def tgcOf (K : PySem.W.Frag) (is : List Nat) (s : Tg) : TG := fun v σ H Q => ∃ ph am δ δ' d, SR K ph am σ H δ ∧ Dq K (hid ph am H) v d ∧ s d δ = some δ' ∧ (∀ am' σ', Step am H am' H → SR K ph am' σ' H δ' → L2.wipe σ' is = L2.wipe σ is → Q σ' H)
theorem DGc.can {tg : Expr} {is : List Nat} {s : Tg} (d : DGc X tg is s) : PG X tg (tgcOf X.K is s) := by
  obtain ⟨t, p, q⟩ := d.ex
  exact ⟨fun pins st σ H v u Q I r ⟨ph, am, δ, δ', dd, s1, s2, s3, k⟩ => p.run pins st σ H v u Q I r (q ph am σ H δ δ' v dd Q s1 s2 s3 k)⟩
theorem wipe_get : ∀ {is : List Nat} {σ : L2.St} {j : Nat}, (L2.wipe σ is)[j]? = if j ∈ is then (σ[j]?).map (fun _ => none) else σ[j]?
  | [], σ, j => by simp [L2.wipe]
  | v :: r, σ, j => by
    rw [L2.wipe]
    by_cases h : v = j
    · subst h
      rw [if_pos (by simp)]
      by_cases hl : v < σ.length
      · rw [List.getElem?_set_self (by rw [L2.wipe_length]; exact hl), List.getElem?_eq_getElem hl]
        rfl
      · rw [List.getElem?_eq_none (by rw [List.length_set, L2.wipe_length]; omega), List.getElem?_eq_none (by omega)]
        rfl
    · rw [List.getElem?_set_ne h, wipe_get]
      by_cases hr : j ∈ r
      · rw [if_pos hr, if_pos (by simp [hr])]
      · rw [if_neg hr, if_neg (by simp [hr, Ne.symm h])]
theorem wipe_set {is : List Nat} {i : Nat} {x : Option V} (h : i ∈ is) : L2.wipe (σ.set i x) is = L2.wipe σ is := by
  apply List.ext_getElem?
  intro j
  rw [wipe_get, wipe_get]
  by_cases hj : j ∈ is
  · rw [if_pos hj, if_pos hj]
    by_cases hl : j < σ.length
    · rw [List.getElem?_eq_getElem (by rw [List.length_set]; exact hl), List.getElem?_eq_getElem hl]
      rfl
    · rw [List.getElem?_eq_none (by rw [List.length_set]; omega), List.getElem?_eq_none (by omega)]
  · rw [if_neg hj, if_neg hj, List.getElem?_set_ne (fun z => hj (by rw [← z]; exact h))]
theorem wipe_wipe {is : List Nat} : L2.wipe (L2.wipe σ is) is = L2.wipe σ is := by
  apply List.ext_getElem?
  intro j
  rw [wipe_get, wipe_get]
  by_cases hj : j ∈ is
  · rw [if_pos hj, if_pos hj]
    cases σ[j]? <;> rfl
  · rw [if_neg hj, if_neg hj]
theorem dgc_name {is : List Nat} {i : Nat} {x : Str} (hN : X.N.Nodup) (hm : i ∈ is) (hi : X.N[i]? = some x := by rfl) (hx : Loc X.env.scope x := by first | exact Or.inl rfl | exact Or.inr rfl) (hf : X.fn x = true ∨ X.env.scope.names.lookup x = some .local := by first | exact .inl rfl | exact .inr rfl) : DGc X (.Name x pos) is (sName i) :=
  ⟨⟨gName i, pg_name hN hi hx hf, fun ph am σ H δ δ' v d Q s dv q k => by
    obtain ⟨c, e1, e2, rfl⟩ := sName_some q
    exact k _ _ step_drop (s.put e1 e2 dv) (wipe_set hm)⟩⟩
structure DGsc (X : Cx) (ts : List Expr) (is : List Nat) (s : Tgs) : Prop where
  ex : ∃ t, PGs X ts t ∧ ∀ (ph : Fx) (am : Am) (σ : L2.St) (H : Hp) (δ δ' : Sg) (vs : List V) (ds : List PyData) (Q : L2.St → Hp → Prop), SR X.K ph am σ H δ → DqAll X.K (hid ph am H) vs ds → s ds δ = some δ' →
    (∀ am' σ', Step am H am' H → SR X.K ph am' σ' H δ' → L2.wipe σ' is = L2.wipe σ is → Q σ' H) → t vs σ H Q
theorem dgsc_nil {is : List Nat} : DGsc X [] is sNil := ⟨⟨gNil, pgs_nil, fun ph am σ H δ δ' vs ds Q s dv q k => by
  cases dv with
  | nil => cases q; exact ⟨rfl, k am σ Step.refl s rfl⟩
  | cons _ _ => cases q⟩⟩
theorem dgsc_cons {is : List Nat} {tg : Expr} {ts : List Expr} {s : Tg} {r : Tgs} (h : DGc X tg is s) (t : DGsc X ts is r) (hs : (assignEach (tg :: ts) X.env).map (·.2) = assign tg X.env :: (assignEach ts X.env).map (·.2) := by rfl) : DGsc X (tg :: ts) is (sCons s r) := by
  obtain ⟨t1, p1, q1⟩ := h.ex
  obtain ⟨t2, p2, q2⟩ := t.ex
  refine ⟨⟨_, pgs_cons p1 p2 hs, fun ph am σ H δ δ' vs ds Q s dv q k => ?_⟩⟩
  cases dv with
  | nil => cases q
  | cons dv dt =>
    rename_i v vs d ds
    unfold sCons at q
    simp only at q
    split at q
    · rename_i δ1 e1
      refine ⟨v, vs, rfl, q1 ph am σ H δ δ1 v d _ s dv e1 fun am1 σ1 st1 s1 w1 => ?_⟩
      exact q2 ph am1 σ1 H δ1 δ' vs ds Q s1 (dps_mono st1.hid dt) q fun am2 σ2 st2 s2 w2 => k am2 σ2 (st1.trans st2) s2 (w2.trans w1)
    · cases q
theorem dgc_tup {is : List Nat} {ts : List Expr} {k n : Nat} {r : Tgs} (hc : X.calm = true) (t : DGsc X ts is r) (hn : (assignEach ts X.env).length = n := by rfl) (hst : (assignEach ts X.env).findIdx? (·.1) = none := by rfl) : DGc X (.Tuple ts k pos) is (sTup n r) := by
  obtain ⟨t2, p2, q2⟩ := t.ex
  refine ⟨⟨_, pg_tup hc p2 hn hst, fun ph am σ H δ δ' v d Q s dv q k => ?_⟩⟩
  cases dv with
  | tup h1 a1 =>
    unfold sTup at q
    simp only at q
    split at q
    · rename_i hl
      exact ⟨_, _, rfl, seqT_hid h1, by rw [a1.length]; exact hl, q2 ph am σ H δ δ' _ _ Q s a1 q k⟩
    · cases q
  | _ => cases q
structure DTs (X : Cx) (W : WX) (es : List Expr) (f : M Bool) : Prop where
  ex : ∃ t, PTs X es t ∧ ReadT X W t f
theorem dts_nil : DTs X W [] (ret true) := ⟨⟨tYes, pts_nil, fun ph am σ H δ Q ans δ' s q k _ => by cases q; exact k _ rfl am H Step.refl s⟩⟩
theorem dts_one (h : DT X W e fb) : DTs X W [e] fb := by
  obtain ⟨t, p, q⟩ := h.ex
  exact ⟨⟨t, pts_one p, q⟩⟩
theorem DTs.can (d : DTs X W es fb) : PTs X es (ttOf X.K X.mg W fb) := by
  obtain ⟨t, p, q⟩ := d.ex
  exact ⟨fun pins s σ H Q I ⟨ph, am, δ, ans, δ', s1, e, k, kx⟩ => p.run pins s σ H Q I (q ph am σ H δ Q ans δ' s1 e k kx)⟩
theorem comp_read {ti : TI} {is : List Nat} {set : Tg} {t : M Bool} {el : M PyData} (qi : ReadI X W ti fs) : ReadF X W (tLc ti (tgcOf X.K is set) (ttOf X.K X.mg E00 t) (tOf X.K X.mg E00 el) is) (xComp fs is set t el) := by
  intro ph am σ H δ Q ans δ' s z k kx
  rcases bnd_some z with ⟨ds, δ1, e1, e2⟩ | ⟨c, fs, e1, e2⟩
  · refine qi ph am σ H δ _ _ _ s e1 (fun d' ed am1 H1 J st1 s1 wd => ?_) (fun c fs z => by cases z)
    cases ed
    split at e2
    · rename_i hno
      split at e2
      · rename_i acc δ2 ec
        cases e2
        intro D hD
        obtain ⟨G, Y, w, hG, hY⟩ := wd
        have nD : ¬ ph.ph D := fun z => by
          obtain ⟨o, h, _⟩ := s1.phs D z
          rw [hD] at h
          cases h
        refine lc_it w (fun i H' => ∃ am2 δ3 av ad, Step am1 H1 am2 (del D H') ∧ SR X.K ph am2 (L2.wipe σ is) (del D H') δ3 ∧ H' D = some (.lst av) ∧ DqAll X.K (hid ph am2 (del D H')) av ad ∧ av.length ≤ sizeLine ∧ (∀ i ∈ is, ∀ c, δ3[i]? = some c → c = .un) ∧ compD is set t el (ds.drop i) ad δ3 = some (acc, δ2)) ?_ (fun i H' _ ⟨am2, δ3, av, ad, st, s2, hl, dq, hz, hu, el⟩ => hG (ph.also D) am2 H' (by rw [hid_also]; exact st.hid)) (fun i x H2 H3 hi ⟨am2, δ3, av, ad, st, s2, hl, dq, hz, hu, ee⟩ y => ?_) (fun H' ⟨am2, δ3, av, ad, st, s2, hl, dq, hz, hu, ee⟩ => ?_)
        · rw [del_new hD]
          exact ⟨am1, wipeD δ1 is, [], [], Step.refl, s1.wipe hno, upd_same, .nil, Nat.zero_le _, fun i hi c q => wipeD_in hi q, ec⟩
        · have sA : SR X.K (ph.also D) am2 (L2.wipe σ is) H2 δ3 := s2.also hl
          obtain ⟨d, hd, sm, dqx⟩ := hY i x H2 H3 (ph.also D) am2 hi (by rw [hid_also]; exact st.hid) (fun b h => sA.hidden h) y
          have hdr : ds.drop i = d :: ds.drop (i + 1) := by
            obtain ⟨h1, h2⟩ := List.getElem?_eq_some_iff.mp hd
            rw [List.drop_eq_getElem_cons h1, h2]
          rw [hdr] at ee
          unfold compD at ee
          split at ee
          · cases ee
          · rename_i δ4 es
            refine ⟨ph.also D, am2, δ3, δ4, d, sA.same sm, dqx, es, fun am4 σ4 st4 s4 w4 => ?_⟩
            rw [wipe_wipe] at w4
            have fin : ∀ {am6 : Am} {H6 : Hp} {δ6 : Sg} {ov : List V} {od : List PyData}, Step am4 H3 am6 H6 → SR X.K (ph.also D) am6 σ4 H6 δ6 → noOw δ6 is = true → DqAll X.K (hid (ph.also D) am6 H6) ov od → (av ++ ov).length ≤ sizeLine →
                compD is set t el (ds.drop (i + 1)) (ad ++ od) (wipeD δ6 is) = some (acc, δ2) → H6 D = some (.lst av) ∧ ∀ H7, H7 D = some (.lst (av ++ ov)) → del D H7 = del D H6 →
                ∃ am2 δ3 av ad, Step am1 H1 am2 (del D H7) ∧ SR X.K ph am2 (L2.wipe σ is) (del D H7) δ3 ∧ H7 D = some (.lst av) ∧ DqAll X.K (hid ph am2 (del D H7)) av ad ∧ av.length ≤ sizeLine ∧ (∀ i ∈ is, ∀ c, δ3[i]? = some c → c = .un) ∧ compD is set t el (ds.drop (i + 1)) ad δ3 = some (acc, δ2) := by
              intro am6 H6 δ6 ov od st6 s6 no6 dv hz6 e6
              have stT : Step am2 H2 am6 H6 := ((Step.of sm).trans st4).trans st6
              have hD6 : ∀ i, am6 i ≠ some D := fun i e => (s6.amf i D e).1 (.inr rfl)
              refine ⟨stT.keep D _ hl fun i e => (sA.amf i D e).1 (.inr rfl), fun H7 h7 e7 => ?_⟩
              rw [e7]
              refine ⟨am6, wipeD δ6 is, av ++ ov, ad ++ od, st.trans (stT.del hD6), ?_, h7, ?_, hz6, fun i hi c q => wipeD_in hi q, e6⟩
              · have := (s6.wipe no6).unalso nD
                rw [w4] at this
                exact this
              · rw [hid_also] at dv
                exact (dps_mono (stT.del hD6).hid dq).append dv
            refine ⟨w4, ?_⟩
            split at ee
            · rename_i δ5 et
              split at ee
              · rename_i yy δ6 ey
                split at ee
                · rename_i hc
                  refine ⟨ph.also D, am4, δ4, _, δ5, s4, et, fun b eb am5 H5 st5 s5 => ?_, fun c fs z => by cases z⟩
                  cases eb
                  refine iteT ⟨ph.also D, am5, δ5, _, δ6, s5, ey, fun d ed am6 v H6 st6 s6 d6 => ?_, fun c fs z => by cases z⟩
                  cases ed
                  have hl2 : av.length < sizeLine := by rw [dq.length]; exact hc.1
                  obtain ⟨g1, g2⟩ := fin (st5.trans st6) s6 hc.2 (.cons d6 .nil) (by rw [List.length_append]; exact hl2) ee
                  exact ⟨av, g1, hl2, g2 _ upd_same del_upd⟩
                · cases ee
              · cases ee
            · rename_i δ5 et
              split at ee
              · rename_i hc
                refine ⟨ph.also D, am4, δ4, _, δ5, s4, et, fun b eb am5 H5 st5 s5 => ?_, fun c fs z => by cases z⟩
                cases eb
                refine iteF ?_
                obtain ⟨g1, g2⟩ := fin (ov := []) (od := []) st5 s5 hc .nil (by rw [List.append_nil]; exact hz) (by rw [List.append_nil]; exact ee)
                exact g2 H5 (by rw [List.append_nil]; exact g1) rfl
              · cases ee
            · cases ee
        · rw [List.drop_length] at ee
          cases ee
          have := k _ rfl am2 D av (del D H') (st1.none hD) del_same (st1.trans st) (SR.back s1 st hno s2 hu) dq hz
          rw [upd_del hl] at this
          exact this
      · cases e2
    · cases e2
  · subst e2
    exact qi ph am σ H δ _ _ _ s e1 (fun d ed => by cases ed) (fun c' fs' z => by cases z; exact kx _ _ rfl)
theorem df_lc {elt tg iter : Expr} {ifs : List Expr} {scope : Scope} {own : List (Str × Nat)} {set : Tg} {t : M Bool} {el : M PyData} (hc : X.calm = true) (hN : X.N.Nodup) (hi : DI X W tg iter fs) (ok : BlkOk X.N X.env.scope scope own)
    (hg : ∀ (s : Shared) (H : Hp) (C : Addr) (cl : List (Str × Addr)) (fp : List Addr), DGc (Blk X scope s H C cl fp) tg (own.map (·.2)) set) (ht : ∀ (s : Shared) (H : Hp) (C : Addr) (cl : List (Str × Addr)) (fp : List Addr), DTs (Blk X scope s H C cl fp) E00 ifs t)
    (he : ∀ (s : Shared) (H : Hp) (C : Addr) (cl : List (Str × Addr)) (fp : List Addr), DE (Blk X scope s H C cl fp) E00 elt el) (hs : ∀ x, foldedSetIterable iter X.env x = pure x := by intro _; rfl) :
    DF X W (.ListComp elt [⟨tg, iter, ifs, 0⟩] scope pos) (xComp fs (own.map (·.2)) set t el) := by
  obtain ⟨ti, pi, qi⟩ := hi.ex
  exact ⟨⟨_, pe_lc hc hN pi ok (fun s H C cl fp => (hg s H C cl fp).can) (fun s H C cl fp => (ht s H C cl fp).can) (fun s H C cl fp => (he s H C cl fp).can) hs, comp_read qi⟩⟩
/-- name = [..] on one line -/
theorem ds_setLc {i : Nat} {y : Str} {py spos : Pos} {elt tg iter : Expr} {ifs : List Expr} {scope : Scope} {own : List (Str × Nat)} {set : Tg} {t : M Bool} {el : M PyData} (hc : X.calm = true) (hN : X.N.Nodup) (hi : DI X W tg iter fs) (ok : BlkOk X.N X.env.scope scope own)
    (hg : ∀ (s : Shared) (H : Hp) (C : Addr) (cl : List (Str × Addr)) (fp : List Addr), DGc (Blk X scope s H C cl fp) tg (own.map (·.2)) set) (ht : ∀ (s : Shared) (H : Hp) (C : Addr) (cl : List (Str × Addr)) (fp : List Addr), DTs (Blk X scope s H C cl fp) E00 ifs t)
    (he : ∀ (s : Shared) (H : Hp) (C : Addr) (cl : List (Str × Addr)) (fp : List Addr), DE (Blk X scope s H C cl fp) E00 elt el)
    (hsw : swapsWith (.ListComp elt [⟨tg, iter, ifs, 0⟩] scope pos) (some (.Name y py)) spos.line X.env = pure true)
    (hy : X.N[i]? = some y := by rfl) (hyl : X.env.scope.names.lookup y = some .local := by rfl) (hs : ∀ x, foldedSetIterable iter X.env x = pure x := by intro _; rfl) :
    DS X W (.Assign [.Name y py] (.ListComp elt [⟨tg, iter, ifs, 0⟩] scope pos) spos) (sOwn (xComp fs (own.map (·.2)) set t el) i) := by
  obtain ⟨ti, pi, qi⟩ := hi.ex
  exact ⟨⟨_, ps_setLc hc hN hy hyl hsw pi ok (fun s H C cl fp => (hg s H C cl fp).can) (fun s H C cl fp => (ht s H C cl fp).can) (fun s H C cl fp => (he s H C cl fp).can) hs, own_read (comp_read qi)⟩⟩
/-- .. the name is not to own it -/
theorem setf_read {i : Nat} {t : TE} (q1 : ReadF X W t fs) : ReadS X W (tAsg t (gName i)) (sAsg (bnd fs fun ds => ret (.list ds)) (sName i)) := by
  intro ph am σ H δ D ans δ' sr z k kx
  rcases bnd_some z with ⟨d, δ1, e1, e2⟩ | ⟨c, fs, e1, e2⟩
  · rcases bnd_some e1 with ⟨ds, δ2, e3, e4⟩ | ⟨c, fs, e3, e4⟩
    · cases e4
      refine q1 ph am σ H δ _ _ _ sr e3 (fun d ed am1 p vs H1 n0 n1 st1 s1 d1 hz => ?_) (fun c fs z => by cases z)
      cases ed
      split at e2
      · rename_i δ2 e5
        cases e2
        obtain ⟨c, e6, e7, rfl⟩ := sName_some e5
        have sm : Same H1 (upd H1 p (.lst vs)) := same_new n1
        exact k _ rfl _ _ _ ((st1.trans (Step.of sm)).trans step_drop) ((s1.same sm).put e6 e7 (new_lst (fun b h => s1.hidden h) n1 d1))
      · cases e2
    · cases e4
  · subst e2
    rcases bnd_some e1 with ⟨ds, δ2, e3, e4⟩ | ⟨c, fs, e3, e4⟩
    · cases e4
    · cases e4
      exact q1 ph am σ H δ _ _ _ sr e3 (fun d ed => by cases ed) (fun c' fs' z => by cases z; exact (kx _ _ rfl).at)
theorem ds_setLcF {i : Nat} {y : Str} {py spos : Pos} {elt tg iter : Expr} {ifs : List Expr} {scope : Scope} {own : List (Str × Nat)} {set : Tg} {t : M Bool} {el : M PyData} (hc : X.calm = true) (hN : X.N.Nodup) (hi : DI X W tg iter fs) (ok : BlkOk X.N X.env.scope scope own)
    (hg : ∀ (s : Shared) (H : Hp) (C : Addr) (cl : List (Str × Addr)) (fp : List Addr), DGc (Blk X scope s H C cl fp) tg (own.map (·.2)) set) (ht : ∀ (s : Shared) (H : Hp) (C : Addr) (cl : List (Str × Addr)) (fp : List Addr), DTs (Blk X scope s H C cl fp) E00 ifs t)
    (he : ∀ (s : Shared) (H : Hp) (C : Addr) (cl : List (Str × Addr)) (fp : List Addr), DE (Blk X scope s H C cl fp) E00 elt el)
    (hsw : swapsWith (.ListComp elt [⟨tg, iter, ifs, 0⟩] scope pos) (some (.Name y py)) spos.line X.env = pure true)
    (hy : X.N[i]? = some y := by rfl) (hyl : X.env.scope.names.lookup y = some .local := by rfl) (hs : ∀ x, foldedSetIterable iter X.env x = pure x := by intro _; rfl) :
    DS X W (.Assign [.Name y py] (.ListComp elt [⟨tg, iter, ifs, 0⟩] scope pos) spos) (sAsg (bnd (xComp fs (own.map (·.2)) set t el) fun ds => ret (.list ds)) (sName i)) := by
  obtain ⟨ti, pi, qi⟩ := hi.ex
  exact ⟨⟨_, ps_setLc hc hN hy hyl hsw pi ok (fun s H C cl fp => (hg s H C cl fp).can) (fun s H C cl fp => (ht s H C cl fp).can) (fun s H C cl fp => (he s H C cl fp).can) hs, setf_read (comp_read qi)⟩⟩
end PD
end

section
set_option Elab.async false
set_option linter.all false
set_option maxRecDepth 100000
set_option maxHeartbeats 1000000
namespace PD
open PySem PySem.Spec PyProof.Rows L2
variable {X : Cx} {W : WX} {pos : Pos} {e e1 e2 e3 : Expr} {es : List Expr} {f g h : M PyData} {fs : M (List PyData)} {fb gb : M Bool}
variable {K : PySem.W.Frag} {ph : Fx} {am am' am1 : Am} {H H' H1 : Hp} {σ σ' : L2.St} {δ δ' δ1 : Sg} {a p p1 p2 D : Addr} {v : V} {vs : List V} {d : PyData} {ds : List PyData} {i : Nat}

/-! ### what a def promises -/
def spD (K : PySem.W.Frag) (mg : Str → Option Value) (n : Nat) (G : Sg → Option (Ans PyData × Sg)) : Sp := fun vs H Q E => vs.length = n ∧ ∃ ph cells ans cells', SR K ph ph.ba (vs.map some) H cells ∧ G cells = some (ans, cells') ∧
  (∀ d, ans = .ok d → ∀ v H', Step ph.ba H ph.ba H' → SR K ph ph.ba (vs.map some) H' cells' → Dq K (hid ph ph.ba H') v d → Q v H') ∧ (∀ c fs, ans = .ex c fs → XPd K mg E ph ph.ba H c fs)
/-- .. handing back a new list -/
def spF (K : PySem.W.Frag) (mg : Str → Option Value) (n : Nat) (G : Sg → Option (Ans (List PyData) × Sg)) : Sp := fun vs H Q E => vs.length = n ∧ ∃ ph cells ans cells', SR K ph ph.ba (vs.map some) H cells ∧ G cells = some (ans, cells') ∧
  (∀ ds, ans = .ok ds → ∀ p us H', H p = none → H' p = none → Step ph.ba H ph.ba H' → SR K ph ph.ba (vs.map some) H' cells' → DqAll K (hid ph ph.ba H') us ds → us.length ≤ sizeLine → Q (.ref p) (upd H' p (.lst us))) ∧ (∀ c fs, ans = .ex c fs → XPd K mg E ph ph.ba H c fs)
/-- the cells of what was lent, as they are at the end -/
def keepD : Sg → Sg → Sg
  | [], _ => []
  | .ow _ _ :: cs, d :: ds => d :: keepD cs ds
  | c :: cs, _ :: ds => c :: keepD cs ds
  | c :: cs, [] => c :: keepD cs []
def keepO (cells δ : Sg) : Option Sg := if cells.length ≤ δ.length then some (keepD cells δ) else none
theorem keepO_some {cells δ out : Sg} (h : keepO cells δ = some out) : cells.length ≤ δ.length ∧ out = keepD cells δ := by
  unfold keepO at h
  split at h
  · cases h; exact ⟨by assumption, rfl⟩
  · cases h
def runD (m : Nat) (g : MS) (cells : Sg) : Option (Ans PyData × Sg) := match g (cells ++ List.replicate (m - cells.length) .un) with
  | some (.ok (.rt d), δ) => (keepO cells δ).map fun out => (.ok d, out)
  | some (.ok (.rf ds), δ) => (keepO cells δ).map fun out => (.ok (.list ds), out)
  | some (.ok .nx, δ) => (keepO cells δ).map fun out => (.ok .none, out)
  | some (.ex c fs, δ) => some (.ex c fs, δ)
  | _ => none
def runF (m : Nat) (g : MS) (cells : Sg) : Option (Ans (List PyData) × Sg) := match g (cells ++ List.replicate (m - cells.length) .un) with
  | some (.ok (.rf ds), δ) => (keepO cells δ).map fun out => (.ok ds, out)
  | some (.ok (.ro ds), δ) => (keepO cells δ).map fun out => (.ok ds, out)
  | some (.ex c fs, δ) => some (.ex c fs, δ)
  | _ => none
theorem keepO_map {α : Type} {cells δ : Sg} {f : Sg → α × Sg} {r : α × Sg} (h : (keepO cells δ).map f = some r) : cells.length ≤ δ.length ∧ r = f (keepD cells δ) := by
  cases e : keepO cells δ with
  | none => rw [e] at h; cases h
  | some o =>
    obtain ⟨h1, h2⟩ := keepO_some e
    rw [e] at h
    cases h
    exact ⟨h1, by rw [h2]⟩
theorem keepD_length : ∀ (cs ds : Sg), (keepD cs ds).length = cs.length
  | [], _ => rfl
  | .ow _ _ :: cs, d :: ds => by simp [keepD, keepD_length cs ds]
  | .ow _ _ :: cs, [] => by simp [keepD, keepD_length cs []]
  | .un :: cs, _ :: ds => by simp [keepD, keepD_length cs ds]
  | .un :: cs, [] => by simp [keepD, keepD_length cs []]
  | .fz _ :: cs, _ :: ds => by simp [keepD, keepD_length cs ds]
  | .fz _ :: cs, [] => by simp [keepD, keepD_length cs []]
  | .od _ :: cs, _ :: ds => by simp [keepD, keepD_length cs ds]
  | .od _ :: cs, [] => by simp [keepD, keepD_length cs []]
theorem keepD_get : ∀ {cs ds : Sg} {i : Nat} {c : Cell}, cs.length ≤ ds.length → (keepD cs ds)[i]? = some c → ∃ c0, cs[i]? = some c0 ∧ ((∃ b es, c0 = .ow b es) ∧ ds[i]? = some c ∨ (∀ b es, c0 ≠ .ow b es) ∧ c = c0)
  | [], _, i, c, _, h => by simp [keepD] at h
  | c0 :: cs, [], _, _, hl, _ => by simp at hl
  | .ow b es :: cs, d :: ds, 0, c, hl, h => by
    simp [keepD] at h
    subst h
    exact ⟨_, rfl, .inl ⟨⟨b, es, rfl⟩, rfl⟩⟩
  | .un :: cs, d :: ds, 0, c, hl, h => by
    simp [keepD] at h
    subst h
    exact ⟨_, rfl, .inr ⟨fun _ _ z => (by cases z), rfl⟩⟩
  | .fz x :: cs, d :: ds, 0, c, hl, h => by
    simp [keepD] at h
    subst h
    exact ⟨_, rfl, .inr ⟨fun _ _ z => (by cases z), rfl⟩⟩
  | .od x :: cs, d :: ds, 0, c, hl, h => by
    simp [keepD] at h
    subst h
    exact ⟨_, rfl, .inr ⟨fun _ _ z => (by cases z), rfl⟩⟩
  | .ow b es :: cs, d :: ds, i + 1, c, hl, h => by
    obtain ⟨c0, h1, h2⟩ := keepD_get (cs := cs) (ds := ds) (i := i) (c := c) (by simpa using hl) (by simpa [keepD] using h)
    exact ⟨c0, by simpa using h1, by simpa using h2⟩
  | .un :: cs, d :: ds, i + 1, c, hl, h => by
    obtain ⟨c0, h1, h2⟩ := keepD_get (cs := cs) (ds := ds) (i := i) (c := c) (by simpa using hl) (by simpa [keepD] using h)
    exact ⟨c0, by simpa using h1, by simpa using h2⟩
  | .fz x :: cs, d :: ds, i + 1, c, hl, h => by
    obtain ⟨c0, h1, h2⟩ := keepD_get (cs := cs) (ds := ds) (i := i) (c := c) (by simpa using hl) (by simpa [keepD] using h)
    exact ⟨c0, by simpa using h1, by simpa using h2⟩
  | .od x :: cs, d :: ds, i + 1, c, hl, h => by
    obtain ⟨c0, h1, h2⟩ := keepD_get (cs := cs) (ds := ds) (i := i) (c := c) (by simpa using hl) (by simpa [keepD] using h)
    exact ⟨c0, by simpa using h1, by simpa using h2⟩
theorem SR.ext (s : SR K ph am σ H δ) (m : Nat) : SR K ph am (σ ++ List.replicate m none) H (δ ++ List.replicate m .un) := by
  have lt : ∀ {i : Nat} {c : Cell}, (δ ++ List.replicate m .un)[i]? = some c → c ≠ .un → δ[i]? = some c ∧ i < δ.length := fun {i c} h hc => by
    by_cases hi : i < δ.length
    · rw [List.getElem?_append_left hi] at h
      exact ⟨h, hi⟩
    · rw [List.getElem?_append_right (by omega), List.getElem?_replicate] at h
      split at h
      · cases h; exact (hc rfl).elim
      · cases h
  have σl : ∀ {i : Nat}, i < δ.length → (σ ++ List.replicate m none)[i]? = σ[i]? := fun {i} hi => List.getElem?_append_left (by rw [s.len]; exact hi)
  refine ⟨by rw [List.length_append, List.length_append, List.length_replicate, List.length_replicate, s.len], fun i d q => ?_, fun i b ds q => ?_, fun i a q => ?_, s.inj, s.phs, s.bas, fun i o q => ?_⟩
  · obtain ⟨h1, h2⟩ := lt q (fun z => by cases z)
    rw [σl h2]
    exact s.fz i d h1
  · obtain ⟨h1, h2⟩ := lt q (fun z => by cases z)
    rw [σl h2]
    exact s.ow i b ds h1
  · obtain ⟨h1, c, h2, h3⟩ := s.amf i a q
    exact ⟨h1, c, by rw [List.getElem?_append_left (List.getElem?_eq_some_iff.mp h2).1]; exact h2, h3⟩
  · obtain ⟨h1, h2⟩ := lt q (fun z => by cases z)
    rw [σl h2]
    exact s.od i o h1
theorem hid_ba (s : ∀ (i : Nat) (a : Addr), ph.ba i = some a → am i = some a) : Same (hid ph am H) (hid ph ph.ba H) := fun b o h => by
  obtain ⟨h1, h2⟩ := hid_some.mp h
  exact hid_some.mpr ⟨fun z => h1 (z.elim .inl fun ⟨i, e⟩ => .inr ⟨i, s i b e⟩), h2⟩
theorem SR.leave {cells : Sg} {σ0 : L2.St} {H0 : Hp} (s0 : SR K ph ph.ba σ0 H0 cells) (st : Step ph.ba H0 am H) (s : SR K ph am σ H δ) (hl : cells.length ≤ δ.length) : Step ph.ba H0 ph.ba H ∧ SR K ph ph.ba σ0 H (keepD cells δ) := by
  have st' : Step ph.ba H0 ph.ba H := ⟨st.keep, fun i a q => .inl ⟨i, q⟩, st.there⟩
  refine ⟨st', by rw [keepD_length, s0.len], fun i d q => ?_, fun i b ds q => ?_, fun i a q => ?_, s0.inj, fun b hb => ?_, fun i a q => q, fun i o q => ?_⟩
  · obtain ⟨c0, h1, h2⟩ := keepD_get hl q
    rcases h2 with ⟨⟨b, es, e⟩, h3⟩ | ⟨h2, h3⟩
    · subst e
      obtain ⟨a, vs, o1, _⟩ := s0.ow i b es h1
      obtain ⟨_, c', h4, h5⟩ := s.amf i a (s.bas i a o1)
      rw [h3] at h4
      cases h4
      exact h5.elim
    · subst h3
      obtain ⟨v, g1, g2⟩ := s0.fz i d h1
      exact ⟨v, g1, dp_mono st'.hid g2⟩
  · obtain ⟨c0, h1, h2⟩ := keepD_get hl q
    rcases h2 with ⟨⟨b0, es, e⟩, h3⟩ | ⟨h2, h3⟩
    · subst e
      obtain ⟨a, vs, o1, o2, _, _⟩ := s0.ow i b0 es h1
      obtain ⟨a', vs', r1, r2, r3, r4, r5, r6⟩ := s.ow i b ds h3
      rw [s.bas i a o1] at r1
      cases r1
      exact ⟨a, vs', o1, o2, r3, dps_mono (hid_ba s.bas) r4, r5, r6⟩
    · exact (h2 b ds h3.symm).elim
  · obtain ⟨h1, c1, h2, hc1⟩ := s0.amf i a q
    obtain ⟨_, c2, h4, hc2⟩ := s.amf i a (s.bas i a q)
    have hi : i < (keepD cells δ).length := by
      rw [keepD_length]
      exact (List.getElem?_eq_some_iff.mp h2).1
    obtain ⟨c0, g1, g2⟩ := keepD_get hl (List.getElem?_eq_getElem hi)
    rw [h2] at g1
    cases g1
    rcases g2 with ⟨_, g3⟩ | ⟨g2, g3⟩
    · rw [h4] at g3
      exact ⟨h1, c2, by rw [List.getElem?_eq_getElem hi, ← g3], hc2⟩
    · exact ⟨h1, c1, by rw [List.getElem?_eq_getElem hi, g3], hc1⟩
  · exact s.phs b hb
  · obtain ⟨c0, h1, h2⟩ := keepD_get hl q
    rcases h2 with ⟨⟨b0, es, e⟩, h3⟩ | ⟨h2, h3⟩
    · subst e
      obtain ⟨a, vs, o1, o2, _, _⟩ := s0.ow i b0 es h1
      obtain ⟨a', u, r1, r2, r3, r4, r5⟩ := s.od i o h3
      rw [s.bas i a o1] at r1
      cases r1
      rw [o1] at r5
      cases r5
    · subst h3
      obtain ⟨a, u, o1, _, _, _, o5⟩ := s0.od i o h1
      rw [o1] at o5
      cases o5
section
variable {P : Program} {w : World} {mg : Str → Option Value} {base : Heap} {x qual : Str} {st : Stmt} {fa : Addr} {fd : FuncData} {N ps : List Str} {k : Nat} {gs : MS}
abbrev CxD (P : Program) (w : World) (K : PySem.W.Frag) (mg : Str → Option Value) (base : Heap) (N : List Str) (qual : Str) (st : Stmt) (fa : Addr) (cdv : Value) (A : Around) (outer : List PySem.Env) (s : Shared) (H : Hp) (E : XK) : Cx :=
  cxOf (L2.CX P w) P w K mg base N qual (defScope st) fa cdv A outer s H E
theorem keep_step {m : Nat} (hl : vs.length = m) (hN : m ≤ N.length) : L2.start N vs = vs.map some ++ List.replicate (N.length - m) none := by
  unfold L2.start
  rw [hl]
/-- a def, by its body -/
theorem fn_d (F : Fun K x qual st fa fd) (S : FnScope N ps (defScope st)) (hn : ps.length ≤ N.length)
    (body : ∀ (cdv : Value) (A : Around) (outer : List PySem.Env) (s : Shared) (H : Hp) (E : XK), Room k (A.deeper (envOfC qual (defScope st) s.heap.objs.size fa cdv)) → DSs (CxD P w K mg base N qual st fa cdv A outer s H E) (fun cls d _ H => E cls d H) (defBody st) gs) :
    FnOk P w K mg base (L2.CX P w) (k + 1) fa fd ps (spD K mg ps.length (runD N.length gs)) := by
  refine F.okX S (fun vs H Q E h => h.1) (fun cdv A outer s H vs Q E hr h => ?_)
  obtain ⟨hl, ph, cells, ans, cells', s0, q, k1, kx⟩ := h
  obtain ⟨t, pt, qt⟩ := (body cdv A outer s H E hr).ex
  refine ⟨t, pt, ?_⟩
  have hc : cells.length = ps.length := by
    have := s0.len
    rw [List.length_map, hl] at this
    exact this.symm
  have s1 : SR K ph ph.ba (L2.start N vs) H (cells ++ List.replicate (N.length - cells.length) .un) := by
    rw [keep_step hl hn, hc]
    exact s0.ext _
  unfold runD at q
  split at q
  · rename_i d δ e1
    obtain ⟨hle, q⟩ := keepO_map q
    cases q
    refine qt ph ph.ba _ H _ _ _ _ s1 e1 (fun fl z => ?_) (fun c fs z => by cases z)
    cases z
    intro am' σ' v H' st1 s2 dv
    obtain ⟨st2, s3⟩ := SR.leave s0 st1 s2 hle
    exact k1 _ rfl v H' st2 s3 (dp_mono (hid_ba s2.bas) dv)
  · rename_i ds δ e1
    obtain ⟨hle, q⟩ := keepO_map q
    cases q
    refine qt ph ph.ba _ H _ _ _ _ s1 e1 (fun fl z => ?_) (fun c fs z => by cases z)
    cases z
    intro am' σ' p us H' n0 n1 st1 s2 dv hz
    have sm : Same H' (upd H' p (.lst us)) := same_new n1
    obtain ⟨st2, s3⟩ := SR.leave s0 (st1.trans (Step.of sm)) (s2.same sm) hle
    exact k1 _ rfl _ _ st2 s3 (dp_mono (hid_ba s2.bas) (new_lst (fun b h => s2.hidden h) n1 dv))
  · rename_i δ e1
    obtain ⟨hle, q⟩ := keepO_map q
    cases q
    refine qt ph ph.ba _ H _ _ _ _ s1 e1 (fun fl z => ?_) (fun c fs z => by cases z)
    cases z
    intro am' σ' H' st1 s2
    obtain ⟨st2, s3⟩ := SR.leave s0 st1 s2 hle
    exact k1 _ rfl .non H' st2 s3 .non
  · rename_i c fs δ e1
    cases q
    exact qt ph ph.ba _ H _ _ _ _ s1 e1 (fun fl z => by cases z) (fun c fs z => by cases z; exact fun C dx am' σ' H' m st _ pl => kx _ _ rfl C dx am' H' m st pl)
  · cases q
theorem keepD_set {c : Cell} : ∀ {cs δ : Sg} {i : Nat}, (∀ b es, cs[i]? ≠ some (.ow b es)) → keepD cs (δ.set i c) = keepD cs δ
  | [], _, _, _ => rfl
  | _ :: _, [], _, _ => rfl
  | c0 :: cs, d :: ds, 0, h => by
    cases c0 with
    | ow b es => exact absurd rfl (h b es)
    | _ => rfl
  | c0 :: cs, d :: ds, i + 1, h => by
    have ih := keepD_set (cs := cs) (δ := ds) (i := i) (c := c) (fun b es z => h b es (by simpa using z))
    cases c0 <;> simp [keepD, ih]
def amNo (am : Am) (i : Nat) : Am := fun j => if j = i then none else am j
theorem SR.give (s : SR K ph am σ H δ) (hi : am i = some p) (hb : ph.ba i = none) : SR K ph (amNo am i) σ (del p H) (δ.set i .un) ∧ Same (hid ph am H) (hid ph (amNo am i) (del p H)) := by
  have hs : Same (hid ph am H) (hid ph (amNo am i) (del p H)) := fun b o h => by
    obtain ⟨h1, h2⟩ := hid_some.mp h
    have hne : b ≠ p := fun z => h1 (.inr ⟨i, by rw [z]; exact hi⟩)
    refine hid_some.mpr ⟨fun z => h1 ?_, by rw [del_ne hne]; exact h2⟩
    rcases z with z | ⟨j, z⟩
    · exact .inl z
    · unfold amNo at z
      split at z
      · cases z
      · exact .inr ⟨j, z⟩
  have hj : ∀ {j : Nat} {c : Cell}, (δ.set i .un)[j]? = some c → c ≠ .un → j ≠ i ∧ δ[j]? = some c := fun {j c} q hc => by
    rw [List.getElem?_set] at q
    split at q
    · split at q
      · cases q; exact (hc rfl).elim
      · cases q
    · rename_i hne
      exact ⟨fun z => hne z.symm, q⟩
  have hnp : ∀ {j : Nat} {a : Addr}, j ≠ i → am j = some a → a ≠ p := fun {j a} hne q z => hne (s.inj j i p (by rw [← z]; exact q) hi)
  refine ⟨⟨by rw [List.length_set]; exact s.len, fun j d q => ?_, fun j b ds q => ?_, fun j a q => ?_, fun j k a q1 q2 => ?_, fun b q => ?_, fun j a q => ?_, fun j o q => ?_⟩, hs⟩
  · obtain ⟨hne, q⟩ := hj q (fun z => by cases z)
    obtain ⟨v, e1, e2⟩ := s.fz j d q
    exact ⟨v, e1, dp_mono hs e2⟩
  · obtain ⟨hne, q⟩ := hj q (fun z => by cases z)
    obtain ⟨a, vs, e1, e2, e3, e4, e5⟩ := s.ow j b ds q
    exact ⟨a, vs, by unfold amNo; rw [if_neg hne]; exact e1, e2, by rw [del_ne (hnp hne e1)]; exact e3, dps_mono hs e4, e5⟩
  · unfold amNo at q
    split at q
    · cases q
    · rename_i hne
      obtain ⟨h1, c, h2, h3⟩ := s.amf j a q
      exact ⟨h1, c, by rw [List.getElem?_set_ne (fun z => hne z.symm)]; exact h2, h3⟩
  · unfold amNo at q1 q2
    split at q1
    · cases q1
    · split at q2
      · cases q2
      · exact s.inj j k a q1 q2
  · obtain ⟨o, e, m⟩ := s.phs b q
    have hne : b ≠ p := fun z => (s.amf i p hi).1 (by rw [← z]; exact q)
    exact ⟨o, by rw [del_ne hne]; exact e, m⟩
  · have hne : j ≠ i := fun z => by rw [z, hb] at q; cases q
    unfold amNo
    rw [if_neg hne]
    exact s.bas j a q
  · obtain ⟨hne, q⟩ := hj q (fun z => by cases z)
    obtain ⟨a, u, e1, e2, e3, e4, e5⟩ := s.od j o q
    exact ⟨a, u, by unfold amNo; rw [if_neg hne]; exact e1, e2, by rw [del_ne (hnp hne e1)]; exact e3, dor_mono hs e4, e5⟩
/-- a def that hands back a new list -/
theorem fn_f (F : Fun K x qual st fa fd) (S : FnScope N ps (defScope st)) (hn : ps.length ≤ N.length)
    (body : ∀ (cdv : Value) (A : Around) (outer : List PySem.Env) (s : Shared) (H : Hp) (E : XK), Room k (A.deeper (envOfC qual (defScope st) s.heap.objs.size fa cdv)) → DSs (CxD P w K mg base N qual st fa cdv A outer s H E) (fun cls d _ H => E cls d H) (defBody st) gs) :
    FnOk P w K mg base (L2.CX P w) (k + 1) fa fd ps (spF K mg ps.length (runF N.length gs)) := by
  refine F.okX S (fun vs H Q E h => h.1) (fun cdv A outer s H vs Q E hr h => ?_)
  obtain ⟨hl, ph, cells, ans, cells', s0, q, k1, kx⟩ := h
  obtain ⟨t, pt, qt⟩ := (body cdv A outer s H E hr).ex
  refine ⟨t, pt, ?_⟩
  have hc : cells.length = ps.length := by
    have := s0.len
    rw [List.length_map, hl] at this
    exact this.symm
  have s1 : SR K ph ph.ba (L2.start N vs) H (cells ++ List.replicate (N.length - cells.length) .un) := by
    rw [keep_step hl hn, hc]
    exact s0.ext _
  unfold runF at q
  split at q
  · rename_i ds δ e1
    obtain ⟨hle, q⟩ := keepO_map q
    cases q
    refine qt ph ph.ba _ H _ _ _ _ s1 e1 (fun fl z => ?_) (fun c fs z => by cases z)
    cases z
    intro am' σ' p us H' n0 n1 st1 s2 dv hz
    obtain ⟨st2, s3⟩ := SR.leave s0 st1 s2 hle
    exact k1 _ rfl p us H' n0 n1 st2 s3 (dps_mono (hid_ba s2.bas) dv) hz
  · rename_i ds δ e1
    obtain ⟨hle, q⟩ := keepO_map q
    cases q
    refine qt ph ph.ba _ H _ _ _ _ s1 e1 (fun fl z => ?_) (fun c fs z => by cases z)
    cases z
    intro am' σ' i p us H' st1 s2 ei ai hp dv hz
    obtain ⟨a0, vs0, o1, _, _, _, _, o6⟩ := s2.ow i false ds ei
    have hb := o6 rfl
    have n0 : H p = none := by
      rcases st1.new i p ai with ⟨j, q⟩ | q
      · have := s2.inj j i p (s2.bas j p q) ai
        rw [this, hb] at q
        cases q
      · exact q
    obtain ⟨s2', hsm⟩ := s2.give ai hb
    have st1' : Step ph.ba H (amNo am' i) (del p H') := ⟨fun b o e n => by
      have hne : b ≠ p := fun z => by rw [z, n0] at e; cases e
      rw [del_ne hne]
      exact st1.keep b o e n, fun j a q => by
      unfold amNo at q
      split at q
      · cases q
      · exact st1.new j a q, fun b o e => by
      have hne : b ≠ p := fun z => by rw [z, n0] at e; cases e
      rw [del_ne hne]
      exact st1.there b o e⟩
    have hnl : ∀ b es, cells[i]? ≠ some (.ow b es) := fun b es z => by
      obtain ⟨a, _, o1, _⟩ := s0.ow i b es z
      rw [hb] at o1
      cases o1
    obtain ⟨st2, s3⟩ := SR.leave s0 st1' s2' (by rw [List.length_set]; exact hle)
    rw [keepD_set hnl] at s3
    have := k1 _ rfl p us (del p H') n0 del_same st2 s3 (dps_mono (hid_ba s2'.bas) (dps_mono hsm dv)) hz
    rw [upd_del hp] at this
    exact this
  · rename_i c fs δ e1
    cases q
    exact qt ph ph.ba _ H _ _ _ _ s1 e1 (fun fl z => by cases z) (fun c fs z => by cases z; exact fun C dx am' σ' H' m st _ pl => kx _ _ rfl C dx am' H' m st pl)
  · cases q
end
/-! ### calls of defs -/
variable {k : Nat} {fa : Addr} {fd : FuncData} {ps : List Str} {x : Str} {pf : Pos} {n : Nat}
/-- the callee never touches what is hidden here -/
def Fx.under (ph : Fx) (am : Am) : Fx := ⟨Hid ph am, fun _ => none⟩
theorem hid_under : hid (ph.under am) (fun _ => none) H = hid ph am H := by
  funext b
  unfold hid
  have : Hid (ph.under am) (fun _ => none) b ↔ Hid ph am b := ⟨fun z => z.elim id fun ⟨_, e⟩ => (by cases e), fun z => .inl z⟩
  by_cases h : Hid ph am b
  · rw [if_pos h, if_pos (this.mpr h)]
  · rw [if_neg h, if_neg (fun z => h (this.mp z))]
theorem map_fz_get {j : Nat} {c : Cell} (h : (ds.map Cell.fz)[j]? = some c) : ∃ d, ds[j]? = some d ∧ c = .fz d := by
  rw [List.getElem?_map] at h
  cases e : ds[j]? with
  | none => rw [e] at h; cases h
  | some d => rw [e] at h; cases h; exact ⟨d, rfl, rfl⟩
theorem SR.under (s : SR K ph am σ H δ) (dv : DqAll K (hid ph am H) vs ds) : SR K (ph.under am) (ph.under am).ba (vs.map some) H (ds.map .fz) := by
  refine ⟨by rw [List.length_map, List.length_map, dv.length], fun j d q => ?_, fun j b es q => ?_, fun j a q => (by cases q), fun j k a q => (by cases q), fun b hb => s.hiddenM hb, fun j a q => (by cases q), fun j o q => ?_⟩
  · obtain ⟨d', h1, h2⟩ := map_fz_get q
    cases h2
    obtain ⟨v, g1, g2⟩ := dv.get h1
    exact ⟨v, by rw [List.getElem?_map, g1]; rfl, by rw [show (ph.under am).ba = fun _ => none from rfl, hid_under]; exact g2⟩
  · obtain ⟨d', h1, h2⟩ := map_fz_get q
    cases h2
  · obtain ⟨d', h1, h2⟩ := map_fz_get q
    cases h2
theorem XP.of_under {c : Str} {fs : List (Str × PyData)} (s : SR X.K ph am σ H δ') (k : XP X W ph am σ H δ' c fs) : XPd X.K X.mg (WE W σ) (ph.under am) (ph.under am).ba H c fs := by
  intro C dx am' H' e st q
  have sm : Same H H' := fun b o h => st.keep b o h fun i z => by cases z
  refine k C dx am H' e (Step.of sm) (s.same sm) ?_
  rcases q with q | ⟨a, vs, e1, e0, e2, e3, e4⟩
  · exact .inl q
  · refine .inr ⟨a, vs, e1, e0, e2, e3, dps_mono (fun b o h => ?_) e4⟩
    obtain ⟨h1, h2⟩ := hid_some.mp h
    exact hid_some.mpr ⟨fun z => h1 (.inl z), h2⟩
def xDef (G : Sg → Option (Ans PyData × Sg)) (fs : M (List PyData)) : M PyData := bnd fs fun ds => fun δ => match G (ds.map .fz) with
  | some (.ok d, _) => some (.ok d, δ)
  | some (.ex c es, _) => some (.ex c es, δ)
  | none => none
theorem def_read {t : TA} {G : Sg → Option (Ans PyData × Sg)} (q : ReadA X W t fs) (hn : ∀ ds δ δ', fs δ = some (.ok ds, δ') → ds.length = n) : ReadE X W (tCallS (spD X.K X.mg n G) (WE W) t) (xDef G fs) := by
  intro ph am σ H δ Q ans δ' s z k kx
  rcases bnd_some z with ⟨ds, δ1, e1, e2⟩ | ⟨c, fs, e1, e2⟩
  · refine q ph am σ H δ _ _ _ s e1 (fun d' ed am1 vs H1 st1 s1 dv => ?_) (fun c fs z => by cases z)
    cases ed
    refine ⟨by rw [dv.length]; exact hn ds δ δ1 e1, ph.under am1, ds.map .fz, ?_⟩
    have s2 := s1.under dv
    split at e2
    · rename_i d cells e3
      cases e2
      refine ⟨_, _, s2, e3, fun d ed v H' st' _ dv' => ?_, fun c fs z => by cases z⟩
      cases ed
      have sm : Same H1 H' := fun b o h => st'.keep b o h fun i z => by cases z
      rw [show (ph.under am1).ba = fun _ => none from rfl, hid_under] at dv'
      exact k _ rfl am1 v H' (st1.trans (Step.of sm)) (s1.same sm) dv'
    · rename_i c es cells e3
      cases e2
      refine ⟨_, _, s2, e3, fun d ed => (by cases ed), fun c fs z => ?_⟩
      cases z
      exact XP.of_under s1 ((kx _ _ rfl).step st1)
    · cases e2
  · subst e2
    exact q ph am σ H δ _ _ _ s e1 (fun d ed => by cases ed) (fun c' fs' z => by cases z; exact kx _ _ rfl)
theorem da_len : True := trivial
theorem de_call {G : Sg → Option (Ans PyData × Sg)} (F : FnOk X.prog X.w X.K X.mg X.base (L2.CX X.prog X.w) k fa fd ps (spD X.K X.mg n G)) (hr : Room k X.A) (hm : X.mg x = some (.ref fa)) (hk : PySem.W.keepIn X.K (.ref fa) = true) (hb : Binds X.K fd ps []) (hx : ∀ σ, PassesAt (L2.CX X.prog X.w) X σ (WE W σ))
    (ha : DA X W (e :: es) fs) (hn : ∀ ds δ δ', fs δ = some (.ok ds, δ') → ds.length = n) (hg : Gl X x := by rfl) (hdb : (x == ("__debug__" : Str)) = false := by decide) (he : starEach (e :: es) X.env = (false, eval e X.env) :: starEach es X.env := by rfl) (hpl : (backTo pos (starEach es X.env)).any (·.1) = false := by rfl) :
    DE X W (.Call (.Name x pf) (e :: es) [] pos) (xDef G fs) := by
  obtain ⟨t, p, q⟩ := ha.ex
  exact ⟨⟨_, pe_callS F hr hg hm hk hb hx p hdb he hpl, def_read q hn⟩⟩
/-- the first argument a list of one's own, lent -/
def xDefO (G : Sg → Option (Ans PyData × Sg)) (i : Nat) (fs : M (List PyData)) : M PyData := fun δ => match δ[i]? with
  | some (.ow _ _) => (bnd fs fun ds => fun δ1 => match δ1[i]? with
    | some (.ow b os) => match G (.ow true os :: ds.map .fz) with
      | some (.ok d, .ow _ os' :: _) => some (.ok d, δ1.set i (.ow b os'))
      | _ => none
    | _ => none) δ
  | _ => none
def Fx.lend (ph : Fx) (am : Am) (i : Nat) (a : Addr) : Fx := ⟨fun b => Hid ph am b ∧ b ≠ a, fun j => if j = 0 then some a else none⟩
theorem lend_ba {i j : Nat} {b : Addr} : (ph.lend am i a).ba j = some b ↔ j = 0 ∧ b = a := by
  unfold Fx.lend
  by_cases h : j = 0
  · simp [h]; exact eq_comm
  · simp [h]
theorem hid_lend {i : Nat} (h : am i = some a) : hid (ph.lend am i a) (ph.lend am i a).ba H = hid ph am H := by
  funext b
  unfold hid
  have : Hid (ph.lend am i a) (ph.lend am i a).ba b ↔ Hid ph am b := by
    constructor
    · rintro (⟨q, _⟩ | ⟨j, q⟩)
      · exact q
      · obtain ⟨_, rfl⟩ := lend_ba.mp q
        exact .inr ⟨i, h⟩
    · intro q
      by_cases hb : b = a
      · exact .inr ⟨0, lend_ba.mpr ⟨rfl, hb⟩⟩
      · exact .inl ⟨q, hb⟩
  by_cases h : Hid ph am b
  · rw [if_pos h, if_pos (this.mpr h)]
  · rw [if_neg h, if_neg (fun z => h (this.mp z))]
theorem SR.lend (s : SR K ph am σ H δ) {i : Nat} {b : Bool} {os : List PyData} {ov : List V} (h1 : am i = some a) (h2 : H a = some (.lst ov)) (h3 : DqAll K (hid ph am H) ov os) (h4 : ov.length ≤ sizeLine) (dv : DqAll K (hid ph am H) vs ds) :
    SR K (ph.lend am i a) (ph.lend am i a).ba ((.ref a :: vs).map some) H (.ow true os :: ds.map .fz) := by
  refine ⟨by simp [dv.length], fun j d q => ?_, fun j b es q => ?_, fun j c q => ?_, fun j l c q1 q2 => ?_, fun c hc => s.hiddenM hc.1, fun j c q => q, fun j o q => ?_⟩
  · cases j with
    | zero => simp at q
    | succ j =>
      obtain ⟨d', g1, g2⟩ := map_fz_get (j := j) (c := Cell.fz d) q
      cases g2
      obtain ⟨v, g3, g4⟩ := dv.get g1
      exact ⟨v, by simp [g3], by rw [hid_lend h1]; exact g4⟩
  · cases j with
    | zero =>
      simp at q
      obtain ⟨rfl, rfl⟩ := q
      exact ⟨a, ov, lend_ba.mpr ⟨rfl, rfl⟩, rfl, h2, by rw [hid_lend h1]; exact h3, h4, fun z => by cases z⟩
    | succ j =>
      obtain ⟨d', g1, g2⟩ := map_fz_get (j := j) (c := Cell.ow b es) q
      cases g2
  · obtain ⟨rfl, rfl⟩ := lend_ba.mp q
    exact ⟨fun z => z.2 rfl, .ow true os, rfl, trivial⟩
  · rw [(lend_ba.mp q1).1, (lend_ba.mp q2).1]
  · cases j with
    | zero => simp at q
    | succ j =>
      obtain ⟨d', g1, g2⟩ := map_fz_get (j := j) (c := Cell.od o) q
      cases g2
theorem defO_read {i : Nat} {t : TA} {G : Sg → Option (Ans PyData × Sg)} (q : ReadA X W t fs) (hn : ∀ ds δ δ', fs δ = some (.ok ds, δ') → ds.length + 1 = n) : ReadE X W (tCallS (spD X.K X.mg n G) (WE W) (tCons (tVar i) t)) (xDefO G i fs) := by
  intro ph am σ H δ Q ans δ' s z k kx
  unfold xDefO at z
  split at z
  · rename_i b0 ds0 e3
    obtain ⟨a0, vs0, o1, o2, o3, o4, _, _⟩ := s.ow i b0 ds0 e3
    refine ⟨.ref a0, o2, ?_⟩
    rcases bnd_some z with ⟨ds, δ1, e4, e5⟩ | ⟨c, fs, e4, e5⟩
    · refine q ph am σ H δ _ _ _ s e4 (fun d' ed am1 vs H1 st1 s1 dv => ?_) (fun c fs z => by cases z)
      cases ed
      split at e5
      · rename_i b os e6
        obtain ⟨a1, ov, r1, r2, r3, r4, r5, r6⟩ := s1.ow i b os e6
        rw [o2] at r2
        cases r2
        split at e5
        · rename_i d b' os' rest e7
          cases e5
          refine ⟨by simp [dv.length, hn ds δ δ1 e4], ph.lend am1 i a0, _, _, _, s1.lend (b := b) r1 r3 r4 r5 dv, e7, fun d ed v H' st' s' dv' => ?_, fun c fs z => by cases z⟩
          cases ed
          have st2 : Step am1 H1 am1 H' := ⟨fun b o h m => st'.keep b o h fun j z => by
            obtain ⟨_, rfl⟩ := lend_ba.mp z
            exact m i r1, fun j b h => .inl ⟨j, h⟩, st'.there⟩
          rw [hid_lend r1] at dv'
          obtain ⟨a2, ov2, t1, t2, t3, t4, t5, _⟩ := s'.ow 0 b' os' rfl
          obtain ⟨_, rfl⟩ := lend_ba.mp t1
          rw [hid_lend r1] at t4
          have hi : i < δ1.length := (List.getElem?_eq_some_iff.mp e6).1
          refine k _ rfl am1 v H' (st1.trans st2) ⟨by rw [List.length_set, s1.len], fun j d q => ?_, fun j bb es q => ?_, fun j c q => ?_, s1.inj, fun c hc => ?_, s1.bas, fun j o q => ?_⟩ dv'
          · have hj : j ≠ i := fun z => by
              subst z
              rw [List.getElem?_set_self hi] at q
              cases q
            rw [List.getElem?_set_ne (Ne.symm hj)] at q
            obtain ⟨v, g1, g2⟩ := s1.fz j d q
            exact ⟨v, g1, dp_mono st2.hid g2⟩
          · by_cases hj : j = i
            · subst hj
              rw [List.getElem?_set_self hi] at q
              cases q
              exact ⟨a2, ov2, r1, o2, t3, t4, t5, r6⟩
            · rw [List.getElem?_set_ne (Ne.symm hj)] at q
              obtain ⟨a3, vs3, g1, g2, g3, g4, g5⟩ := s1.ow j bb es q
              refine ⟨a3, vs3, g1, g2, st'.keep _ _ g3 fun l z => ?_, dps_mono st2.hid g4, g5⟩
              obtain ⟨_, rfl⟩ := lend_ba.mp z
              exact hj (s1.inj j i _ g1 r1)
          · obtain ⟨g1, c2, g2, g3⟩ := s1.amf j c q
            by_cases hj : j = i
            · exact ⟨g1, .ow b os', by rw [hj]; exact List.getElem?_set_self hi, trivial⟩
            · exact ⟨g1, c2, by rw [List.getElem?_set_ne (Ne.symm hj)]; exact g2, g3⟩
          · obtain ⟨o, h, m⟩ := s1.phs c hc
            refine ⟨o, st'.keep c o h fun l z => ?_, m⟩
            obtain ⟨_, rfl⟩ := lend_ba.mp z
            exact (s1.amf i _ r1).1 hc
          · by_cases hj : j = i
            · subst hj
              rw [List.getElem?_set_self hi] at q
              cases q
            · rw [List.getElem?_set_ne (Ne.symm hj)] at q
              obtain ⟨a3, u3, g1, g2, g3, g4, g5⟩ := s1.od j o q
              refine ⟨a3, u3, g1, g2, st'.keep _ _ g3 fun l z => ?_, dor_mono st2.hid g4, g5⟩
              obtain ⟨_, rfl⟩ := lend_ba.mp z
              exact hj (s1.inj j i _ g1 r1)
        · cases e5
      · cases e5
    · subst e5
      exact q ph am σ H δ _ _ _ s e4 (fun d ed => by cases ed) (fun c' fs' z => by cases z; exact kx _ _ rfl)
  · cases z
theorem de_callO {i : Nat} {y : Str} {pn : Pos} {G : Sg → Option (Ans PyData × Sg)} (F : FnOk X.prog X.w X.K X.mg X.base (L2.CX X.prog X.w) k fa fd ps (spD X.K X.mg n G)) (hr : Room k X.A) (hm : X.mg x = some (.ref fa)) (hk : PySem.W.keepIn X.K (.ref fa) = true) (hb : Binds X.K fd ps []) (hx : ∀ σ, PassesAt (L2.CX X.prog X.w) X σ (WE W σ))
    (ha : DA X W es fs) (hn : ∀ ds δ δ', fs δ = some (.ok ds, δ') → ds.length + 1 = n) (hN : X.N[i]? = some y := by rfl) (hv : Vis X.env.scope y := by first | exact Or.inl rfl | exact Or.inr (Or.inl rfl) | exact Or.inr (Or.inr rfl)) (hd : (y == ("__debug__" : Str)) = false := by decide) (hcd : (y == ("__classdict__" : Str)) = false := by decide)
    (hg : Gl X x := by rfl) (hdb : (x == ("__debug__" : Str)) = false := by decide) (he : starEach (.Name y pn :: es) X.env = (false, eval (.Name y pn) X.env) :: starEach es X.env := by rfl) (hpl : (backTo pos (starEach es X.env)).any (·.1) = false := by rfl) :
    DE X W (.Call (.Name x pf) (.Name y pn :: es) [] pos) (xDefO G i fs) := by
  obtain ⟨t, p, q⟩ := ha.ex
  exact ⟨⟨_, pe_callS F hr hg hm hk hb hx (pa_cons (pe_var hN hv hd hcd) p he) hdb he hpl, defO_read q hn⟩⟩

/-- the one argument a new list, lent -/
def xDefT (G : Sg → Option (Ans PyData × Sg)) (fs : M (List PyData)) : M PyData := bnd fs fun ds => fun δ => match G [.ow true ds] with
  | some (.ok d, _) => some (.ok d, δ)
  | _ => none
def Fx.temp (ph : Fx) (am : Am) (a : Addr) : Fx := ⟨Hid ph am, fun j => if j = 0 then some a else none⟩
theorem temp_ba {j : Nat} {b : Addr} : (ph.temp am a).ba j = some b ↔ j = 0 ∧ b = a := by
  unfold Fx.temp
  by_cases h : j = 0
  · simp [h]; exact eq_comm
  · simp [h]
theorem hid_temp : Same (hid (ph.temp am a) (ph.temp am a).ba H) (hid ph am H) := fun b o h => by
  obtain ⟨h1, h2⟩ := hid_some.mp h
  exact hid_some.mpr ⟨fun z => h1 (.inl z), h2⟩
theorem defT_read {t : TE} {G : Sg → Option (Ans PyData × Sg)} (q : ReadF X W t fs) : ReadE X W (tCallS (spD X.K X.mg 1 G) (WE W) (tCons t tNil)) (xDefT G fs) := by
  intro ph am σ H δ Q ans δ' s z k kx
  rcases bnd_some z with ⟨ds, δ1, e1, e2⟩ | ⟨c, fs, e1, e2⟩
  · refine q ph am σ H δ _ _ _ s e1 (fun d' ed am1 p vs H1 n0 n1 st1 s1 dv hz => ?_) (fun c fs z => by cases z)
    cases ed
    split at e2
    · rename_i d cells e3
      cases e2
      have sm : Same H1 (upd H1 p (.lst vs)) := same_new n1
      have hh : Same (hid ph am1 H1) (hid (ph.temp am1 p) (ph.temp am1 p).ba (upd H1 p (.lst vs))) := fun b o h => by
        obtain ⟨h1, h2⟩ := hid_some.mp h
        refine hid_some.mpr ⟨fun z => ?_, sm b o h2⟩
        rcases z with z | ⟨j, z⟩
        · exact h1 z
        · obtain ⟨_, rfl⟩ := temp_ba.mp z
          rw [n1] at h2
          cases h2
      have s2 : SR X.K (ph.temp am1 p) (ph.temp am1 p).ba ([V.ref p].map some) (upd H1 p (.lst vs)) [.ow true ds] := by
        refine ⟨rfl, fun j d q => ?_, fun j b es q => ?_, fun j c q => ?_, fun j l c q1 q2 => ?_, fun c hc => ?_, fun j c q => q, fun j o q => ?_⟩
        · cases j with
          | zero => simp at q
          | succ j => simp at q
        · cases j with
          | zero =>
            simp at q
            obtain ⟨rfl, rfl⟩ := q
            exact ⟨p, vs, temp_ba.mpr ⟨rfl, rfl⟩, rfl, upd_same, dps_mono hh dv, hz, fun z => by cases z⟩
          | succ j => simp at q
        · obtain ⟨rfl, rfl⟩ := temp_ba.mp q
          exact ⟨fun z => s1.new n1 z, .ow true ds, rfl, trivial⟩
        · rw [(temp_ba.mp q1).1, (temp_ba.mp q2).1]
        · obtain ⟨o, h, m⟩ := s1.hiddenM hc
          exact ⟨o, sm c o h, m⟩
        · cases j with
          | zero => simp at q
          | succ j => simp at q
      refine ⟨rfl, ph.temp am1 p, _, _, _, s2, e3, fun d ed v H' st' _ dv' => ?_, fun c fs z => by cases z⟩
      cases ed
      have sm2 : Same H1 H' := fun b o h => st'.keep b o (sm b o h) fun j z => by
        obtain ⟨_, rfl⟩ := temp_ba.mp z
        rw [n1] at h
        cases h
      exact k _ rfl am1 v H' (st1.trans (Step.of sm2)) (s1.same sm2) (dp_mono hid_temp dv')
    · cases e2
  · subst e2
    exact q ph am σ H δ _ _ _ s e1 (fun d ed => by cases ed) (fun c' fs' z => by cases z; exact kx _ _ rfl)
theorem de_callT {G : Sg → Option (Ans PyData × Sg)} (F : FnOk X.prog X.w X.K X.mg X.base (L2.CX X.prog X.w) k fa fd ps (spD X.K X.mg 1 G)) (hr : Room k X.A) (hm : X.mg x = some (.ref fa)) (hk : PySem.W.keepIn X.K (.ref fa) = true) (hb : Binds X.K fd ps []) (hx : ∀ σ, PassesAt (L2.CX X.prog X.w) X σ (WE W σ))
    (ha : DF X W e fs) (hg : Gl X x := by rfl) (hdb : (x == ("__debug__" : Str)) = false := by decide) (he : starEach [e] X.env = (false, eval e X.env) :: starEach [] X.env := by rfl) (hpl : (backTo pos (starEach [] X.env)).any (·.1) = false := by rfl) :
    DE X W (.Call (.Name x pf) [e] [] pos) (xDefT G fs) := by
  obtain ⟨t, p, q⟩ := ha.ex
  exact ⟨⟨_, pe_callS F hr hg hm hk hb hx (pa_cons p pa_nil he) hdb he hpl, defT_read q⟩⟩
/-- a def that hands back a new list -/
def xDefF (G : Sg → Option (Ans (List PyData) × Sg)) (fs : M (List PyData)) : M (List PyData) := bnd fs fun ds => fun δ => match G (ds.map .fz) with
  | some (.ok d, _) => some (.ok d, δ)
  | some (.ex c es, _) => some (.ex c es, δ)
  | none => none
theorem defF_read {t : TA} {G : Sg → Option (Ans (List PyData) × Sg)} (q : ReadA X W t fs) (hn : ∀ ds δ δ', fs δ = some (.ok ds, δ') → ds.length = n) : ReadF X W (tCallS (spF X.K X.mg n G) (WE W) t) (xDefF G fs) := by
  intro ph am σ H δ Q ans δ' s z k kx
  rcases bnd_some z with ⟨ds, δ1, e1, e2⟩ | ⟨c, fs, e1, e2⟩
  · refine q ph am σ H δ _ _ _ s e1 (fun d' ed am1 vs H1 st1 s1 dv => ?_) (fun c fs z => by cases z)
    cases ed
    refine ⟨by rw [dv.length]; exact hn ds δ δ1 e1, ph.under am1, ds.map .fz, ?_⟩
    have s2 := s1.under dv
    split at e2
    · rename_i d cells e3
      cases e2
      refine ⟨_, _, s2, e3, fun d ed p us H' n0 n1 st' _ dv' hz => ?_, fun c fs z => by cases z⟩
      cases ed
      have sm : Same H1 H' := fun b o h => st'.keep b o h fun i z => by cases z
      rw [show (ph.under am1).ba = fun _ => none from rfl, hid_under] at dv'
      exact k _ rfl am1 p us H' (st1.none n0) n1 (st1.trans (Step.of sm)) (s1.same sm) dv' hz
    · rename_i c es cells e3
      cases e2
      refine ⟨_, _, s2, e3, fun d ed => (by cases ed), fun c fs z => ?_⟩
      cases z
      exact XP.of_under s1 ((kx _ _ rfl).step st1)
    · cases e2
  · subst e2
    exact q ph am σ H δ _ _ _ s e1 (fun d ed => by cases ed) (fun c' fs' z => by cases z; exact kx _ _ rfl)
theorem df_call {G : Sg → Option (Ans (List PyData) × Sg)} (F : FnOk X.prog X.w X.K X.mg X.base (L2.CX X.prog X.w) k fa fd ps (spF X.K X.mg n G)) (hr : Room k X.A) (hm : X.mg x = some (.ref fa)) (hk : PySem.W.keepIn X.K (.ref fa) = true) (hb : Binds X.K fd ps []) (hx : ∀ σ, PassesAt (L2.CX X.prog X.w) X σ (WE W σ))
    (ha : DA X W (e :: es) fs) (hn : ∀ ds δ δ', fs δ = some (.ok ds, δ') → ds.length = n) (hg : Gl X x := by rfl) (hdb : (x == ("__debug__" : Str)) = false := by decide) (he : starEach (e :: es) X.env = (false, eval e X.env) :: starEach es X.env := by rfl) (hpl : (backTo pos (starEach es X.env)).any (·.1) = false := by rfl) :
    DF X W (.Call (.Name x pf) (e :: es) [] pos) (xDefF G fs) := by
  obtain ⟨t, p, q⟩ := ha.ex
  exact ⟨⟨_, pe_callS F hr hg hm hk hb hx p hdb he hpl, defF_read q hn⟩⟩
/-! how many arguments -/
theorem alen0 : ∀ (ds : List PyData) (δ δ' : Sg), (ret [] : M (List PyData)) δ = some (.ok ds, δ') → ds.length = 0 := fun ds δ δ' h => by cases h; rfl
theorem alenS {n : Nat} (h : ∀ ds δ δ', fs δ = some (.ok ds, δ') → ds.length = n) : ∀ (ds : List PyData) (δ δ' : Sg), (bnd f fun d => bnd fs fun ds => ret (d :: ds)) δ = some (.ok ds, δ') → ds.length = n + 1 := fun ds δ δ' z => by
  rcases bnd_some z with ⟨d, δ1, e1, e2⟩ | ⟨c, fs, e1, e2⟩
  · rcases bnd_some e2 with ⟨d, δ2, e3, e4⟩ | ⟨c, fs, e3, e4⟩
    · cases e4
      rw [List.length_cons, h _ _ _ e3]
    · cases e4
  · cases e2
theorem alenO {n : Nat} (h : ∀ ds δ δ', fs δ = some (.ok ds, δ') → ds.length = n) : ∀ (ds : List PyData) (δ δ' : Sg), fs δ = some (.ok ds, δ') → ds.length + 1 = n + 1 := fun ds δ δ' z => by rw [h ds δ δ' z]
end PD
end

section
set_option Elab.async false
set_option linter.all false
set_option maxRecDepth 100000
set_option maxHeartbeats 1000000
namespace PD
open PySem PySem.Spec PyProof.Rows L2
variable {X : Cx} {W : WX} {pos : Pos} {e e1 e2 e3 : Expr} {es : List Expr} {f g h : M PyData} {fs : M (List PyData)} {fb gb : M Bool}
variable {K : PySem.W.Frag} {ph : Fx} {am am' am1 : Am} {H H' H1 : Hp} {σ σ' : L2.St} {δ δ' δ1 : Sg} {a p p1 p2 D : Addr} {v : V} {vs : List V} {d : PyData} {ds : List PyData} {i : Nat}

/-! displays times an int; x or y of new lists; parts of a list -/
def xRepF (fs : M (List PyData)) (g : M PyData) : M (List PyData) := bnd fs fun ds => bnd g fun b => lif (match b with
  | .int k => if -(2 ^ 63) ≤ k ∧ k < 2 ^ 63 ∧ ds.length * k.toNat ≤ sizeLine then some (List.replicate k.toNat ds).flatten else none
  | _ => none)
theorem df_rep (ha : DF X W e1 fs) (hb : DE X W e2 g) : DF X W (.BinOp e1 .Mult e2 pos) (xRepF fs g) := by
  obtain ⟨ta, pa, qa⟩ := ha.ex
  obtain ⟨tb, pb, qb⟩ := hb.ex
  refine ⟨⟨_, pe_op op_rep pa pb, fun ph am σ H δ Q ans δ' s q k kx => ?_⟩⟩
  rcases bnd_some q with ⟨a, δ1, e1, q1⟩ | ⟨c, fs, e1, q1⟩
  · refine qa ph am σ H δ _ _ _ s e1 (fun d ed am1 p vs H1 n0 n1 st1 s1 d1 hz => ?_) (fun c fs z => by cases z)
    cases ed
    have sm : Same H1 (upd H1 p (.lst vs)) := same_new n1
    have s2 := s1.same sm
    have stA : Step am H am1 (upd H1 p (.lst vs)) := st1.trans (Step.of sm)
    rcases bnd_some q1 with ⟨b, δ2, e2, q2⟩ | ⟨c, fs, e2, q2⟩
    · refine qb ph am1 σ _ δ1 _ _ _ s2 e2 (fun d ed am2 y H2 st2 s3 d2 => ?_) (fun c fs z => by cases z)
      cases ed
      obtain ⟨z, e3, rfl, rfl⟩ := lif_some q2
      cases d2 with
      | int n =>
        obtain ⟨⟨h1, h2, h3⟩, rfl⟩ := if_some e3
        have hp : H2 p = some (.lst vs) := st2.keep p _ upd_same fun i z => s1.new n1 (.inr ⟨i, z⟩)
        refine ⟨p, n, vs, rfl, rfl, hp, h1, h2, Nat.le_trans (Nat.le_of_eq (by rw [d1.length])) h3, fun p2 np => ?_⟩
        have d3 : DqAll X.K (hid ph am2 H2) vs a := dps_mono st2.hid (dps_mono (hid_same sm) d1)
        have hL : (List.replicate n.toNat vs).flatten.length = a.length * n.toNat := by
          rw [PyProof.Rows.lm_len_rep_flat, d1.length]
          exact Nat.mul_comm _ _
        exact k _ rfl am2 p2 _ H2 ((stA.trans st2).none np) np (stA.trans st2) s3 (d3.flat _) (Nat.le_trans (Nat.le_of_eq hL) h3)
      | _ => cases e3
    · subst q2
      exact qb ph am1 σ _ δ1 _ _ _ s2 e2 (fun d ed => by cases ed) (fun c' fs' z => by cases z; exact (kx _ _ rfl).step stA)
  · subst q1
    exact qa ph am σ H δ _ _ _ s e1 (fun d ed => by cases ed) (fun c' fs' z => by cases z; exact kx _ _ rfl)
end PD
end

section
set_option Elab.async false
set_option linter.all false
set_option maxRecDepth 100000
set_option maxHeartbeats 1000000
namespace PD
open PySem PySem.Spec PyProof.Rows L2
variable {X : Cx} {W : WX} {pos : Pos} {e e1 e2 e3 : Expr} {es : List Expr} {f g h : M PyData} {fs : M (List PyData)} {fb gb : M Bool}
variable {K : PySem.W.Frag} {ph : Fx} {am am' am1 : Am} {H H' H1 : Hp} {σ σ' : L2.St} {δ δ' δ1 : Sg} {a p p1 p2 D : Addr} {v : V} {vs : List V} {d : PyData} {ds : List PyData} {i : Nat}

def xOrF (fs gs : M (List PyData)) : M (List PyData) := bnd fs fun ds => if ds.isEmpty = true then gs else ret ds
theorem df_one {op} {fs : M (List PyData)} (ha : DF X W e fs) : DF X W (.BoolOp op [e] pos) fs := by
  obtain ⟨ta, pa, qa⟩ := ha.ex
  exact ⟨⟨_, pe_one pa, qa⟩⟩
theorem df_or {gs : M (List PyData)} (ha : DF X W e1 fs) (hb : DF X W (.BoolOp .Or (e2 :: es) pos) gs) : DF X W (.BoolOp .Or (e1 :: e2 :: es) pos) (xOrF fs gs) := by
  obtain ⟨ta, pa, qa⟩ := ha.ex
  obtain ⟨tb, pb, qb⟩ := hb.ex
  refine ⟨⟨_, pe_orT pa pb, fun ph am σ H δ Q ans δ' s q k kx => ?_⟩⟩
  rcases bnd_some q with ⟨a, δ1, e1, q1⟩ | ⟨c, fs, e1, q1⟩
  · refine qa ph am σ H δ _ _ _ s e1 (fun d ed am1 p vs H1 n0 n1 st1 s1 d1 hz => ?_) (fun c fs z => by cases z)
    cases ed
    have sm : Same H1 (upd H1 p (.lst vs)) := same_new n1
    have hev : vs.isEmpty = a.isEmpty := by cases d1 <;> rfl
    refine ⟨!vs.isEmpty, .inl ⟨vs, .inl (.inl upd_same), rfl⟩, ?_⟩
    rw [hev]
    cases ha : a.isEmpty with
    | true =>
      rw [ha, if_pos rfl] at q1
      exact iteF (qb ph am1 σ _ δ1 _ _ _ (s1.same sm) q1 (fun ds ed am2 p2 vs2 H2 m0 m1 st2 s2 d2 hz2 => k ds ed am2 p2 vs2 H2 ((st1.trans (Step.of sm)).none m0) m1 ((st1.trans (Step.of sm)).trans st2) s2 d2 hz2) fun c fs z => (kx c fs z).step (st1.trans (Step.of sm)))
    | false =>
      rw [ha, if_neg Bool.false_ne_true] at q1
      cases q1
      exact iteT (k _ rfl am1 p vs H1 n0 n1 st1 s1 d1 hz)
  · subst q1
    exact qa ph am σ H δ _ _ _ s e1 (fun d ed => by cases ed) (fun c' fs' z => by cases z; exact kx _ _ rfl)
end PD
end

section
set_option Elab.async false
set_option linter.all false
set_option maxRecDepth 100000
set_option maxHeartbeats 1000000
namespace PD
open PySem PySem.Spec PyProof.Rows L2
variable {X : Cx} {W : WX} {pos : Pos} {e e1 e2 e3 : Expr} {es : List Expr} {f g h : M PyData} {fs : M (List PyData)} {fb gb : M Bool}
variable {K : PySem.W.Frag} {ph : Fx} {am am' am1 : Am} {H H' H1 : Hp} {σ σ' : L2.St} {δ δ' δ1 : Sg} {a p p1 p2 D : Addr} {v : V} {vs : List V} {d : PyData} {ds : List PyData} {i : Nat}
variable {k : Nat} {fa : Addr} {fd : FuncData} {ps : List Str} {x : Str} {pf : Pos} {n : Nat}
/-! ### raise X() -/
theorem pmk_own0 {C : Addr} {bmB : List Value} {B newId initId : String} {x : Str} {p : Pos} (F : ExcBaseFacts B newId initId bmB) (q : PySem.W.excIn X.K C bmB newId = true) (gC : X.mg x = some (.ref C))
    (kC : PySem.W.keepIn X.K (.ref C) = true) (r : Raises X (.ref C)) (hg : Gl X x) (hdb : (x == ("__debug__" : Str)) = false := by decide) : PMk X (.Call (.Name x p) [] [] pos) (fun _ H Q => Q (.ref C) none H) := by
  intro pins s σ H Q I h
  refine wpAny_Call_Name_kw (ld_glob I hg gC ?_ hdb)
  refine PySem.W.callWith_K0 (first := []) I.kIn kC ?_
  show wpAny _ _ (call (.ref C) []) _ _ _
  obtain ⟨bm, N, nm, qn, bs, hdct, sn, sub, ab, col, dd, k0, k1, k2, k3, k5, mN, hC, hN, hni, T⟩ := exc_obj I.kIn q
  refine wpAny_call_exc_subT F T hC hN hni (fun h' e hm => ?_) (Nat.zero_le _)
  exact mk_of I hm r h (I.hok.gone hm.new)
/-- facts of an own exception class without an __init__ -/
structure ExcT (K : PySem.W.Frag) (mg : Str → Option Value) (x : Str) (C : Addr) (B newId initId : String) (bmB : List Value) : Prop where
  F : ExcBaseFacts B newId initId bmB
  q : PySem.W.excIn K C bmB newId = true
  g : mg x = some (.ref C)
  k : PySem.W.keepIn K (.ref C) = true
  b : PySem.W.subIn K (.ref C) (.type "BaseException") = some true
  t : PySem.W.typeIn K (.ref C) = some (.type "type")
def sRaise (c : Str) : MS := fun δ => some (.ex c [], δ)
theorem ds_raise0 {C : Addr} {bmB : List Value} {B newId initId : String} {x : Str} {p : Pos} {rp : Pos} (T : ExcT X.K X.mg x C B newId initId bmB) (hc : X.calm = true) (tk : Takes X W) (hg : Gl X x := by rfl) (hdb : (x == ("__debug__" : Str)) = false := by decide) :
    DS X W (.Raise (some (.Call (.Name x p) [] [] pos)) none rp) (sRaise x) :=
  ⟨⟨_, ps_raise hc tk (pmk_own0 T.F T.q T.g T.k (raises_own T.b T.t) hg hdb), fun ph am σ H δ D ans δ' s q _ kx => by
    cases q
    exact kx _ _ rfl C none am σ H T.g Step.refl s (.inl ⟨rfl, rfl⟩)⟩⟩
/-! ### keywords alone -/
structure DK (X : Cx) (W : WX) (kws : List Keyword) (f : M (List PyData)) : Prop where
  ex : ∃ t, PK X kws t ∧ ReadA X W t f
theorem dk_nil : DK X W [] (ret []) := ⟨⟨tNil, pk_nil, fun ph am σ H δ Q ans δ' s q k _ => by cases q; exact k _ rfl am [] H Step.refl s .nil⟩⟩
theorem dk_cons {kws : List Keyword} {nm : Option Str} {kpos : Pos} (h : DE X W e f) (t : DK X W kws fs) : DK X W (⟨nm, e, kpos⟩ :: kws) (bnd f fun d => bnd fs fun ds => ret (d :: ds)) := by
  obtain ⟨ta, pa, qa⟩ := h.ex
  obtain ⟨tb, pb, qb⟩ := t.ex
  refine ⟨⟨_, pk_cons pa pb, fun ph am σ H δ Q ans δ' s q k kx => ?_⟩⟩
  rcases bnd_some q with ⟨a, δ1, e1, q1⟩ | ⟨c, fs, e1, q1⟩
  · refine qa ph am σ H δ _ _ _ s e1 (fun d ed am1 x H1 st1 s1 d1 => ?_) (fun c fs z => by cases z)
    cases ed
    rcases bnd_some q1 with ⟨b, δ2, e2, q2⟩ | ⟨c, fs, e2, q2⟩
    · cases q2
      refine qb ph am1 σ H1 δ1 _ _ _ s1 e2 (fun d ed am2 y H2 st2 s2 d2 => ?_) (fun c fs z => by cases z)
      cases ed
      exact k _ rfl am2 _ H2 (st1.trans st2) s2 (.cons (dp_mono st2.hid d1) d2)
    · subst q2
      exact qb ph am1 σ H1 δ1 _ _ _ s1 e2 (fun d ed => by cases ed) (fun c' fs' z => by cases z; exact (kx _ _ rfl).step st1)
  · subst q1
    exact qa ph am σ H δ _ _ _ s e1 (fun d ed => by cases ed) (fun c' fs' z => by cases z; exact kx _ _ rfl)
def pick {α : Type} (perm : List Nat) (xs : List α) : List α := if xs.length = perm.length then perm.filterMap (xs[·]?) else []
theorem vals_fm {zs : List V} {ws : List Value} (r : Vals zs ws) : ∀ perm : List Nat, Vals (perm.filterMap (zs[·]?)) (perm.filterMap (ws[·]?))
  | [] => .nil
  | j :: t => by
    cases e : zs[j]? with
    | none =>
      have e' := r.none_of e
      rw [List.filterMap_cons, List.filterMap_cons, e, e']
      exact vals_fm r t
    | some x =>
      obtain ⟨u, e', r'⟩ := r.get e
      rw [List.filterMap_cons, List.filterMap_cons, e, e']
      exact .cons r' (vals_fm r t)
theorem dqs_fm {zs : List V} {ds : List PyData} (r : DqAll K H zs ds) : ∀ perm : List Nat, DqAll K H (perm.filterMap (zs[·]?)) (perm.filterMap (ds[·]?))
  | [] => .nil
  | j :: t => by
    cases e : ds[j]? with
    | none =>
      have e' : zs[j]? = none := List.getElem?_eq_none (by rw [r.length]; exact List.getElem?_eq_none_iff.mp e)
      rw [List.filterMap_cons, List.filterMap_cons, e, e']
      exact dqs_fm r t
    | some x =>
      obtain ⟨u, e', r'⟩ := r.get e
      rw [List.filterMap_cons, List.filterMap_cons, e, e']
      exact .cons r' (dqs_fm r t)
theorem vals_pick {perm : List Nat} {zs : List V} {ws : List Value} (r : Vals zs ws) : Vals (pick perm zs) (pick perm ws) := by
  unfold pick
  rw [r.length]
  split
  · exact vals_fm r perm
  · exact .nil
theorem dqs_pick {perm : List Nat} {zs : List V} {ds : List PyData} (r : DqAll K H zs ds) : DqAll K H (pick perm zs) (pick perm ds) := by
  unfold pick
  rw [r.length]
  split
  · exact dqs_fm r perm
  · exact .nil
theorem pe_callK0 {CX : CXT} {sp : Sp} {E : L2.St → XK} {p : Pos} {kws : List Keyword} {tk : TA} {ks : List Str} {perm : List Nat} (F : FnOk X.prog X.w X.K X.mg X.base CX k fa fd ps sp) (hr : Room k X.A) (hg : Gl X x) (hm : X.mg x = some (.ref fa)) (hk : PySem.W.keepIn X.K (.ref fa) = true)
    (hb : ∀ ws : List Value, ws.length = perm.length → bindArgs fd ⟨[], ks.zip ws⟩ = pure (ps.zip (pick perm ws))) (hx : ∀ σ, PassesAt CX X σ (E σ))
    (hkw : PK X kws tk) (hall : (backToKw pos (keywordEach kws X.env)).all (·.1.isSome) = true := by rfl) (hks : (backToKw pos (keywordEach kws X.env)).filterMap (·.1) = ks := by rfl)
    (hdb : (x == ("__debug__" : Str)) = false := by decide) (hpl : ((backTo pos (starEach [] X.env)).any (·.1) || (backToKw pos (keywordEach kws X.env)).any (·.1.isNone)) = false := by rfl) :
    PE X (.Call (.Name x p) [] kws pos) (fun σ H Q => tk σ H fun zs H2 => zs.length = perm.length ∧ sp (pick perm zs) H2 Q (E σ)) := by
  refine ⟨fun pins s σ H Q I h => ?_⟩
  refine wpAny_Call_Name_kw (ld_glob I hg hm ?_ hdb)
  refine PySem.W.callWith_KW0 (first := []) (h₀ := X.base) I.ok.mod.kin hk hall ?_ hpl
  refine thn (hkw.run pos pins s σ H _ I h) fun ws s2 ⟨zs, H2, I2, rz, hz, q2⟩ => ⟨I2.kIn, ?_⟩
  rw [hks]
  show wpAny _ _ (call (.ref fa) [] (ks.zip ws)) _ _ _
  have r2 : Vals (pick perm zs) (pick perm ws) := vals_pick rz
  refine wpAny_call (codeAny_mono (F.run X.A X.stack s2 H2 ⟨[], ks.zip ws⟩ (pick perm ws) (pick perm zs) Q (E σ) hr I2.env0 (.of_eq (hb ws (by rw [← rz.length]; exact hz))) r2 q2) fun r s' hq => ?_)
  cases r with
  | error e => exact hx σ pins H2 s2 e s' I2 hq
  | ok fl =>
    cases fl with
    | ret u => exact I2.after hq
    | next => exact False.elim hq
    | brk => exact False.elim hq
    | cont => exact False.elim hq
def xDefK (G : Sg → Option (Ans PyData × Sg)) (perm : List Nat) (fs : M (List PyData)) : M PyData := bnd fs fun ds => if ds.length = perm.length then xDef G (ret (pick perm ds)) else lif none
theorem de_callK0 {kws : List Keyword} {ks : List Str} {perm : List Nat} {G : Sg → Option (Ans PyData × Sg)} (F : FnOk X.prog X.w X.K X.mg X.base (L2.CX X.prog X.w) k fa fd ps (spD X.K X.mg n G)) (hr : Room k X.A) (hm : X.mg x = some (.ref fa)) (hk : PySem.W.keepIn X.K (.ref fa) = true)
    (hb : ∀ ws : List Value, ws.length = perm.length → bindArgs fd ⟨[], ks.zip ws⟩ = pure (ps.zip (pick perm ws))) (hx : ∀ σ, PassesAt (L2.CX X.prog X.w) X σ (WE W σ)) (hkw : DK X W kws fs) (hn : ∀ ds : List PyData, ds.length = perm.length → (pick perm ds).length = n)
    (hg : Gl X x := by rfl) (hall : (backToKw pos (keywordEach kws X.env)).all (·.1.isSome) = true := by rfl) (hks : (backToKw pos (keywordEach kws X.env)).filterMap (·.1) = ks := by rfl)
    (hdb : (x == ("__debug__" : Str)) = false := by decide) (hpl : ((backTo pos (starEach [] X.env)).any (·.1) || (backToKw pos (keywordEach kws X.env)).any (·.1.isNone)) = false := by rfl) : DE X W (.Call (.Name x pf) [] kws pos) (xDefK G perm fs) := by
  obtain ⟨t, p, q⟩ := hkw.ex
  refine ⟨⟨_, pe_callK0 F hr hg hm hk hb hx p hall hks hdb hpl, fun ph am σ H δ Q ans δ' s z k kx => ?_⟩⟩
  rcases bnd_some z with ⟨ds, δ1, e1, e2⟩ | ⟨c, fs, e1, e2⟩
  · refine q ph am σ H δ _ _ _ s e1 (fun d' ed am1 vs H1 st1 s1 dv => ?_) (fun c fs z => by cases z)
    cases ed
    split at e2
    · rename_i hl
      refine ⟨by rw [dv.length]; exact hl, ?_⟩
      have s2 := s1.under (dqs_pick (perm := perm) dv)
      rcases bnd_some e2 with ⟨ds2, δ2, e3, e4⟩ | ⟨c, fs, e3, e4⟩
      · cases e3
        refine ⟨by rw [(dqs_pick (perm := perm) dv).length]; exact hn ds hl, ph.under am1, (pick perm ds).map .fz, ?_⟩
        split at e4
        · rename_i d cells e5
          cases e4
          refine ⟨_, _, s2, e5, fun d ed v H' st' _ dv' => ?_, fun c fs z => by cases z⟩
          cases ed
          have sm : Same H1 H' := fun b o h => st'.keep b o h fun i z => by cases z
          rw [show (ph.under am1).ba = fun _ => none from rfl, hid_under] at dv'
          exact k _ rfl am1 v H' (st1.trans (Step.of sm)) (s1.same sm) dv'
        · rename_i c es cells e5
          cases e4
          refine ⟨_, _, s2, e5, fun d ed => (by cases ed), fun c fs z => ?_⟩
          cases z
          exact XP.of_under s1 ((kx _ _ rfl).step st1)
        · cases e4
      · cases e3
    · exact (lif_none e2).elim
  · subst e2
    exact q ph am σ H δ _ _ _ s e1 (fun d ed => by cases ed) (fun c' fs' z => by cases z; exact kx _ _ rfl)
/-! ### slices of a list or tuple, the parts ints -/
def cutD (xs : List PyData) (lo hi : Option Int) : List PyData := (xs.drop (HT.sIx xs.length 0 lo)).take (HT.sIx xs.length xs.length hi - HT.sIx xs.length 0 lo)
theorem dqs_cut {lo hi : Option Int} (h : DqAll K H vs ds) : DqAll K H (cutV vs lo hi) (cutD ds lo hi) := by
  unfold cutV cutD
  rw [h.length]
  exact (h.drop _).take _
structure DO (X : Cx) (W : WX) (e : Option Expr) (f : M (Option Int)) : Prop where
  ex : ∃ t, PO X e t ∧ ∀ (ph : Fx) (am : Am) (σ : L2.St) (H : Hp) (δ : Sg) (Q : Option Int → Hp → Prop) (ans : Ans (Option Int)) (δ' : Sg), SR X.K ph am σ H δ → f δ = some (ans, δ') →
    (∀ b, ans = .ok b → ∀ am' H', Step am H am' H' → SR X.K ph am' σ H' δ' → Q b H') → (∀ c fs, ans = .ex c fs → XP X W ph am σ H δ' c fs) → t σ H Q
theorem do_none : DO X W none (ret none) := ⟨⟨tNoPart, po_none, fun ph am σ H δ Q ans δ' s q k _ => by cases q; exact k _ rfl am H Step.refl s⟩⟩
def xPart (f : M PyData) : M (Option Int) := bnd f fun d => lif (match d with
  | .int i => some (some i)
  | _ => none)
theorem do_some (h : DE X W e f) : DO X W (some e) (xPart f) := by
  obtain ⟨ta, pa, qa⟩ := h.ex
  refine ⟨⟨_, po_some pa, fun ph am σ H δ Q ans δ' s q k kx => ?_⟩⟩
  rcases bnd_some q with ⟨a, δ1, e1, q1⟩ | ⟨c, fs, e1, q1⟩
  · refine qa ph am σ H δ _ _ _ s e1 (fun d ed am1 x H1 st1 s1 d1 => ?_) (fun c fs z => by cases z)
    cases ed
    obtain ⟨z, e3, rfl, rfl⟩ := lif_some q1
    cases d1 with
    | int i => cases e3; exact ⟨i, rfl, k _ rfl am1 H1 st1 s1⟩
    | _ => cases e3
  · subst q1
    exact qa ph am σ H δ _ _ _ s e1 (fun d ed => by cases ed) (fun c' fs' z => by cases z; exact kx _ _ rfl)
def xSlL (f : M PyData) (lo hi : M (Option Int)) : M (List PyData) := bnd f fun d => bnd lo fun l => bnd hi fun u => lif (match d with
  | .list xs => if xs.length ≤ sizeLine then some (cutD xs l u) else none
  | _ => none)
theorem df_slice {lo hi : Option Expr} {fl fh : M (Option Int)} {p2 : Pos} (he : DE X W e f) (hl : DO X W lo fl) (hh : DO X W hi fh) : DF X W (.Subscript e (.Slice lo hi none p2) pos) (xSlL f fl fh) := by
  obtain ⟨te, pe, qe⟩ := he.ex
  obtain ⟨tl, pl, ql⟩ := hl.ex
  obtain ⟨th, pp, qh⟩ := hh.ex
  refine ⟨⟨_, pe_slice sl_list pe pl pp, fun ph am σ H δ Q ans δ' s q k kx => ?_⟩⟩
  rcases bnd_some q with ⟨a, δ1, e1, q1⟩ | ⟨c, fs, e1, q1⟩
  · refine qe ph am σ H δ _ _ _ s e1 (fun d ed am1 x H1 st1 s1 d1 => ?_) (fun c fs z => by cases z)
    cases ed
    rcases bnd_some q1 with ⟨l, δ2, e2, q2⟩ | ⟨c, fs, e2, q2⟩
    · refine ql ph am1 σ H1 δ1 _ _ _ s1 e2 (fun d ed am2 H2 st2 s2 => ?_) (fun c fs z => by cases z)
      cases ed
      rcases bnd_some q2 with ⟨u, δ3, e3, q3⟩ | ⟨c, fs, e3, q3⟩
      · refine qh ph am2 σ H2 δ2 _ _ _ s2 e3 (fun d ed am3 H3 st3 s3 => ?_) (fun c fs z => by cases z)
        cases ed
        obtain ⟨z, e4, rfl, rfl⟩ := lif_some q3
        have d3 := dp_mono st3.hid (dp_mono st2.hid d1)
        cases d3 with
        | lst h1 a1 =>
          obtain ⟨hz0, rfl⟩ := if_some e4
          refine ⟨_, _, rfl, rd_hid h1, fun p np => ?_⟩
          have hz := Nat.le_trans (cutV_length _ l u) (Nat.le_trans (Nat.le_of_eq a1.length) hz0)
          exact k _ rfl am3 p _ H3 (((st1.trans st2).trans st3).none np) np ((st1.trans st2).trans st3) s3 (dqs_cut a1) hz
        | _ => cases e4
      · subst q3
        exact qh ph am2 σ H2 δ2 _ _ _ s2 e3 (fun d ed => by cases ed) (fun c' fs' z => by cases z; exact (kx _ _ rfl).step (st1.trans st2))
    · subst q2
      exact ql ph am1 σ H1 δ1 _ _ _ s1 e2 (fun d ed => by cases ed) (fun c' fs' z => by cases z; exact (kx _ _ rfl).step st1)
  · subst q1
    exact qe ph am σ H δ _ _ _ s e1 (fun d ed => by cases ed) (fun c' fs' z => by cases z; exact kx _ _ rfl)
end PD
end

section
set_option Elab.async false
set_option linter.all false
set_option maxRecDepth 100000
set_option maxHeartbeats 1000000
namespace PD
open PySem PySem.Spec PyProof.Rows L2
variable {X : Cx} {W : WX} {pos : Pos} {e e1 e2 e3 : Expr} {es : List Expr} {f g h : M PyData} {fs : M (List PyData)} {fb gb : M Bool}
variable {K : PySem.W.Frag} {ph : Fx} {am am' am1 : Am} {H H' H1 : Hp} {σ σ' : L2.St} {δ δ' δ1 : Sg} {a b p p1 p2 D : Addr} {v : V} {vs : List V} {d : PyData} {ds : List PyData} {i j : Nat}
variable {k : Nat} {fa : Addr} {fd : FuncData} {ps : List Str} {x : Str} {pf : Pos} {n : Nat}
/-! ### two lists of one's own lent -/
def Fx.lend2 (ph : Fx) (am : Am) (a b : Addr) : Fx := ⟨fun c => Hid ph am c ∧ c ≠ a ∧ c ≠ b, fun l => match l with
  | 0 => some a
  | 1 => some b
  | _ => none⟩
theorem lend2_ba {l : Nat} {c : Addr} : (ph.lend2 am a b).ba l = some c ↔ (l = 0 ∧ c = a) ∨ (l = 1 ∧ c = b) := by
  unfold Fx.lend2
  match l with
  | 0 => simp; exact eq_comm
  | 1 => simp; exact eq_comm
  | l + 2 => simp
theorem hid_lend2 (h1 : am i = some a) (h2 : am j = some b) : hid (ph.lend2 am a b) (ph.lend2 am a b).ba H = hid ph am H := by
  funext c
  unfold hid
  have : Hid (ph.lend2 am a b) (ph.lend2 am a b).ba c ↔ Hid ph am c := by
    constructor
    · rintro (⟨q, _⟩ | ⟨l, q⟩)
      · exact q
      · rcases lend2_ba.mp q with ⟨_, rfl⟩ | ⟨_, rfl⟩
        · exact .inr ⟨i, h1⟩
        · exact .inr ⟨j, h2⟩
    · intro q
      by_cases ha : c = a
      · exact .inr ⟨0, lend2_ba.mpr (.inl ⟨rfl, ha⟩)⟩
      · by_cases hb : c = b
        · exact .inr ⟨1, lend2_ba.mpr (.inr ⟨rfl, hb⟩)⟩
        · exact .inl ⟨q, ha, hb⟩
  by_cases h : Hid ph am c
  · rw [if_pos h, if_pos (this.mpr h)]
  · rw [if_neg h, if_neg (fun z => h (this.mp z))]
theorem SR.lend2 (s : SR K ph am σ H δ) {os us : List PyData} {ov uv : List V} (hij : a ≠ b) (h1 : am i = some a) (g1 : am j = some b) (h2 : H a = some (.lst ov)) (g2 : H b = some (.lst uv)) (h3 : DqAll K (hid ph am H) ov os) (g3 : DqAll K (hid ph am H) uv us) (h4 : ov.length ≤ sizeLine) (g4 : uv.length ≤ sizeLine) :
    SR K (ph.lend2 am a b) (ph.lend2 am a b).ba ([V.ref a, V.ref b].map some) H [.ow true os, .ow true us] := by
  refine ⟨rfl, fun l d q => ?_, fun l bb es q => ?_, fun l c q => ?_, fun l m c q1 q2 => ?_, fun c hc => s.hiddenM hc.1, fun l c q => q, fun l o q => ?_⟩
  · match l, q with
    | 0, q => simp at q
    | 1, q => simp at q
    | l + 2, q => simp at q
  · match l, q with
    | 0, q =>
      simp at q
      obtain ⟨rfl, rfl⟩ := q
      exact ⟨a, ov, lend2_ba.mpr (.inl ⟨rfl, rfl⟩), rfl, h2, by rw [hid_lend2 h1 g1]; exact h3, h4, fun z => by cases z⟩
    | 1, q =>
      simp at q
      obtain ⟨rfl, rfl⟩ := q
      exact ⟨b, uv, lend2_ba.mpr (.inr ⟨rfl, rfl⟩), rfl, g2, by rw [hid_lend2 h1 g1]; exact g3, g4, fun z => by cases z⟩
    | l + 2, q => simp at q
  · rcases lend2_ba.mp q with ⟨rfl, rfl⟩ | ⟨rfl, rfl⟩
    · exact ⟨fun z => z.2.1 rfl, .ow true os, rfl, trivial⟩
    · exact ⟨fun z => z.2.2 rfl, .ow true us, rfl, trivial⟩
  · rcases lend2_ba.mp q1 with ⟨rfl, rfl⟩ | ⟨rfl, rfl⟩ <;> rcases lend2_ba.mp q2 with ⟨rfl, e⟩ | ⟨rfl, e⟩
    · rfl
    · exact (hij e).elim
    · exact (hij e.symm).elim
    · rfl
  · match l, q with
    | 0, q => simp at q
    | 1, q => simp at q
    | l + 2, q => simp at q
def xDef2 (G : Sg → Option (Ans PyData × Sg)) (i j : Nat) : M PyData := fun δ => match δ[i]?, δ[j]? with
  | some (.ow b os), some (.ow c us) => if i ≠ j then match G [.ow true os, .ow true us] with
      | some (.ok d, [.ow _ os', .ow _ us']) => some (.ok d, (δ.set i (.ow b os')).set j (.ow c us'))
      | _ => none
    else none
  | _, _ => none
theorem def2_read {G : Sg → Option (Ans PyData × Sg)} : ReadE X W (tCallS (spD X.K X.mg 2 G) (WE W) (tCons (tVar i) (tCons (tVar j) tNil))) (xDef2 G i j) := by
  intro ph am σ H δ Q ans δ' s z k kx
  unfold xDef2 at z
  split at z
  · rename_i b0 os c0 us e1 e2
    split at z
    · rename_i hij
      obtain ⟨a, ov, o1, o2, o3, o4, o5, o6⟩ := s.ow i b0 os e1
      obtain ⟨b, uv, r1, r2, r3, r4, r5, r6⟩ := s.ow j c0 us e2
      have hab : a ≠ b := fun q => hij (s.inj i j a o1 (by rw [q]; exact r1))
      refine ⟨.ref a, o2, .ref b, r2, ?_⟩
      split at z
      · rename_i d b1 os' c1 us' e3
        cases z
        refine ⟨rfl, ph.lend2 am a b, _, _, _, s.lend2 hab o1 r1 o3 r3 o4 r4 o5 r5, e3, fun d ed v H' st' s' dv' => ?_, fun c fs z => by cases z⟩
        cases ed
        have st2 : Step am H am H' := ⟨fun c o h m => st'.keep c o h fun l z => by
          rcases lend2_ba.mp z with ⟨_, rfl⟩ | ⟨_, rfl⟩
          · exact m i o1
          · exact m j r1, fun l c h => .inl ⟨l, h⟩, st'.there⟩
        rw [hid_lend2 o1 r1] at dv'
        obtain ⟨a2, ov2, t1, t2, t3, t4, t5, _⟩ := s'.ow 0 b1 os' rfl
        obtain ⟨b2, uv2, y1, y2, y3, y4, y5, _⟩ := s'.ow 1 c1 us' rfl
        rcases lend2_ba.mp t1 with ⟨_, rfl⟩ | ⟨q, _⟩
        · rcases lend2_ba.mp y1 with ⟨q, _⟩ | ⟨_, rfl⟩
          · cases q
          · rw [hid_lend2 o1 r1] at t4 y4
            have hi : i < δ.length := (List.getElem?_eq_some_iff.mp e1).1
            have hj : j < δ.length := (List.getElem?_eq_some_iff.mp e2).1
            have gi : ((δ.set i (.ow b0 os')).set j (.ow c0 us'))[i]? = some (.ow b0 os') := by
              rw [List.getElem?_set_ne (Ne.symm hij), List.getElem?_set_self hi]
            have gj : ((δ.set i (.ow b0 os')).set j (.ow c0 us'))[j]? = some (.ow c0 us') := by
              rw [List.getElem?_set_self (by rw [List.length_set]; exact hj)]
            have go : ∀ {l : Nat}, l ≠ i → l ≠ j → ((δ.set i (.ow b0 os')).set j (.ow c0 us'))[l]? = δ[l]? := fun {l} h1 h2 => by
              rw [List.getElem?_set_ne (Ne.symm h2), List.getElem?_set_ne (Ne.symm h1)]
            refine k _ rfl am v H' st2 ⟨by rw [List.length_set, List.length_set, s.len], fun l d q => ?_, fun l bb es q => ?_, fun l c q => ?_, s.inj, fun c hc => ?_, s.bas, fun l o q => ?_⟩ dv'
            · by_cases h1 : l = i
              · rw [h1, gi] at q; cases q
              · by_cases h2 : l = j
                · rw [h2, gj] at q; cases q
                · rw [go h1 h2] at q
                  obtain ⟨v, g1, g2⟩ := s.fz l d q
                  exact ⟨v, g1, dp_mono st2.hid g2⟩
            · by_cases h1 : l = i
              · rw [h1, gi] at q
                cases q
                rw [h1]
                exact ⟨a2, ov2, o1, o2, t3, t4, t5, o6⟩
              · by_cases h2 : l = j
                · rw [h2, gj] at q
                  cases q
                  rw [h2]
                  exact ⟨b2, uv2, r1, r2, y3, y4, y5, r6⟩
                · rw [go h1 h2] at q
                  obtain ⟨a3, vs3, g1, g2, g3, g4, g5⟩ := s.ow l bb es q
                  refine ⟨a3, vs3, g1, g2, st'.keep _ _ g3 fun m z => ?_, dps_mono st2.hid g4, g5⟩
                  rcases lend2_ba.mp z with ⟨_, rfl⟩ | ⟨_, rfl⟩
                  · exact h1 (s.inj l i _ g1 o1)
                  · exact h2 (s.inj l j _ g1 r1)
            · obtain ⟨g1, cc, g2, g3⟩ := s.amf l c q
              by_cases h1 : l = i
              · exact ⟨g1, .ow b0 os', by rw [h1]; exact gi, trivial⟩
              · by_cases h2 : l = j
                · exact ⟨g1, .ow c0 us', by rw [h2]; exact gj, trivial⟩
                · exact ⟨g1, cc, by rw [go h1 h2]; exact g2, g3⟩
            · obtain ⟨o, h, m⟩ := s.phs c hc
              refine ⟨o, st'.keep c o h fun l z => ?_, m⟩
              rcases lend2_ba.mp z with ⟨_, rfl⟩ | ⟨_, rfl⟩
              · exact (s.amf i _ o1).1 hc
              · exact (s.amf j _ r1).1 hc
            · by_cases h1 : l = i
              · rw [h1, gi] at q; cases q
              · by_cases h2 : l = j
                · rw [h2, gj] at q; cases q
                · rw [go h1 h2] at q
                  obtain ⟨a3, u3, g1, g2, g3, g4, g5⟩ := s.od l o q
                  refine ⟨a3, u3, g1, g2, st'.keep _ _ g3 fun m z => ?_, dor_mono st2.hid g4, g5⟩
                  rcases lend2_ba.mp z with ⟨_, rfl⟩ | ⟨_, rfl⟩
                  · exact h1 (s.inj l i _ g1 o1)
                  · exact h2 (s.inj l j _ g1 r1)
        · cases q
      · cases z
    · cases z
  · cases z
theorem de_call2 {y z : Str} {pn pz : Pos} {G : Sg → Option (Ans PyData × Sg)} (F : FnOk X.prog X.w X.K X.mg X.base (L2.CX X.prog X.w) k fa fd ps (spD X.K X.mg 2 G)) (hr : Room k X.A) (hm : X.mg x = some (.ref fa)) (hk : PySem.W.keepIn X.K (.ref fa) = true) (hb : Binds X.K fd ps []) (hx : ∀ σ, PassesAt (L2.CX X.prog X.w) X σ (WE W σ))
    (hN : X.N[i]? = some y := by rfl) (hv : Vis X.env.scope y := by first | exact Or.inl rfl | exact Or.inr (Or.inl rfl) | exact Or.inr (Or.inr rfl)) (hd : (y == ("__debug__" : Str)) = false := by decide) (hcd : (y == ("__classdict__" : Str)) = false := by decide)
    (hN2 : X.N[j]? = some z := by rfl) (hv2 : Vis X.env.scope z := by first | exact Or.inl rfl | exact Or.inr (Or.inl rfl) | exact Or.inr (Or.inr rfl)) (hd2 : (z == ("__debug__" : Str)) = false := by decide) (hcd2 : (z == ("__classdict__" : Str)) = false := by decide)
    (hg : Gl X x := by rfl) (hdb : (x == ("__debug__" : Str)) = false := by decide) (he2 : starEach [.Name z pz] X.env = (false, eval (.Name z pz) X.env) :: starEach [] X.env := by rfl) (he : starEach [.Name y pn, .Name z pz] X.env = (false, eval (.Name y pn) X.env) :: starEach [.Name z pz] X.env := by rfl) (hpl : (backTo pos (starEach [.Name z pz] X.env)).any (·.1) = false := by rfl) :
    DE X W (.Call (.Name x pf) [.Name y pn, .Name z pz] [] pos) (xDef2 G i j) :=
  ⟨⟨_, pe_callS F hr hg hm hk hb hx (pa_cons (pe_var hN hv hd hcd) (pa_cons (pe_var hN2 hv2 hd2 hcd2) pa_nil he2) he) hdb he hpl, def2_read⟩⟩
/-! ### a, b = e1, e2; a, b, c = e1, e2, e3 -/
def sPar2 (fs : M (List PyData)) (i j : Nat) : MS := bnd fs fun ds => fun δ => match ds with
  | [x, y] => match sName i x δ with
    | some δ1 => match sName j y δ1 with
      | some δ2 => some (.ok .nx, δ2)
      | none => none
    | none => none
  | _ => none
def sPar3 (fs : M (List PyData)) (i j l : Nat) : MS := bnd fs fun ds => fun δ => match ds with
  | [x, y, z] => match sName i x δ with
    | some δ1 => match sName j y δ1 with
      | some δ2 => match sName l z δ2 with
        | some δ3 => some (.ok .nx, δ3)
        | none => none
      | none => none
    | none => none
  | _ => none
theorem ds_par2 {x y : Str} {px py pt : Pos} {kt k2 pt2} (hc : X.calm = true) (hN : X.N.Nodup) (ha : DA X W [e1, e2] fs) (hi : X.N[i]? = some x := by rfl) (hj : X.N[j]? = some y := by rfl) (hij : i ≠ j := by decide)
    (hx : X.env.scope.names.lookup x = some .local := by rfl) (hy : X.env.scope.names.lookup y = some .local := by rfl)
    (hw : swappedStores [.Tuple [.Name x px, .Name y py] kt pt] (.Tuple [e1, e2] k2 pt2) X.env = pure (some [x, y]) := by rfl)
    (hs : swapsWithSole [.Tuple [.Name x px, .Name y py] kt pt] (.Tuple [e1, e2] k2 pt2) pos.line X.env = pure false := by rfl) : DS X W (.Assign [.Tuple [.Name x px, .Name y py] kt pt] (.Tuple [e1, e2] k2 pt2) pos) (sPar2 fs i j) := by
  obtain ⟨t, p, q⟩ := ha.ex
  refine ⟨⟨_, ps_par hc hN hi hj hij hx hy p hw hs, fun ph am σ H δ D ans δ' s z k kx => ?_⟩⟩
  rcases bnd_some z with ⟨ds, δ1, e1, e2⟩ | ⟨c, fs, e1, e2⟩
  · refine q ph am σ H δ _ _ _ s e1 (fun d' ed am1 vs H1 st1 s1 dv => ?_) (fun c fs z => by cases z)
    cases ed
    cases dv with
    | nil => cases e2
    | cons d1 t1 =>
      cases t1 with
      | nil => cases e2
      | cons d2 t2 =>
        cases t2 with
        | cons _ _ => cases e2
        | nil =>
          simp only at e2
          split at e2
          · rename_i δ2 n1
            split at e2
            · rename_i δ3 n2
              cases e2
              obtain ⟨c1, f1, f2, rfl⟩ := sName_some n1
              obtain ⟨c2, f3, f4, rfl⟩ := sName_some n2
              refine ⟨_, _, rfl, k _ rfl _ _ H1 ((st1.trans step_drop).trans step_drop) ((s1.put f1 f2 d1).put f3 f4 (dp_mono (Step.hid step_drop) d2))⟩
            · cases e2
          · cases e2
  · subst e2
    exact q ph am σ H δ _ _ _ s e1 (fun d ed => by cases ed) (fun c' fs' z => by cases z; exact (kx _ _ rfl).at)
theorem ds_par3 {l : Nat} {x y z : Str} {px py pz pt : Pos} {kt k2 pt2} (hc : X.calm = true) (hN : X.N.Nodup) (ha : DA X W [e1, e2, e3] fs) (hi : X.N[i]? = some x := by rfl) (hj : X.N[j]? = some y := by rfl) (hl : X.N[l]? = some z := by rfl) (hij : i ≠ j := by decide) (hil : i ≠ l := by decide) (hjl : j ≠ l := by decide)
    (hx : X.env.scope.names.lookup x = some .local := by rfl) (hy : X.env.scope.names.lookup y = some .local := by rfl) (hz : X.env.scope.names.lookup z = some .local := by rfl)
    (hw : swappedStores [.Tuple [.Name x px, .Name y py, .Name z pz] kt pt] (.Tuple [e1, e2, e3] k2 pt2) X.env = pure (some [x, y, z]) := by rfl)
    (hs : swapsWithSole [.Tuple [.Name x px, .Name y py, .Name z pz] kt pt] (.Tuple [e1, e2, e3] k2 pt2) pos.line X.env = pure false := by rfl) : DS X W (.Assign [.Tuple [.Name x px, .Name y py, .Name z pz] kt pt] (.Tuple [e1, e2, e3] k2 pt2) pos) (sPar3 fs i j l) := by
  obtain ⟨t, p, q⟩ := ha.ex
  refine ⟨⟨_, ps_par3 hc hN hi hj hl hij hil hjl hx hy hz p hw hs, fun ph am σ H δ D ans δ' s z k kx => ?_⟩⟩
  rcases bnd_some z with ⟨ds, δ1, e1, e2⟩ | ⟨c, fs, e1, e2⟩
  · refine q ph am σ H δ _ _ _ s e1 (fun d' ed am1 vs H1 st1 s1 dv => ?_) (fun c fs z => by cases z)
    cases ed
    cases dv with
    | nil => cases e2
    | cons d1 t1 =>
      cases t1 with
      | nil => cases e2
      | cons d2 t2 =>
        cases t2 with
        | nil => cases e2
        | cons d3 t3 =>
          cases t3 with
          | cons _ _ => cases e2
          | nil =>
            simp only at e2
            split at e2
            · rename_i δ2 n1
              split at e2
              · rename_i δ3 n2
                split at e2
                · rename_i δ4 n3
                  cases e2
                  obtain ⟨c1, f1, f2, rfl⟩ := sName_some n1
                  obtain ⟨c2, f3, f4, rfl⟩ := sName_some n2
                  obtain ⟨c3, f5, f6, rfl⟩ := sName_some n3
                  refine ⟨_, _, _, rfl, k _ rfl _ _ H1 (((st1.trans step_drop).trans step_drop).trans step_drop) (((s1.put f1 f2 d1).put f3 f4 (dp_mono (Step.hid step_drop) d2)).put f5 f6 (dp_mono (Step.hid step_drop) (dp_mono (Step.hid step_drop) d3)))⟩
                · cases e2
              · cases e2
            · cases e2
  · subst e2
    exact q ph am σ H δ _ _ _ s e1 (fun d ed => by cases ed) (fun c' fs' z => by cases z; exact (kx _ _ rfl).at)
/-! ### what a body may rely on -/
theorem hu64 {A : Around} {k : Nat} (hr : Room k A) : A.units + 64 < cLine := hr.units
theorem pass_cx {P : Program} {w : World} {mg : Str → Option Value} {base : Heap} {N : List Str} {qual : Str} {st : Stmt} {cdv : Value} {A : Around} {outer : List PySem.Env} {s : Shared} {E : XK} :
    ∀ σ, PassesAt (L2.CX P w) (CxD P w K mg base N qual st fa cdv A outer s H E) σ (WE (fun cls d _ H => E cls d H) σ) := fun σ => passAt (takes_of rfl rfl rfl rfl) σ
theorem pass0 : ∀ σ, PassesAt (L2.CX X.prog X.w) X σ (WE E00 σ) := fun σ => passAt takes0 σ
theorem own_cx {P : Program} {w : World} {mg : Str → Option Value} {base : Heap} {N : List Str} {qual : Str} {st : Stmt} {cdv : Value} {A : Around} {outer : List PySem.Env} {s : Shared} {E : XK} :
    PassesOwn (model P w) (CxD P w K mg base N qual st fa cdv A outer s H E).A (CxD P w K mg base N qual st fa cdv A outer s H E).env (CxD P w K mg base N qual st fa cdv A outer s H E).xe := passes_of rfl
theorem fn_none {P : Program} {w : World} {mg : Str → Option Value} {base : Heap} : FnOk P w K mg base (L2.CX P w) 0 fa fd ps (spD K mg ps.length fun _ => none) :=
  ⟨fun vs H Q E h => h.1, fun A outer s H args us vs Q E _ _ _ _ h => by
    obtain ⟨_, _, _, _, _, _, q, _⟩ := h
    cases q⟩
end PD
end

section
set_option Elab.async false
set_option linter.all false
set_option maxRecDepth 100000
set_option maxHeartbeats 1000000
namespace PD
open PySem PySem.Spec PyProof.Rows L2
variable {X : Cx} {W : WX} {pos : Pos} {e e1 e2 e3 : Expr} {es : List Expr} {f g h : M PyData} {fs : M (List PyData)} {fb gb : M Bool}
variable {K : PySem.W.Frag} {ph : Fx} {am am' am1 : Am} {H H' H1 : Hp} {σ σ' : L2.St} {δ δ' δ1 : Sg} {a b p p1 p2 D : Addr} {v : V} {vs : List V} {d : PyData} {ds : List PyData} {i j : Nat}
variable {pf : Pos}
theorem bt_int : bootBuiltins "int" = some (.type "int") := by decide +kernel
theorem bt_bool : bootBuiltins "bool" = some (.type "bool") := by decide +kernel
theorem bt_str : bootBuiltins "str" = some (.type "str") := by decide +kernel
theorem bt_list : bootBuiltins "list" = some (.type "list") := by decide +kernel
theorem bt_tuple : bootBuiltins "tuple" = some (.type "tuple") := by decide +kernel
theorem bb_abs : bootBuiltins "abs" = some (.builtin "abs") := by decide +kernel
theorem bb_all : bootBuiltins "all" = some (.builtin "all") := by decide +kernel
theorem bb_any : bootBuiltins "any" = some (.builtin "any") := by decide +kernel
theorem bb_sum : bootBuiltins "sum" = some (.builtin "sum") := by decide +kernel
section
variable (hd : DA X W [e] fs)
include hd
theorem de_len (hm : X.mg "len" = none) (hg : Gl X "len" := by rfl) (he : starEach [e] X.env = (false, eval e X.env) :: starEach [] X.env := by rfl) (hpl : (backTo pos (starEach [] X.env)).any (·.1) = false := by rfl) : DE X W (.Call (.Name "len" pf) [e] [] pos) (xCall lenD fs) :=
  de_callB calld_len call_len_seq hm PySem.boot_len hd hg (by decide) (by decide) he hpl
theorem de_intc (hm : X.mg "int" = none) (hg : Gl X "int" := by rfl) (he : starEach [e] X.env = (false, eval e X.env) :: starEach [] X.env := by rfl) (hpl : (backTo pos (starEach [] X.env)).any (·.1) = false := by rfl) : DE X W (.Call (.Name "int" pf) [e] [] pos) (xCall intD fs) :=
  de_callTy calld_int call_int1 hm bt_int hd hg (by decide) (by decide) he hpl
theorem de_abs (hm : X.mg "abs" = none) (hg : Gl X "abs" := by rfl) (he : starEach [e] X.env = (false, eval e X.env) :: starEach [] X.env := by rfl) (hpl : (backTo pos (starEach [] X.env)).any (·.1) = false := by rfl) : DE X W (.Call (.Name "abs" pf) [e] [] pos) (xCall absD fs) :=
  de_callB calld_abs call_abs hm bb_abs hd hg (by decide) (by decide) he hpl
theorem de_all (hm : X.mg "all" = none) (hc : X.calm = true := by rfl) (hg : Gl X "all" := by rfl) (he : starEach [e] X.env = (false, eval e X.env) :: starEach [] X.env := by rfl) (hpl : (backTo pos (starEach [] X.env)).any (·.1) = false := by rfl) : DE X W (.Call (.Name "all" pf) [e] [] pos) (xCall allD fs) :=
  de_callB calld_all (cr_all hc) hm bb_all hd hg (by decide) (by decide) he hpl
theorem de_any (hm : X.mg "any" = none) (hc : X.calm = true := by rfl) (hg : Gl X "any" := by rfl) (he : starEach [e] X.env = (false, eval e X.env) :: starEach [] X.env := by rfl) (hpl : (backTo pos (starEach [] X.env)).any (·.1) = false := by rfl) : DE X W (.Call (.Name "any" pf) [e] [] pos) (xCall anyD fs) :=
  de_callB calld_any (cr_any hc) hm bb_any hd hg (by decide) (by decide) he hpl
theorem de_sum (hm : X.mg "sum" = none) (hc : X.calm = true := by rfl) (hg : Gl X "sum" := by rfl) (he : starEach [e] X.env = (false, eval e X.env) :: starEach [] X.env := by rfl) (hpl : (backTo pos (starEach [] X.env)).any (·.1) = false := by rfl) : DE X W (.Call (.Name "sum" pf) [e] [] pos) (xCall sumD fs) :=
  de_callB calld_sum (cr_sum hc) hm bb_sum hd hg (by decide) (by decide) he hpl
theorem de_tuplec (hm : X.mg "tuple" = none) (hg : Gl X "tuple" := by rfl) (he : starEach [e] X.env = (false, eval e X.env) :: starEach [] X.env := by rfl) (hpl : (backTo pos (starEach [] X.env)).any (·.1) = false := by rfl) : DE X W (.Call (.Name "tuple" pf) [e] [] pos) (xCall tupleD fs) :=
  de_callTy calld_tuple call_tuple_of hm bt_tuple hd hg (by decide) (by decide) he hpl
theorem df_list (hm : X.mg "list" = none) (hg : Gl X "list" := by rfl) (he : starEach [e] X.env = (false, eval e X.env) :: starEach [] X.env := by rfl) (hpl : (backTo pos (starEach [] X.env)).any (·.1) = false := by rfl) : DF X W (.Call (.Name "list" pf) [e] [] pos) (xCallF listD fs) :=
  df_callTy callf_list call_list_of hm bt_list hd hg (by decide) (by decide) he hpl
end
/-! a slice of a list or a tuple -/
def sliceD (d : PyData) (l u : Option Int) : Option PyData := match d with
  | .list xs => some (.list (cutD xs l u))
  | .tuple xs => some (.tuple (cutD xs l u))
  | _ => none
def xSl (f : M PyData) (lo hi : M (Option Int)) : M PyData := bnd f fun d => bnd lo fun l => bnd hi fun u => lif (sliceD d l u)
theorem cut_whole {xs : List PyData} {l u : Option Int} (h : HT.sIx xs.length 0 l = 0 ∧ HT.sIx xs.length xs.length u = xs.length) : cutD xs l u = xs := by
  unfold cutD
  rw [h.1, h.2]
  simp
theorem de_slice {lo hi : Option Expr} {fl fh : M (Option Int)} {p2 : Pos} (he : DE X W e f) (hl : DO X W lo fl) (hh : DO X W hi fh) : DE X W (.Subscript e (.Slice lo hi none p2) pos) (xSl f fl fh) := by
  obtain ⟨te, pe, qe⟩ := he.ex
  obtain ⟨tl, pl, ql⟩ := hl.ex
  obtain ⟨th, pp, qh⟩ := hh.ex
  refine ⟨⟨_, pe_slice (SlR.or sl_list sl_tupA) pe pl pp, fun ph am σ H δ Q ans δ' s q k kx => ?_⟩⟩
  rcases bnd_some q with ⟨a, δ1, e1, q1⟩ | ⟨c, fs, e1, q1⟩
  · refine qe ph am σ H δ _ _ _ s e1 (fun d ed am1 x H1 st1 s1 d1 => ?_) (fun c fs z => by cases z)
    cases ed
    rcases bnd_some q1 with ⟨l, δ2, e2, q2⟩ | ⟨c, fs, e2, q2⟩
    · refine ql ph am1 σ H1 δ1 _ _ _ s1 e2 (fun d ed am2 H2 st2 s2 => ?_) (fun c fs z => by cases z)
      cases ed
      rcases bnd_some q2 with ⟨u, δ3, e3, q3⟩ | ⟨c, fs, e3, q3⟩
      · refine qh ph am2 σ H2 δ2 _ _ _ s2 e3 (fun d ed am3 H3 st3 s3 => ?_) (fun c fs z => by cases z)
        cases ed
        obtain ⟨z, e4, rfl, rfl⟩ := lif_some q3
        have d3 := dp_mono st3.hid (dp_mono st2.hid d1)
        have stA := (st1.trans st2).trans st3
        cases d3 with
        | lst h1 a1 =>
          cases e4
          exact .inl ⟨_, _, rfl, rd_hid h1, fun p np => k _ rfl am3 _ _ (stA.trans (Step.of (same_new np))) (s3.same (same_new np)) (new_lst (fun b h => s3.hidden h) np (dqs_cut a1))⟩
        | tup h1 a1 =>
          cases e4
          refine .inr ⟨_, _, rfl, seqT_hid h1, fun hw => ?_, fun _ p np => k _ rfl am3 _ _ (stA.trans (Step.of (same_new np))) (s3.same (same_new np)) (new_tup (fun b h => s3.hidden h) np (dqs_cut a1))⟩
          rw [a1.length] at hw
          rw [cut_whole hw] at k
          exact k _ rfl am3 _ H3 stA s3 (.tup h1 a1)
        | _ => cases e4
      · subst q3
        exact qh ph am2 σ H2 δ2 _ _ _ s2 e3 (fun d ed => by cases ed) (fun c' fs' z => by cases z; exact (kx _ _ rfl).step (st1.trans st2))
    · subst q2
      exact ql ph am1 σ H1 δ1 _ _ _ s1 e2 (fun d ed => by cases ed) (fun c' fs' z => by cases z; exact (kx _ _ rfl).step st1)
  · subst q1
    exact qe ph am σ H δ _ _ _ s e1 (fun d ed => by cases ed) (fun c' fs' z => by cases z; exact kx _ _ rfl)
end PD
namespace PD
open PySem PySem.Spec PyProof.Rows L2
variable {X : Cx} {W : WX} {pos : Pos} {k : Nat} {fa : Addr} {fd : FuncData} {ps : List Str} {x : Str} {pf : Pos}
theorem ra_nil : ReadA X W tNil (ret []) := fun ph am σ H δ Q ans δ' s q k _ => by cases q; exact k _ rfl am [] H Step.refl s .nil
theorem pe_callS0 {CX : CXT} {sp : Sp} {E : L2.St → XK} (F : FnOk X.prog X.w X.K X.mg X.base CX k fa fd ps sp) (hr : Room k X.A) (hg : Gl X x) (hm : X.mg x = some (.ref fa)) (hk : PySem.W.keepIn X.K (.ref fa) = true) (hb : Binds X.K fd ps []) (hx : ∀ σ, PassesAt CX X σ (E σ)) (hdb : (x == ("__debug__" : Str)) = false := by decide) :
    PE X (.Call (.Name x pf) [] [] pos) (tCallS sp E tNil) := by
  refine ⟨fun pins s σ H Q I h => ?_⟩
  refine wpAny_Call_Name_kw (ld_glob I hg hm ?_ hdb)
  exact PySem.W.callWith_K0 I.kIn hk (run_fnS (us := []) F hr hb (hx σ) I .nil h)
theorem de_call0 {G : Sg → Option (Ans PyData × Sg)} (F : FnOk X.prog X.w X.K X.mg X.base (L2.CX X.prog X.w) k fa fd ps (spD X.K X.mg 0 G)) (hr : Room k X.A) (hm : X.mg x = some (.ref fa)) (hk : PySem.W.keepIn X.K (.ref fa) = true) (hb : Binds X.K fd ps []) (hx : ∀ σ, PassesAt (L2.CX X.prog X.w) X σ (WE W σ))
    (hg : Gl X x := by rfl) (hdb : (x == ("__debug__" : Str)) = false := by decide) : DE X W (.Call (.Name x pf) [] [] pos) (xDef G (ret [])) :=
  ⟨⟨_, pe_callS0 F hr hg hm hk hb hx hdb, def_read ra_nil alen0⟩⟩
end PD
namespace PD
open PySem PySem.Spec PyProof.Rows L2
variable {X : Cx} {W : WX} {e : Expr} {st : Stmt} {sts : List Stmt}
theorem de_never : DE X W e (fun _ => none) := ⟨⟨fun _ _ _ => False, ⟨fun _ _ _ _ _ _ h => h.elim⟩, fun ph am σ H δ Q ans δ' s q _ _ => by cases q⟩⟩
theorem ds_never : DS X W st (fun _ => none) := ⟨⟨tNever, ps_never, fun ph am σ H δ D ans δ' s q _ _ => by cases q⟩⟩
theorem dss_never : DSs X W sts (fun _ => none) := ⟨⟨tNever, pss_never, fun ph am σ H δ D ans δ' s q _ _ => by cases q⟩⟩
end PD
end

section
set_option Elab.async false
set_option linter.all false
set_option maxRecDepth 100000
set_option maxHeartbeats 1000000
namespace PD
open PySem PySem.Spec PyProof.Rows L2
variable {X : Cx} {W : WX} {pos : Pos} {e e1 : Expr} {es : List Expr}
variable {K : PySem.W.Frag} {ph : Fx} {am am' : Am} {H H' : Hp} {σ σ' : L2.St} {δ δ' : Sg} {a p : Addr} {v : V} {vs : List V} {d : PyData} {ds : List PyData} {i j : Nat}
/-- a free slot is emptied -/
theorem SR.unset (s : SR K ph am σ H δ) {c : Cell} (e : δ[i]? = some c) (hc : c.free = true) : SR K ph (amDrop am i) (σ.set i none) H (δ.set i .un) := by
  have st : Step am H (amDrop am i) H := step_drop
  have hi : i < δ.length := (List.getElem?_eq_some_iff.mp e).1
  refine ⟨by rw [List.length_set, List.length_set, s.len], fun j d' q => ?_, fun j b' ds' q => ?_, fun j a' q => ?_, fun j k a' q1 q2 => ?_, s.phs, fun j a' q => ?_, fun j o q => ?_⟩
  · by_cases hj : j = i
    · subst hj
      rw [List.getElem?_set_self hi] at q
      cases q
    · rw [List.getElem?_set_ne (Ne.symm hj)] at q
      obtain ⟨v', h1, h2⟩ := s.fz j d' q
      exact ⟨v', by rw [List.getElem?_set_ne (Ne.symm hj)]; exact h1, dp_mono st.hid h2⟩
  · by_cases hj : j = i
    · subst hj
      rw [List.getElem?_set_self hi] at q
      cases q
    · rw [List.getElem?_set_ne (Ne.symm hj)] at q
      obtain ⟨a2, vs2, h1, h2, h3, h4, h5, h6⟩ := s.ow j b' ds' q
      exact ⟨a2, vs2, amDrop_some.mpr ⟨hj, h1⟩, by rw [List.getElem?_set_ne (Ne.symm hj)]; exact h2, h3, dps_mono st.hid h4, h5, h6⟩
  · obtain ⟨n, q⟩ := amDrop_some.mp q
    obtain ⟨h1, c', h2, h3⟩ := s.amf j a' q
    exact ⟨h1, c', by rw [List.getElem?_set_ne (Ne.symm n)]; exact h2, h3⟩
  · exact s.inj j k a' (amDrop_some.mp q1).2 (amDrop_some.mp q2).2
  · refine amDrop_some.mpr ⟨fun z => ?_, s.bas j a' q⟩
    subst z
    rw [s.nba e hc] at q
    cases q
  · by_cases hj : j = i
    · subst hj
      rw [List.getElem?_set_self hi] at q
      cases q
    · rw [List.getElem?_set_ne (Ne.symm hj)] at q
      obtain ⟨a2, u, h1, h2, h3, h4, h5⟩ := s.od j o q
      exact ⟨a2, u, amDrop_some.mpr ⟨hj, h1⟩, by rw [List.getElem?_set_ne (Ne.symm hj)]; exact h2, h3, dor_mono st.hid h4, h5⟩
/-- what an exception holds -/
def PL (K : PySem.W.Frag) (ph : Fx) (am : Am) (H : Hp) (dx : Option Addr) (fs : List (Str × PyData)) : Prop :=
  (fs = [] ∧ dx = none) ∨ ∃ a vs, dx = some a ∧ fs ≠ [] ∧ H a = some (.xd vs) ∧ vs.map (·.1) = fs.map (·.1) ∧ DqAll K (hid ph am H) (vs.map (·.2)) (fs.map (·.2))
/-- what a suite puts together: constants, what the exception in slot i is and holds -/
structure DXs (X : Cx) (i : Nat) (c : Str) (es : List Expr) (g : List (Str × PyData) → Option (List PyData)) : Prop where
  ex : ∀ (a : Addr) (oe : Obj) (C : Addr) (dx : Option Addr) (pn : List (Addr × Obj)), Zc (.ref C) dx oe → (∃ vs, oe.data = .fields vs) → X.mg c = some (.ref C) →
    ∃ t, PA (X.suite a ((a, oe) :: pn)) es t ∧ ∀ (ph : Fx) (am : Am) (σ : L2.St) (H : Hp) (Q : List V → Hp → Prop) (fs : List (Str × PyData)) (ds : List PyData), σ[i]? = some (some (.ref a)) → PL X.K ph am H dx fs → g fs = some ds →
      (∀ vs, DqAll X.K (hid ph am H) vs ds → Q vs H) → t σ H Q
variable {c : Str} {gi : List (Str × PyData) → Option (List PyData)}
def gCon (d : PyData) (g : List (Str × PyData) → Option (List PyData)) : List (Str × PyData) → Option (List PyData) := fun fs => (g fs).map (d :: ·)
def gIs (b : Bool) (g : List (Str × PyData) → Option (List PyData)) : List (Str × PyData) → Option (List PyData) := fun fs => match fs with
  | [] => (g fs).map (.bool b :: ·)
  | _ => none
theorem dx_nil : DXs X i c [] (fun _ => some []) := ⟨fun a oe C dx pn hz hf hm => ⟨tNil, pa_nil, fun ph am σ H Q fs ds hs hp hg k => by cases hg; exact k [] .nil⟩⟩
theorem dx_con {v : V} (hc : ∀ X' : Cx, PE X' e (tC v)) (hv : ∀ H, Dq X.K H v d) (h : DXs X i c es gi) (hs : starEach (e :: es) X.env = (false, eval e X.env) :: starEach es X.env := by rfl) : DXs X i c (e :: es) (gCon d gi) :=
  ⟨fun a oe C dx pn hz hf hm => by
    obtain ⟨t, p, q⟩ := h.ex a oe C dx pn hz hf hm
    refine ⟨_, pa_cons (hc _) p hs, fun ph am σ H Q fs ds hσ hp hg k => ?_⟩
    unfold gCon at hg
    cases e2 : gi fs with
    | none => rw [e2] at hg; cases hg
    | some ds2 =>
      rw [e2] at hg
      cases hg
      exact q ph am σ H _ fs ds2 hσ hp e2 fun vs dv => k (v :: vs) (.cons (hv _) dv)⟩
theorem dx_str {x : Str} {k} (h : DXs X i c es gi) (hs : starEach (.Constant (.str x) k pos :: es) X.env = (false, eval (.Constant (.str x) k pos) X.env) :: starEach es X.env := by rfl) : DXs X i c (.Constant (.str x) k pos :: es) (gCon (.str x) gi) :=
  dx_con (v := .str x) (fun _ => pe_str) (fun _ => .str x) h hs

variable {pf pn pT : Pos}
/-- isinstance(n, T), n the exception -/
theorem dx_isi {n T : Str} {b : Bool} (Tn : String) (hC : ∀ C, X.mg c = some (.ref C) → ExcC X.K C ∧ PySem.W.kitOne X.K (.ref C) (.type Tn) = some b) (hm : X.mg "isinstance" = none) (hmT : X.mg T = none) (hv : bootBuiltins T = some (.type Tn)) (h : DXs X i c es gi)
    (hN : X.N[i]? = some n := by rfl) (hvi : Vis X.env.scope n := by first | exact Or.inl rfl | exact Or.inr (Or.inl rfl) | exact Or.inr (Or.inr rfl)) (hdn : (n == ("__debug__" : Str)) = false := by decide) (hcd : (n == ("__classdict__" : Str)) = false := by decide)
    (hg : Gl X "isinstance" := by rfl) (hgT : Gl X T := by rfl) (hn : T ≠ "__name__" := by decide) (hd : (T == ("__debug__" : Str)) = false := by decide)
    (hs1 : starEach [.Name T pT] X.env = (false, eval (.Name T pT) X.env) :: starEach [] X.env := by rfl)
    (hs : starEach [.Name n pn, .Name T pT] X.env = (false, eval (.Name n pn) X.env) :: starEach [.Name T pT] X.env := by rfl) (hpl : (backTo pos (starEach [.Name T pT] X.env)).any (·.1) = false := by rfl)
    (hs0 : starEach (.Call (.Name "isinstance" pf) [.Name n pn, .Name T pT] [] pos :: es) X.env = (false, eval (.Call (.Name "isinstance" pf) [.Name n pn, .Name T pT] [] pos) X.env) :: starEach es X.env := by rfl) :
    DXs X i c (.Call (.Name "isinstance" pf) [.Name n pn, .Name T pT] [] pos :: es) (gIs b gi) :=
  ⟨fun a oe C dx q hz hf hm' => by
    obtain ⟨t, p, r⟩ := h.ex a oe C dx q hz hf hm'
    obtain ⟨hc, hk⟩ := hC C hm'
    cases dx with
    | some dd => 
      exact ⟨fun _ _ _ => False, ⟨fun _ _ _ _ _ _ _ (h : False) => h.elim⟩, fun ph am σ H Q fs ds hσ hp hg k => by
        unfold gIs at hg
        split at hg
        · rcases hp with ⟨_, z⟩ | ⟨a', vs, z, e0, _⟩
          · cases z
          · exact (e0 rfl).elim
        · cases hg⟩
    | none =>
      refine ⟨_, pa_cons (pe_callB (X := X.suite a ((a, oe) :: q)) (call_isE hc hz hf) hg hm boot_isinstance (pa_cons (pe_var hN hvi hdn hcd) (pa_cons (pe_bltn (v := .ty Tn) hgT hmT hv rfl hn hd) pa_nil hs1) hs) (by decide) (by decide) hs hpl) p hs0, fun ph am σ H Q fs ds hσ hp hg k => ?_⟩
      unfold gIs at hg
      split at hg
      · cases e2 : gi [] with
        | none => rw [e2] at hg; cases hg
        | some ds2 =>
          rw [e2] at hg
          cases hg
          exact ⟨_, hσ, .ty Tn, .type Tn, b, rfl, fun u hu => hu, hk, r ph am σ H _ [] ds2 hσ hp e2 fun vs dv => k (.bl b :: vs) (.cons (.bl b) dv)⟩
      · cases hg⟩
/-! ### try: .. except x as n: y = [..] -/
def tsOf (X : Cx) (W : WX) (g : MS) : TS := fun D σ H => ∃ ph am δ ans δ', SR X.K ph am σ H δ ∧ g δ = some (ans, δ') ∧ (∀ fl, ans = .ok fl → EndOk X.K ph am H δ' D fl) ∧ (∀ c fs, ans = .ex c fs → XPS X W ph am H δ' c fs)
theorem DSs.can {sts : List Stmt} {g : MS} (h : DSs X W sts g) : PSs X sts (tsOf X W g) := by
  obtain ⟨t, p, q⟩ := h.ex
  exact ⟨fun pins s σ H D I ⟨ph, am, δ, ans, δ', s1, e, k, kx⟩ => p.run pins s σ H D I (q ph am σ H δ D ans δ' s1 e k kx)⟩
def sTryX (c : Str) (i j : Nat) (gi : List (Str × PyData) → Option (List PyData)) (g : MS) : MS := fun δ => match g δ with
  | some (.ok fl, δ1) => some (.ok fl, δ1)
  | some (.ex c' fs, δ1) => if c' = c then (match gi fs, δ1[i]?, δ1[j]? with
    | some ds, some ci, some cj => if (ci.free && cj.free && (i != j) && decide (ds.length ≤ 1000)) = true then some (.ok .nx, (δ1.set j (.fz (.list ds))).set i .un) else none
    | _, _, _ => none) else none
  | none => none
def tCat (X : Cx) (i j : Nat) (c : Str) (gi : List (Str × PyData) → Option (List PyData)) : Addr → Value → Option Addr → TS := fun a cls dx D σ H => ∃ C ph am fs ds, cls = .ref C ∧ X.mg c = some (.ref C) ∧ σ[i]? = some (some (.ref a)) ∧ PL X.K ph am H dx fs ∧ gi fs = some ds ∧
  (∀ vs, DqAll X.K (hid ph am H) vs ds → vs.length ≤ sizeLine ∧ ∀ p, H p = none → D.nx (σ.set j (some (.ref p))) (upd H p (.lst vs)))
theorem ds_try_set {n x y : Str} {C : Addr} {py spos np pos' : Pos} {body : List Stmt} {g : MS} (hs : X.stack = X.env :: X.outer) (hfr : X.env.frame = some X.env.locals) (hN : X.N.Nodup) (tk : Takes X W) (hx : Names X x (.ref C)) (hxm : X.mg x = some (.ref C)) (hself : PySem.W.exmOne X.K (.ref C) (.ref C) = some true)
    (hb : ∀ (W' : WX) (pn : List (Addr × Obj)) (xe : Value → Shared → Prop), Takes (X.tr pn xe) W' → DSs (X.tr pn xe) W' body g) (hd : DXs X i x es gi)
    (hi : X.N[i]? = some n := by rfl) (hln : X.env.kindOf n = some .local := by rfl) (hj : X.N[j]? = some y := by rfl) (hy : Loc X.env.scope y := by first | exact Or.inl rfl | exact Or.inr rfl) (hsw : swapsWith (.List es pos) (some (.Name y py)) spos.line X.env = pure false := by rfl)
    (hf : X.fn y = true ∨ X.env.scope.names.lookup y = some .local := by first | exact .inl rfl | exact .inr rfl) :
    DS X W (.Try body [.ExceptHandler (some (.Name x np)) (some n) [.Assign [.Name y py] (.List es pos) spos] pos'] [] [] pf) (sTryX x i j gi g) := by
  refine ⟨⟨_, ps_try_as (tb := fun W' => tsOf X W' g) (ts := tCat X i j x gi) (Wout := fun _ _ _ _ => False) hs hfr hN hi hln hx takes0 (fun W' pn xe tk' _ => (hb W' pn xe tk').can) (fun a oe cls dx pn hz hv => ?_), fun ph am σ H δ D ans δ' s q k kx => ?_⟩⟩
  · refine ⟨fun pins s σ H D I h => ?_⟩
    obtain ⟨C', ph, am, fs, ds, rfl, hm, hσ, hp, hg, k⟩ := h
    obtain ⟨t, pt, qt⟩ := hd.ex a oe C' dx pn hz hv hm
    refine (pss_one (ps_set (X := X.suite a ((a, oe) :: pn)) hN hj hy (pe_lst pt) hsw hf)).run pins s σ H D I ?_
    exact qt ph am σ H _ fs ds hσ hp hg fun vs dv => k vs dv
  · unfold sTryX at q
    split at q
    · rename_i fl δ1 e1
      cases q
      exact ⟨ph, am, δ, _, _, s, e1, fun fl' z => by cases z; exact k _ rfl, fun c fs z => by cases z⟩
    · rename_i c' fs δ1 e1
      split at q
      · rename_i hc
        subst hc
        split at q
        · rename_i ds ci cj g1 g2 g3
          split at q
          · rename_i hc
            simp only [Bool.and_eq_true, bne_iff_ne, decide_eq_true_eq] at hc
            obtain ⟨⟨⟨f1, f2⟩, nij⟩, hl⟩ := hc
            cases q
            refine ⟨ph, am, δ, _, _, s, e1, fun fl' z => (by cases z), fun c fs z => ?_⟩
            cases z
            intro C' dx am' σ' H' hm st s' pl
            have hi' : i < σ'.length := by rw [s'.len]; exact (List.getElem?_eq_some_iff.mp g2).1
            rw [hxm] at hm
            cases hm
            refine ⟨true, hself, fun _ a na => ?_, fun z => by cases z⟩
            refine ⟨C, ph, am', _, ds, rfl, hxm, List.getElem?_set_self hi', pl, g1, fun vs dv => ?_⟩
            have hz : vs.length ≤ sizeLine := by rw [dv.length, sizeLine_eq]; omega
            refine ⟨hz, fun p np => ?_⟩
            have s2 := (s'.same (same_new (o := .lst vs) np))
            have s3 := s2.put g3 f2 (new_lst (fun b h => s'.hidden h) np dv)
            have g2' : (δ1.set j (.fz (.list ds)))[i]? = some ci := by rw [List.getElem?_set_ne (Ne.symm nij)]; exact g2
            have s4 := s3.unset g2' f1
            have e : ((σ'.set i (some (.ref a))).set j (some (.ref p))).set i none = (σ'.set j (some (.ref p))).set i none := by
              rw [List.set_comm _ _ (Ne.symm nij), List.set_set]
              exact List.set_comm _ _ nij
            show D.nx (((σ'.set i (some (.ref a))).set j (some (.ref p))).set i none) _
            rw [e]
            exact k _ rfl _ _ _ ((st.trans (Step.of (same_new np))).trans (step_drop.trans step_drop)) s4
          · cases q
        · cases q
      · cases q
    · cases q
end PD
end

section
set_option Elab.async false
set_option linter.all false
set_option maxRecDepth 100000
set_option maxHeartbeats 1000000
namespace PD
open PySem PySem.Spec PyProof.Rows L2
variable {X : Cx} {W : WX} {pos : Pos} {e e1 e2 e3 : Expr} {es : List Expr} {f g h : M PyData} {fs : M (List PyData)} {fb gb : M Bool}
variable {K : PySem.W.Frag} {ph : Fx} {am am' am1 : Am} {H H' H1 : Hp} {σ σ' : L2.St} {δ δ' δ1 : Sg} {a p p1 p2 : Addr} {v : V} {vs : List V} {d : PyData} {ds : List PyData} {i : Nat}
/-! ### targets that store into a list that a name owns -/
def ReadGM (X : Cx) (t : TG) (s : Tg) : Prop := ∀ (ph : Fx) (am : Am) (σ : L2.St) (H : Hp) (δ δ' : Sg) (v : V) (d : PyData) (Q : L2.St → Hp → Prop), SR X.K ph am σ H δ → Dq X.K (hid ph am H) v d → s d δ = some δ' →
  (∀ am' σ' H', Step am H am' H' → SR X.K ph am' σ' H' δ' → Q σ' H') → t v σ H Q
structure DGM (X : Cx) (tg : Expr) (s : Tg) : Prop where
  ex : ∃ t, PG X tg t ∧ ReadGM X t s
structure DGsM (X : Cx) (ts : List Expr) (s : Tgs) : Prop where
  ex : ∃ t, PGs X ts t ∧ ∀ (ph : Fx) (am : Am) (σ : L2.St) (H : Hp) (δ δ' : Sg) (vs : List V) (ds : List PyData) (Q : L2.St → Hp → Prop), SR X.K ph am σ H δ → DqAll X.K (hid ph am H) vs ds → s ds δ = some δ' →
    (∀ am' σ' H', Step am H am' H' → SR X.K ph am' σ' H' δ' → Q σ' H') → t vs σ H Q
def sSubT (i : Nat) (g : M PyData) : Tg := fun d δ => match δ[i]? with
  | some (.ow _ _) => match g δ with
    | some (.ok (.int n), δ2) => match δ2[i]? with
      | some (.ow b ds) => match ixN ds.length n with
        | some j => some (δ2.set i (.ow b (ds.set j d)))
        | none => none
      | _ => none
    | _ => none
  | _ => none
theorem dgm_sub {i : Nat} {x : Str} {pn ps' : Pos} (hk : DE X W e2 g) (hN : X.N[i]? = some x := by rfl) (hv : Vis X.env.scope x := by first | exact Or.inl rfl | exact Or.inr (Or.inl rfl) | exact Or.inr (Or.inr rfl)) (hd : (x == ("__debug__" : Str)) = false := by decide) (hcd : (x == ("__classdict__" : Str)) = false := by decide)
    (ha : ∀ v, assign (.Subscript (.Name x pn) e2 ps') X.env v = (do
      let ov ← holding [v] (eval (.Name x pn) X.env)
      let iv ← holding [v, ov] (eval e2 X.env)
      standAt ps'
      holding [v, ov, iv] (setItem ov iv v)
      release [v, ov, iv] []) := by intro _; rfl) : DGM X (.Subscript (.Name x pn) e2 ps') (sSubT i g) := by
  obtain ⟨t2, p2, q2⟩ := hk.ex
  refine ⟨⟨_, pg_sub (pe_var hN hv hd hcd) p2 set_list ha, fun ph am σ H δ δ' v d Q s dv z k => ?_⟩⟩
  unfold sSubT at z
  split at z
  · rename_i b0 ds0 e3
    obtain ⟨a0, vs0, o1, o2, o3, o4, _, _⟩ := s.ow i b0 ds0 e3
    refine ⟨.ref a0, o2, ?_⟩
    split at z
    · rename_i n δ2 e4
      refine q2 ph am σ H δ _ _ _ s e4 (fun d' ed am2 w H2 st2 s2 d2 => ?_) (fun c fs z => by cases z)
      cases ed
      split at z
      · rename_i b ds e6
        cases d2 with
        | int n =>
          obtain ⟨a1, vs1, r1, r2, r3, r4, r5, r6⟩ := s2.ow i b ds e6
          rw [o2] at r2
          cases r2
          split at z
          · rename_i j e7
            cases z
            refine ⟨a0, vs1, _, j, rfl, rfl, r3, by rw [r4.length]; exact e7, ?_⟩
            exact k am2 σ _ (st2.trans (step_mut r1 r3)) (s2.mut e6 r1 (r4.set (dp_mono st2.hid dv) j) (by rw [List.length_set]; exact r5))
          · cases z
      · cases z
    · cases z
  · cases z
theorem dgsm_nil : DGsM X [] sNil := ⟨⟨gNil, pgs_nil, fun ph am σ H δ δ' vs ds Q s dv q k => by
  cases dv with
  | nil => cases q; exact ⟨rfl, k am σ H Step.refl s⟩
  | cons _ _ => cases q⟩⟩
theorem dgsm_cons {tg : Expr} {ts : List Expr} {s : Tg} {r : Tgs} (h : DGM X tg s) (t : DGsM X ts r) (hs : (assignEach (tg :: ts) X.env).map (·.2) = assign tg X.env :: (assignEach ts X.env).map (·.2) := by rfl) : DGsM X (tg :: ts) (sCons s r) := by
  obtain ⟨t1, p1, q1⟩ := h.ex
  obtain ⟨t2, p2, q2⟩ := t.ex
  refine ⟨⟨_, pgs_cons p1 p2 hs, fun ph am σ H δ δ' vs ds Q s dv q k => ?_⟩⟩
  cases dv with
  | nil => cases q
  | cons dv dt =>
    rename_i v vs d ds
    unfold sCons at q
    simp only at q
    split at q
    · rename_i δ1 e1
      refine ⟨v, vs, rfl, q1 ph am σ H δ δ1 v d _ s dv e1 fun am1 σ1 H1 st1 s1 => ?_⟩
      exact q2 ph am1 σ1 H1 δ1 δ' vs ds Q s1 (dps_mono st1.hid dt) q fun am2 σ2 H2 st2 s2 => k am2 σ2 H2 (st1.trans st2) s2
    · cases q
theorem dgm_tup {ts : List Expr} {k n : Nat} {r : Tgs} (hc : X.calm = true) (t : DGsM X ts r) (hn : (assignEach ts X.env).length = n := by rfl) (hst : (assignEach ts X.env).findIdx? (·.1) = none := by rfl) : DGM X (.Tuple ts k pos) (sTup n r) := by
  obtain ⟨t2, p2, q2⟩ := t.ex
  refine ⟨⟨_, pg_tup hc p2 hn hst, fun ph am σ H δ δ' v d Q s dv q k => ?_⟩⟩
  cases dv with
  | tup h1 a1 =>
    unfold sTup at q
    simp only at q
    split at q
    · rename_i hl
      exact ⟨_, _, rfl, seqT_hid h1, by rw [a1.length]; exact hl, q2 ph am σ H δ δ' _ _ Q s a1 q k⟩
    · cases q
  | _ => cases q
theorem asgm_read {t : TE} {u : TG} {s : Tg} (q1 : ReadE X W t f) (q2 : ReadGM X u s) : ReadS X W (tAsg t u) (sAsg f s) := by
  intro ph am σ H δ D ans δ' sr z k kx
  rcases bnd_some z with ⟨d, δ1, e1, e2⟩ | ⟨c, fs, e1, e2⟩
  · refine q1 ph am σ H δ _ _ _ sr e1 (fun d ed am1 v H1 st1 s1 d1 => ?_) (fun c fs z => by cases z)
    cases ed
    split at e2
    · rename_i δ2 e3
      cases e2
      exact q2 ph am1 σ H1 δ1 _ v d _ s1 d1 e3 fun am2 σ2 H2 st2 s2 => k _ rfl am2 σ2 H2 (st1.trans st2) s2
    · cases e2
  · subst e2
    exact q1 ph am σ H δ _ _ _ sr e1 (fun d ed => by cases ed) (fun c' fs' z => by cases z; exact (kx _ _ rfl).at)
theorem ds_asgm {tg : Expr} {s : Tg} (he : DE X W e f) (hg : DGM X tg s) (hs : swapsWithSole [tg] e pos.line X.env = pure false := by rfl) (hw : swappedStores [tg] e X.env = pure none := by rfl)
    (h1 : (assignEach [tg] X.env).map (·.2) = [assign tg X.env] := by rfl) : DS X W (.Assign [tg] e pos) (sAsg f s) := by
  obtain ⟨t, p, q⟩ := he.ex
  obtain ⟨u, pu, qu⟩ := hg.ex
  exact ⟨⟨_, ps_asg p pu hs hw h1, asgm_read q qu⟩⟩
/-! ### any over numbers and truth values -/
def simpleD : PyData → Bool
  | .int _ => true
  | .bool _ => true
  | _ => false
def any2D : List PyData → Option PyData
  | [.list xs] => if xs.all simpleD = true then some (.bool (xs.any PyData.truthy)) else none
  | [.tuple xs] => if xs.all simpleD = true then some (.bool (xs.any PyData.truthy)) else none
  | _ => none
theorem simple_plain : ∀ {xs : List PyData}, xs.all simpleD = true → PyData.plainAll xs = true
  | [], _ => rfl
  | x :: xs, h => by
    rw [List.all_cons, Bool.and_eq_true] at h
    rw [PyData.plainAll, simple_plain h.2, Bool.and_true]
    cases x <;> first | rfl | (exact absurd h.1 Bool.false_ne_true)
theorem simple_fits {xs : List PyData} (h : xs.all simpleD = true) : ∀ x ∈ xs, x.fits63 := fun x hx => by
  have := List.all_eq_true.mp h x hx
  cases x <;> first | trivial | (exact absurd this Bool.false_ne_true)
def rAny2 (K : PySem.W.Frag) : List V → Hp → VK → Prop := fun vs H Q => ∃ v ds, vs = [v] ∧ (Dp K H v (.list ds) ∨ Dp K H v (.tuple ds)) ∧ ds.all simpleD = true ∧ Q (.bl (ds.any PyData.truthy)) H
theorem cr_any2 (hc : X.calm = true) : CallR X (.builtin "any") (rAny2 X.K) := by
  intro pins s σ H vs us Q I r h
  obtain ⟨v, ds, rfl, hd, hs, q⟩ := h
  obtain ⟨u, rfl, ru⟩ := r.one
  rcases hd with hd | hd
  · obtain ⟨as, rd⟩ := Dp.reads I _ _ _ hd ru
    cases rd with
    | list h1 h2 h3 h4 =>
      refine W.any_list_data (I.ok.hd hc) ⟨_, h1, h2, _, h3⟩ h4 (simple_plain hs) (simple_fits hs) fun h' tk hk => ?_
      exact ⟨.bl _, H, I.kept fun b o eo => hk b o eo, rfl, q⟩
  · obtain ⟨as, rd⟩ := Dp.reads I _ _ _ hd ru
    cases rd with
    | tuple h1 h2 h3 h4 =>
      refine W.any_tuple_data (I.ok.hd hc) ⟨_, h1, h2, _, h3⟩ h4 (simple_plain hs) (simple_fits hs) fun h' tk hk => ?_
      exact ⟨.bl _, H, I.kept fun b o eo => hk b o eo, rfl, q⟩
theorem calld_any2 : CallD X (rAny2 X.K) any2D := by
  intro ph am H xs ds c Q hh hd e k
  cases hd with
  | nil => cases e
  | cons d1 t1 =>
    cases t1 with
    | cons _ _ => cases d1 <;> cases e
    | nil =>
      rename_i v d
      have d2 : Dq X.K H v d := dp_mono hid_sub d1
      cases d with
      | list xs =>
        obtain ⟨hs, rfl⟩ := if_some e
        exact ⟨v, xs, rfl, .inl d2.dp, hs, k _ _ (fun _ _ h => h) (.bl _)⟩
      | tuple xs =>
        obtain ⟨hs, rfl⟩ := if_some e
        exact ⟨v, xs, rfl, .inr d2.dp, hs, k _ _ (fun _ _ h => h) (.bl _)⟩
      | _ => cases e
/-! ### max of two numbers -/
def max2D : List PyData → Option PyData
  | [.int i, .int j] => some (.int (if j > i then j else i))
  | _ => none
theorem calld_max2 : CallD X (fun xs H Q => ∃ i j, xs = [.int i, .int j] ∧ Q (.int (if j > i then j else i)) H) max2D := by
  intro ph am H xs ds c Q hh hd e k
  cases hd with
  | nil => cases e
  | cons d1 t1 =>
    cases t1 with
    | nil => cases d1 <;> cases e
    | cons d2 t2 =>
      cases t2 with
      | cons _ _ => cases d1 <;> cases d2 <;> cases e
      | nil =>
        cases d1 <;> cases d2 <;> first | (cases e; done) | skip
        cases e
        exact ⟨_, _, rfl, k _ _ (fun _ _ h => h) (.int _)⟩
def min2D : List PyData → Option PyData
  | [.int i, .int j] => some (.int (if j < i then j else i))
  | _ => none
theorem calld_min2 : CallD X (fun xs H Q => ∃ i j, xs = [.int i, .int j] ∧ Q (.int (if j < i then j else i)) H) min2D := by
  intro ph am H xs ds c Q hh hd e k
  cases hd with
  | nil => cases e
  | cons d1 t1 =>
    cases t1 with
    | nil => cases d1 <;> cases e
    | cons d2 t2 =>
      cases t2 with
      | cons _ _ => cases d1 <;> cases d2 <;> cases e
      | nil =>
        cases d1 <;> cases d2 <;> first | (cases e; done) | skip
        cases e
        exact ⟨_, _, rfl, k _ _ (fun _ _ h => h) (.int _)⟩
section
variable (hd : DA X W [e] fs)
include hd
theorem de_any2 {pf : Pos} (hm : X.mg "any" = none) (hc : X.calm = true := by rfl) (hg : Gl X "any" := by rfl) (he : starEach [e] X.env = (false, eval e X.env) :: starEach [] X.env := by rfl) (hpl : (backTo pos (starEach [] X.env)).any (·.1) = false := by rfl) : DE X W (.Call (.Name "any" pf) [e] [] pos) (xCall any2D fs) :=
  de_callB calld_any2 (cr_any2 hc) hm bb_any hd hg (by decide) (by decide) he hpl
end
theorem bb_max : bootBuiltins "max" = some (.builtin "max") := by rfl
theorem de_max2 {pf : Pos} (hd : DA X W [e1, e2] fs) (hm : X.mg "max" = none) (hc : X.calm = true := by rfl) (hg : Gl X "max" := by rfl) (he : starEach [e1, e2] X.env = (false, eval e1 X.env) :: starEach [e2] X.env := by rfl) (hpl : (backTo pos (starEach [e2] X.env)).any (·.1) = false := by rfl) : DE X W (.Call (.Name "max" pf) [e1, e2] [] pos) (xCall max2D fs) :=
  de_callB calld_max2 (call_max2 hc) hm bb_max hd hg (by decide) (by decide) he hpl
theorem bb_min : bootBuiltins "min" = some (.builtin "min") := by rfl
theorem de_min2 {pf : Pos} (hd : DA X W [e1, e2] fs) (hm : X.mg "min" = none) (hc : X.calm = true := by rfl) (hg : Gl X "min" := by rfl) (he : starEach [e1, e2] X.env = (false, eval e1 X.env) :: starEach [e2] X.env := by rfl) (hpl : (backTo pos (starEach [e2] X.env)).any (·.1) = false := by rfl) : DE X W (.Call (.Name "min" pf) [e1, e2] [] pos) (xCall min2D fs) :=
  de_callB calld_min2 (call_min2 hc) hm bb_min hd hg (by decide) (by decide) he hpl
end PD
end

section
set_option Elab.async false
set_option linter.all false
set_option maxRecDepth 100000
set_option maxHeartbeats 1000000
namespace PD
open PySem PySem.Spec PyProof.Rows L2
variable {X : Cx} {W : WX} {pos : Pos} {e e1 e2 e3 : Expr} {es : List Expr} {f g h : M PyData} {fs : M (List PyData)} {fb gb : M Bool}
variable {K : PySem.W.Frag} {ph : Fx} {am am' am1 : Am} {H H' H1 : Hp} {σ σ' : L2.St} {δ δ' δ1 : Sg} {a p p1 p2 : Addr} {v : V} {vs : List V} {d : PyData} {ds : List PyData} {i : Nat}
/-! ### x, y = a new list that x is to own, e -/
def sPar2O (fs : M (List PyData)) (g : M PyData) (i j : Nat) : MS := bnd fs fun ds => fun δ => match g δ with
  | some (.ok d, δ1) => match δ1[i]? with
    | some c => if c.free = true then (match sName j d (δ1.set i (.ow false ds)) with
      | some δ2 => some (.ok .nx, δ2)
      | none => none) else none
    | none => none
  | _ => none
theorem ds_par2O {x y : Str} {px py pt : Pos} {kt k2 pt2} (hc : X.calm = true) (hN : X.N.Nodup) (he1 : DF X W e1 fs) (he2 : DE X W e2 g) (hi : X.N[i]? = some x := by rfl) {j : Nat} (hj : X.N[j]? = some y := by rfl) (hij : i ≠ j := by decide)
    (hx : X.env.scope.names.lookup x = some .local := by rfl) (hy : X.env.scope.names.lookup y = some .local := by rfl)
    (hw : swappedStores [.Tuple [.Name x px, .Name y py] kt pt] (.Tuple [e1, e2] k2 pt2) X.env = pure (some [x, y]) := by rfl)
    (hs : swapsWithSole [.Tuple [.Name x px, .Name y py] kt pt] (.Tuple [e1, e2] k2 pt2) pos.line X.env = pure false := by rfl)
    (hs1 : starEach [e1, e2] X.env = (false, eval e1 X.env) :: starEach [e2] X.env := by rfl) (hs2 : starEach [e2] X.env = (false, eval e2 X.env) :: starEach [] X.env := by rfl) : DS X W (.Assign [.Tuple [.Name x px, .Name y py] kt pt] (.Tuple [e1, e2] k2 pt2) pos) (sPar2O fs g i j) := by
  obtain ⟨t1, p1, q1⟩ := he1.ex
  obtain ⟨t2, p2, q2⟩ := he2.ex
  refine ⟨⟨_, ps_par hc hN hi hj hij hx hy (pa_cons p1 (pa_cons p2 pa_nil hs2) hs1) hw hs, fun ph am σ H δ D ans δ' s z k kx => ?_⟩⟩
  rcases bnd_some z with ⟨ds, δ1, e1, e2⟩ | ⟨c, fs, e1, e2⟩
  · refine q1 ph am σ H δ _ _ _ s e1 (fun d' ed am1 p vs H1 n0 n1 st1 s1 dv hz => ?_) (fun c fs z => by cases z)
    cases ed
    have np : ∀ l, am1 l ≠ some p := fun l h => by
      obtain ⟨o, z⟩ := s1.hidden (.inr ⟨l, h⟩)
      rw [n1] at z; cases z
    have nph : ¬ ph.ph p := fun h => s1.new n1 (.inl h)
    have s1' : SR X.K (ph.also p) am1 σ (upd H1 p (.lst vs)) δ1 := SR.also (by rw [del_new n1]; exact s1) upd_same
    split at e2
    · rename_i d δ2 e3
      refine q2 (ph.also p) am1 σ _ δ1 _ _ _ s1' e3 (fun d' ed am2 w H2 st2 s2 d2 => ?_) (fun c fs z => by cases z)
      cases ed
      have hp2 : H2 p = some (.lst vs) := st2.keep p _ upd_same np
      have np2 : ∀ l, am2 l ≠ some p := fun l h => (s2.amf l p h).1 (.inr rfl)
      have s3 : SR X.K ph am2 σ (del p H2) δ2 := s2.unalso nph
      rw [hid_also] at d2
      have st3 : Step am1 H1 am2 (del p H2) := by
        have := st2.del np2
        rw [del_new n1] at this
        exact this
      have dv2 : DqAll X.K (hid ph am2 (del p H2)) vs ds := dps_mono st3.hid dv
      split at e2
      · rename_i c e5
        split at e2
        · rename_i h1
          split at e2
          · rename_i δ3 n3
            cases e2
            obtain ⟨c1, f1, f2, rfl⟩ := sName_some n3
            have s4 := s3.putOwn (p := p) e5 h1 del_same dv2 hz
            have st4 : Step am2 (del p H2) (amPut am2 i p) (upd (del p H2) p (.lst vs)) := step_put del_same
            have d4 := dp_mono st4.hid d2
            rw [upd_del hp2] at s4 st4 d4
            have s5 := s4.put f1 f2 d4
            exact ⟨_, _, rfl, k _ rfl _ _ H2 (((st1.trans st3).trans st4).trans step_drop) s5⟩
          · cases e2
        · cases e2
      · cases e2
    · cases e2
  · subst e2
    exact q1 ph am σ H δ _ _ _ s e1 (fun d ed => by cases ed) (fun c' fs' z => by cases z; exact (kx _ _ rfl).at)
/-! ### xs.pop(k), xs owned -/
def xPopO (i : Nat) (g : M PyData) : M PyData := fun δ => match δ[i]? with
  | some (.ow _ _) => (bnd g fun k => fun δ1 => match δ1[i]?, k with
    | some (.ow b ds), .int n => if 0 ≤ n ∧ n < ds.length ∧ n < 2 ^ 63 then (match ds[n.toNat]? with
      | some d => some (.ok d, δ1.set i (.ow b (ds.eraseIdx n.toNat)))
      | none => none) else none
    | _, _ => none) δ
  | _ => none
theorem DqAll.erase : ∀ {vs : List V} {ds : List PyData}, DqAll K H vs ds → ∀ n : Nat, DqAll K H (vs.eraseIdx n) (ds.eraseIdx n)
  | _, _, .nil, _ => by simp; exact .nil
  | _, _, .cons h t, 0 => by simpa using t
  | _, _, .cons h t, n + 1 => by simpa using .cons h (DqAll.erase t n)
theorem hid_mut {o : HO} (h1 : am i = some a) : hid ph am (upd H a o) = hid ph am H := hid_own h1
theorem de_popO {i : Nat} {x : Str} {pn apos cpos : Pos} (he : DE X W e g) (hN : X.N[i]? = some x := by rfl) (hv : Vis X.env.scope x := by first | exact Or.inl rfl | exact Or.inr (Or.inl rfl) | exact Or.inr (Or.inr rfl)) (hd : (x == ("__debug__" : Str)) = false := by decide) (hcd : (x == ("__classdict__" : Str)) = false := by decide)
    (hs0 : starEach [e] X.env = (false, eval e X.env) :: starEach [] X.env := by rfl)
    (hbase : attributeBase (.Name x pn) "pop" X.env (eval (.Name x pn) X.env) = eval (.Name x pn) X.env := by rfl)
    (hfew : ((backTo cpos (starEach [e] X.env)).all (fun x => !x.1) && (backToKw cpos (keywordEach [] X.env)).all (fun x => x.1.isSome)
      && decide (([e] : List Expr).length + ([] : List Keyword).length + (if ([] : List Keyword).isEmpty then 0 else 1) < 30)) = true := by rfl)
    (hline : (apos.endLine == cpos.line) = true := by rfl) (hplain : (backTo cpos (starEach [] X.env)).any (·.1) = false := by rfl) : DE X W (.Call (.Attribute (.Name x pn) "pop" apos) [e] [] cpos) (xPopO i g) := by
  obtain ⟨t, p, q⟩ := he.ex
  refine ⟨⟨_, pe_bm PySem.F.plainAttrs_list PySem.F.slot_list_pop PySem.F.type_list_pop mt_popAt (pe_var hN hv hd hcd) (pa_cons p pa_nil hs0) hbase hfew hline hs0 hplain, fun ph am σ H δ Q ans δ' sr z k kx => ?_⟩⟩
  unfold xPopO at z
  split at z
  · rename_i b0 ds0 e3
    obtain ⟨a0, vs0, o1, o2, o3, o4, _, _⟩ := sr.ow i b0 ds0 e3
    refine ⟨.ref a0, o2, .inl ⟨rfl, _, .inl (.inl o3)⟩, ?_⟩
    rcases bnd_some z with ⟨d, δ2, e4, e5⟩ | ⟨c, fs, e4, e5⟩
    · refine q ph am σ H δ _ _ _ sr e4 (fun d ed am2 w H2 st2 s2 d2 => ?_) (fun c fs z => by cases z)
      cases ed
      split at e5
      · rename_i b ds n e6
        obtain ⟨a1, vs1, r1, r2, r3, r4, r5, r6⟩ := s2.ow i b ds e6
        rw [o2] at r2
        cases r2
        cases d2
        split at e5
        · rename_i hn
          split at e5
          · rename_i dd e7
            cases e5
            obtain ⟨y, g1, g2⟩ := DqAll.get r4 e7
            refine ⟨a0, vs1, n, n.toNat, y, rfl, rfl, r3, by omega, hn.2.2, ?_, g1, ?_⟩
            · unfold seqIndex?
              have := r4.length
              have h0 := hn.1
              have h1 := hn.2.1
              simp only [show ¬ n < 0 by omega, if_false]
              rw [if_pos (by simp only [Bool.and_eq_true, decide_eq_true_eq]; omega)]
            · exact k _ rfl am2 y _ (st2.trans (step_mut r1 r3)) (s2.mut e6 r1 (DqAll.erase r4 _) (by have := List.length_eraseIdx_le vs1 n.toNat; omega)) (by rw [hid_mut r1]; exact g2)
          · cases e5
        · cases e5
      · cases e5
    · subst e5
      exact q ph am σ H δ _ _ _ sr e4 (fun d ed => by cases ed) (fun c' fs' z => by cases z; exact kx _ _ rfl)
  · cases z
/-! ### xs.insert(k, e), xs owned -/
def sInsO (i : Nat) (fs : M (List PyData)) : MS := fun δ => match δ[i]? with
  | some (.ow _ _) => (bnd fs fun es => fun δ1 => match δ1[i]?, es with
    | some (.ow b ds), [.int n, d] => if ds.length < sizeLine ∧ 0 ≤ n ∧ n < 2 ^ 63 then some (.ok .nx, δ1.set i (.ow b (ds.take n.toNat ++ [d] ++ ds.drop n.toNat))) else none
    | _, _ => none) δ
  | _ => none
theorem ds_insO {i : Nat} {x : Str} {pn apos cpos : Pos} (he : DA X W [e1, e2] fs) (hN : X.N[i]? = some x := by rfl) (hv : Vis X.env.scope x := by first | exact Or.inl rfl | exact Or.inr (Or.inl rfl) | exact Or.inr (Or.inr rfl)) (hd : (x == ("__debug__" : Str)) = false := by decide) (hcd : (x == ("__classdict__" : Str)) = false := by decide)
    (hs0 : starEach [e1, e2] X.env = (false, eval e1 X.env) :: starEach [e2] X.env := by rfl)
    (hbase : attributeBase (.Name x pn) "insert" X.env (eval (.Name x pn) X.env) = eval (.Name x pn) X.env := by rfl)
    (hfew : ((backTo cpos (starEach [e1, e2] X.env)).all (fun x => !x.1) && (backToKw cpos (keywordEach [] X.env)).all (fun x => x.1.isSome)
      && decide (([e1, e2] : List Expr).length + ([] : List Keyword).length + (if ([] : List Keyword).isEmpty then 0 else 1) < 30)) = true := by rfl)
    (hline : (apos.endLine == cpos.line) = true := by rfl) (hplain : (backTo cpos (starEach [e2] X.env)).any (·.1) = false := by rfl)
    (hs : swapsWith (.Call (.Attribute (.Name x pn) "insert" apos) [e1, e2] [] cpos) none pos.line X.env = pure false := by rfl) : DS X W (.Expr (.Call (.Attribute (.Name x pn) "insert" apos) [e1, e2] [] cpos) pos) (sInsO i fs) := by
  obtain ⟨t, p, q⟩ := he.ex
  refine ⟨⟨_, ps_expr (pe_bm PySem.F.plainAttrs_list PySem.F.slot_list_insert PySem.F.type_list_insert mt_insert (pe_var hN hv hd hcd) p hbase hfew hline hs0 hplain) hs, fun ph am σ H δ D ans δ' sr z k kx => ?_⟩⟩
  unfold sInsO at z
  split at z
  · rename_i b0 ds0 e3
    obtain ⟨a0, vs0, o1, o2, o3, o4, _, _⟩ := sr.ow i b0 ds0 e3
    refine ⟨.ref a0, o2, .inl ⟨rfl, _, .inl (.inl o3)⟩, ?_⟩
    rcases bnd_some z with ⟨es, δ2, e4, e5⟩ | ⟨c, fs, e4, e5⟩
    · refine q ph am σ H δ _ _ _ sr e4 (fun d' ed am2 ws H2 st2 s2 d2 => ?_) (fun c fs z => by cases z)
      cases ed
      split at e5
      · rename_i b ds n d e6
        obtain ⟨a1, vs1, r1, r2, r3, r4, r5, r6⟩ := s2.ow i b ds e6
        rw [o2] at r2
        cases r2
        obtain ⟨hz, e8⟩ := if_some e5
        cases e8
        cases d2 with
        | cons x1 x2 =>
          cases x2 with
          | cons y1 y2 =>
            cases y2
            cases x1
            have hl := r4.length
            refine ⟨a0, vs1, n, _, rfl, rfl, r3, by omega, hz.2.1, hz.2.2, ?_⟩
            exact k _ rfl am2 σ _ (st2.trans (step_mut r1 r3)) (s2.mut e6 r1 (((r4.take n.toNat).append (.cons y1 .nil)).append (r4.drop n.toNat)) (by simp only [List.length_append, List.length_take, List.length_drop, List.length_singleton]; omega))
      · cases e5
    · subst e5
      exact q ph am σ H δ _ _ _ sr e4 (fun d ed => by cases ed) (fun c' fs' z => by cases z; exact (kx _ _ rfl).at)
  · cases z
/-! ### xs[::-1], xs owned: a new list -/
def xRevO (i : Nat) : M (List PyData) := fun δ => match δ[i]? with
  | some (.ow _ ds) => some (.ok ds.reverse, δ)
  | _ => none
theorem df_revO {i : Nat} {x : Str} {pn : Pos} {k1 : Nat} {p1 p2 p3 : Pos} (hN : X.N[i]? = some x := by rfl) (hv : Vis X.env.scope x := by first | exact Or.inl rfl | exact Or.inr (Or.inl rfl) | exact Or.inr (Or.inr rfl)) (hd : (x == ("__debug__" : Str)) = false := by decide) (hcd : (x == ("__classdict__" : Str)) = false := by decide) :
    DF X W (.Subscript (.Name x pn) (.Slice none none (some (.UnaryOp .USub (.Constant (.int 1) k1 p1) p2)) p3) pos) (xRevO i) := by
  refine ⟨⟨_, pe_revL (pe_var hN hv hd hcd), fun ph am σ H δ Q ans δ' sr z k kx => ?_⟩⟩
  unfold xRevO at z
  split at z
  · rename_i b0 ds0 e3
    cases z
    obtain ⟨a0, vs0, o1, o2, o3, o4, o5, _⟩ := sr.ow i b0 ds0 e3
    refine ⟨.ref a0, o2, a0, vs0, rfl, .inl (.inl o3), fun p np => ?_⟩
    exact k _ rfl am p _ H np np Step.refl sr o4.rev (by rw [List.length_reverse]; exact o5)
  · cases z
end PD
end

section
set_option Elab.async false
set_option linter.all false
set_option maxRecDepth 100000
set_option maxHeartbeats 1000000
namespace PD
open PySem PySem.Spec PyProof.Rows L2
variable {X : Cx} {W : WX} {pos : Pos} {e e1 e2 e3 : Expr} {es : List Expr} {f g h : M PyData} {fs : M (List PyData)} {fb gb : M Bool}
variable {K : PySem.W.Frag} {ph : Fx} {am am' am1 : Am} {H H' H1 : Hp} {σ σ' : L2.St} {δ δ' δ1 : Sg} {a p p1 p2 : Addr} {v : V} {vs : List V} {d : PyData} {ds : List PyData} {i : Nat}
theorem step_new {am : Am} {H : Hp} {u : HO} (n : H p = none) : Step am H am (upd H p u) := Step.of (same_new n)
/-- .. where a tuple is made of them first -/
theorem ds_tup2O {x y : Str} {px py pt : Pos} {kt k2 pt2} (hc : X.calm = true) (hN : X.N.Nodup) (he1 : DF X W e1 fs) (he2 : DE X W e2 g) (hi : X.N[i]? = some x := by rfl) {j : Nat} (hj : X.N[j]? = some y := by rfl)
    (hx : Loc X.env.scope x := by first | exact Or.inl rfl | exact Or.inr rfl) (hy : Loc X.env.scope y := by first | exact Or.inl rfl | exact Or.inr rfl)
    (hfx : X.fn x = true ∨ X.env.scope.names.lookup x = some .local := by first | exact .inl rfl | exact .inr rfl) (hfy : X.fn y = true ∨ X.env.scope.names.lookup y = some .local := by first | exact .inl rfl | exact .inr rfl)
    (hs : swapsWithSole [.Tuple [.Name x px, .Name y py] kt pt] (.Tuple [e1, e2] k2 pt2) pos.line X.env = pure false := by rfl)
    (hw : swappedStores [.Tuple [.Name x px, .Name y py] kt pt] (.Tuple [e1, e2] k2 pt2) X.env = pure none := by rfl)
    (h1 : (assignEach [.Tuple [.Name x px, .Name y py] kt pt] X.env).map (·.2) = [assign (.Tuple [.Name x px, .Name y py] kt pt) X.env] := by rfl)
    (g1 : (assignEach [.Name x px, .Name y py] X.env).map (·.2) = assign (.Name x px) X.env :: (assignEach [.Name y py] X.env).map (·.2) := by rfl) (g2 : (assignEach [.Name y py] X.env).map (·.2) = assign (.Name y py) X.env :: (assignEach [] X.env).map (·.2) := by rfl)
    (hn : (assignEach [.Name x px, .Name y py] X.env).length = 2 := by rfl) (hst : (assignEach [.Name x px, .Name y py] X.env).findIdx? (·.1) = none := by rfl)
    (hs1 : starEach [e1, e2] X.env = (false, eval e1 X.env) :: starEach [e2] X.env := by rfl) (hs2 : starEach [e2] X.env = (false, eval e2 X.env) :: starEach [] X.env := by rfl) : DS X W (.Assign [.Tuple [.Name x px, .Name y py] kt pt] (.Tuple [e1, e2] k2 pt2) pos) (sPar2O fs g i j) := by
  obtain ⟨t1, p1, q1⟩ := he1.ex
  obtain ⟨t2, p2, q2⟩ := he2.ex
  refine ⟨⟨_, ps_asg (pe_tup (pa_cons p1 (pa_cons p2 pa_nil hs2) hs1)) (pg_tup hc (pgs_cons (pg_name hN hi hx hfx) (pgs_cons (pg_name hN hj hy hfy) pgs_nil g2) g1) hn hst) hs hw h1, fun ph am σ H δ D ans δ' s z k kx => ?_⟩⟩
  rcases bnd_some z with ⟨ds, δ1, e1, e2⟩ | ⟨c, fs, e1, e2⟩
  · refine q1 ph am σ H δ _ _ _ s e1 (fun d' ed am1 p vs H1 n0 n1 st1 s1 dv hz => ?_) (fun c fs z => by cases z)
    cases ed
    have np : ∀ l, am1 l ≠ some p := fun l h => by
      obtain ⟨o, z⟩ := s1.hidden (.inr ⟨l, h⟩)
      rw [n1] at z; cases z
    have nph : ¬ ph.ph p := fun h => s1.new n1 (.inl h)
    have s1' : SR X.K (ph.also p) am1 σ (upd H1 p (.lst vs)) δ1 := SR.also (by rw [del_new n1]; exact s1) upd_same
    split at e2
    · rename_i d δ2 e3
      refine q2 (ph.also p) am1 σ _ δ1 _ _ _ s1' e3 (fun d' ed am2 w H2 st2 s2 d2 => ?_) (fun c fs z => by cases z)
      cases ed
      refine ⟨by simp only [List.length_cons, List.length_nil]; rw [sizeLine_eq]; omega, fun q nq => ?_⟩
      have s2' := s2.same (same_new (o := HO.tup [.ref p, w]) nq)
      have st2' := st2.trans (step_new (am := am2) (u := HO.tup [.ref p, w]) nq)
      have d2' := dp_mono (hid_same (ph := ph.also p) (am := am2) (same_new (o := HO.tup [.ref p, w]) nq)) d2
      generalize eH3 : upd H2 q (HO.tup [.ref p, w]) = H3 at s2' st2' d2'
      have hp2 : H3 p = some (.lst vs) := st2'.keep p _ upd_same np
      have np2 : ∀ l, am2 l ≠ some p := fun l h => (s2'.amf l p h).1 (.inr rfl)
      have s3 : SR X.K ph am2 σ (del p H3) δ2 := s2'.unalso nph
      rw [hid_also] at d2'
      have st3 : Step am1 H1 am2 (del p H3) := by
        have := st2'.del np2
        rw [del_new n1] at this
        exact this
      have dv2 : DqAll X.K (hid ph am2 (del p H3)) vs ds := dps_mono st3.hid dv
      split at e2
      · rename_i c e5
        split at e2
        · rename_i h1
          split at e2
          · rename_i δ3 n3
            cases e2
            obtain ⟨c1, f1, f2, rfl⟩ := sName_some n3
            have s4 := s3.putOwn (p := p) e5 h1 del_same dv2 hz
            have st4 : Step am2 (del p H3) (amPut am2 i p) (upd (del p H3) p (.lst vs)) := step_put del_same
            have d4 := dp_mono st4.hid d2'
            rw [upd_del hp2] at s4 st4 d4
            have s5 := s4.put f1 f2 d4
            refine ⟨q, _, rfl, .inl (.inl (by rw [← eH3]; exact upd_same)), rfl, _, _, rfl, _, _, rfl, rfl, ?_⟩
            exact k _ rfl _ _ H3 (((st1.trans st3).trans st4).trans step_drop) s5
          · cases e2
        · cases e2
      · cases e2
    · cases e2
  · subst e2
    exact q1 ph am σ H δ _ _ _ s e1 (fun d ed => by cases ed) (fun c' fs' z => by cases z; exact (kx _ _ rfl).at)
end PD
end

section
set_option Elab.async false
set_option linter.all false
set_option maxRecDepth 100000
set_option maxHeartbeats 1000000
namespace PD
open PySem PySem.Spec PyProof.Rows L2
variable {X : Cx} {W : WX} {pos : Pos} {e e1 e2 e3 : Expr} {es : List Expr} {f g h : M PyData} {fs : M (List PyData)} {fb gb : M Bool}
variable {K : PySem.W.Frag} {ph : Fx} {am am' am1 : Am} {H H' H1 : Hp} {σ σ' : L2.St} {δ δ' δ1 : Sg} {a p p1 p2 : Addr} {v : V} {vs : List V} {d : PyData} {ds : List PyData} {i : Nat}

/-! ### x in xs, xs a list -/
def inD (a b : PyData) : Option PyData := match b with
  | .list ds => if SeqAt.shaped a = true ∧ SeqAt.shaped (.list ds) = true then some (.bool (ds.any fun z => PyData.eqv z a)) else none
  | _ => none
def ninD (a b : PyData) : Option PyData := match b with
  | .list ds => if SeqAt.shaped a = true ∧ SeqAt.shaped (.list ds) = true then some (.bool (!ds.any fun z => PyData.eqv z a)) else none
  | _ => none
theorem opd_in : OpD X (rInD X.K) inD := by
  intro ph am H x y d e c Q hn dx dy q k
  unfold inD at q
  split at q
  · obtain ⟨⟨h1, h2⟩, rfl⟩ := if_some q
    exact ⟨d, _, (dp_mono hid_sub dx).dp, (dp_mono hid_sub dy).dp, h1, h2, k _ H (Same.refl H) (.bl _)⟩
  · cases q
theorem opd_nin : OpD X (rNotInD X.K) ninD := by
  intro ph am H x y d e c Q hn dx dy q k
  unfold ninD at q
  split at q
  · obtain ⟨⟨h1, h2⟩, rfl⟩ := if_some q
    exact ⟨d, _, (dp_mono hid_sub dx).dp, (dp_mono hid_sub dy).dp, h1, h2, k _ H (Same.refl H) (.bl _)⟩
  · cases q
theorem dt_in (hu : X.A.units + 65 < cLine) (ha : DE X W e1 f) (hb : DE X W e2 g) (hm : behindInMarks .In e2 = false := by rfl) : DT X W (.Compare e1 [.In] [e2] pos) (xBool (xBin inD f g)) := dt_cmp opd_in (op_inD hu) hm ha hb
theorem dt_notin (hu : X.A.units + 65 < cLine) (ha : DE X W e1 f) (hb : DE X W e2 g) (hm : behindInMarks .NotIn e2 = false := by rfl) : DT X W (.Compare e1 [.NotIn] [e2] pos) (xBool (xBin ninD f g)) := dt_cmp opd_nin (op_notInD hu) hm ha hb

/-! ### keys -/
def keyOf : PyData → Option Key
  | .int i => some (.inl i)
  | .str s => some (.inr s)
  | _ => none
theorem keyOf_eq {H : Hp} {k : Key} (h : Dq K H v d) (e : keyOf d = some k) : v = kV k := by
  cases h <;> cases e <;> rfl
def keysL : List PyData → Option (List Key)
  | [] => some []
  | d :: ds => match keyOf d, keysL ds with
    | some k, some ks => some (k :: ks)
    | _, _ => none
theorem keysL_eq {H : Hp} : ∀ {vs : List V} {ds : List PyData} {ks : List Key}, DqAll K H vs ds → keysL ds = some ks → vs = ks.map kV
  | _, _, _, .nil, e => by cases e; rfl
  | _, _, _, .cons h t, e => by
    unfold keysL at e
    split at e
    · rename_i k ks e1 e2
      cases e
      rw [List.map_cons, keyOf_eq h e1, keysL_eq t e2]
    · cases e
def keysOf : PyData → Option (List Key)
  | .tuple ds => keysL ds
  | _ => none
theorem keysOf_eq {ks : List Key} (h : Dq K (hid ph am H) v d) (e : keysOf d = some ks) : ∃ b, v = .ref b ∧ H b = some (.tup (ks.map kV)) := by
  cases h with
  | tup h1 a1 => exact ⟨_, rfl, by rw [← keysL_eq a1 e]; exact hid_sub _ _ h1⟩
  | _ => cases e

/-! ### what a dict holds -/
section
variable {κ : Type} [DecidableEq κ]
def getA (kvs : List (κ × PyData)) (k : κ) : Option PyData := (kvs.find? fun kv => decide (kv.1 = k)).map (·.2)
def putA (kvs : List (κ × PyData)) (k : κ) (d : PyData) : List (κ × PyData) :=
  if (kvs.any fun kv => decide (kv.1 = k)) then kvs.map fun kv => if kv.1 = k then (kv.1, d) else kv else kvs ++ [(k, d)]
def KR (K : PySem.W.Frag) (H : Hp) (vs : List (κ × V)) (kvs : List (κ × PyData)) : Prop := vs.map (·.1) = kvs.map (·.1) ∧ DqAll K H (vs.map (·.2)) (kvs.map (·.2))
theorem KR.cons_inv {H : Hp} {q : κ × PyData} {kvs : List (κ × PyData)} {vs : List (κ × V)} (h : KR K H vs (q :: kvs)) : ∃ w us, vs = (q.1, w) :: us ∧ Dq K H w q.2 ∧ KR K H us kvs := by
  obtain ⟨h1, h2⟩ := h
  cases vs with
  | nil => cases h1
  | cons u us =>
    rw [List.map_cons, List.map_cons] at h1 h2
    cases h2 with
    | cons g1 g2 =>
      obtain ⟨e1, e2⟩ := List.cons.inj h1
      exact ⟨u.2, us, by rw [← e1], g1, e2, g2⟩
theorem KR.nil_inv {H : Hp} {vs : List (κ × V)} (h : KR K H vs []) : vs = [] := by
  have := h.1
  simpa using this
theorem KR.cons {H : Hp} {k : κ} {w : V} {d : PyData} {kvs : List (κ × PyData)} {vs : List (κ × V)} (g : Dq K H w d) (h : KR K H vs kvs) : KR K H ((k, w) :: vs) ((k, d) :: kvs) :=
  ⟨by rw [List.map_cons, List.map_cons, h.1], .cons g h.2⟩
theorem KR.any {H : Hp} {kvs : List (κ × PyData)} {vs : List (κ × V)} (h : KR K H vs kvs) (k : κ) : (vs.any fun kv => decide (kv.1 = k)) = kvs.any fun kv => decide (kv.1 = k) := by
  have e1 : (vs.any fun kv => decide (kv.1 = k)) = (vs.map (·.1)).any fun x => decide (x = k) := by rw [List.any_map]; rfl
  have e2 : (kvs.any fun kv => decide (kv.1 = k)) = (kvs.map (·.1)).any fun x => decide (x = k) := by rw [List.any_map]; rfl
  rw [e1, e2, h.1]
theorem KR.get {H : Hp} : ∀ {kvs : List (κ × PyData)} {vs : List (κ × V)} (k : κ), KR K H vs kvs → (getA kvs k = none ∧ valV vs k = none) ∨ ∃ w d, getA kvs k = some d ∧ valV vs k = some w ∧ Dq K H w d
  | [], vs, k, h => by
    cases h.nil_inv
    exact .inl ⟨rfl, rfl⟩
  | q :: kvs, vs, k, h => by
    obtain ⟨w, us, rfl, g1, g2⟩ := h.cons_inv
    by_cases e : q.1 = k
    · refine .inr ⟨w, q.2, ?_, ?_, g1⟩
      · simp [getA, List.find?_cons, e]
      · rw [valV_pos (p := (q.1, w)) e]
    · rcases KR.get k g2 with ⟨a1, a2⟩ | ⟨w', d', a1, a2, a3⟩
      · refine .inl ⟨?_, ?_⟩
        · simpa [getA, List.find?_cons, e] using a1
        · rw [valV_neg (p := (q.1, w)) e]; exact a2
      · refine .inr ⟨w', d', ?_, ?_, a3⟩
        · simpa [getA, List.find?_cons, e] using a1
        · rw [valV_neg (p := (q.1, w)) e]; exact a2
theorem KR.repl {H : Hp} {w : V} {d : PyData} (g : Dq K H w d) (k : κ) : ∀ {kvs : List (κ × PyData)} {vs : List (κ × V)}, KR K H vs kvs →
    KR K H (vs.map fun kv => if kv.1 = k then (kv.1, w) else kv) (kvs.map fun kv => if kv.1 = k then (kv.1, d) else kv)
  | [], vs, h => by
    cases h.nil_inv
    exact h
  | q :: kvs, vs, h => by
    obtain ⟨w', us, rfl, g1, g2⟩ := h.cons_inv
    rw [List.map_cons, List.map_cons]
    by_cases e : q.1 = k
    · rw [if_pos e, if_pos e]
      exact .cons g (KR.repl g k g2)
    · rw [if_neg e, if_neg e]
      exact .cons g1 (KR.repl g k g2)
theorem KR.snoc {H : Hp} {w : V} {d : PyData} (g : Dq K H w d) (k : κ) {kvs : List (κ × PyData)} {vs : List (κ × V)} (h : KR K H vs kvs) : KR K H (vs ++ [(k, w)]) (kvs ++ [(k, d)]) :=
  ⟨by rw [List.map_append, List.map_append, h.1]; rfl, by rw [List.map_append, List.map_append]; exact h.2.append (.cons g .nil)⟩
theorem KR.put {H : Hp} {w : V} {d : PyData} (g : Dq K H w d) (k : κ) {kvs : List (κ × PyData)} {vs : List (κ × V)} (h : KR K H vs kvs) : KR K H (putK vs k w) (putA kvs k d) := by
  unfold putK putA
  rw [h.any k]
  split
  · exact h.repl g k
  · exact h.snoc g k
theorem KR.len {H : Hp} {kvs : List (κ × PyData)} {vs : List (κ × V)} (h : KR K H vs kvs) : vs.length = kvs.length := by
  have := congrArg List.length h.1
  simpa using this
end
end PD
end

section
set_option Elab.async false
set_option linter.all false
set_option maxRecDepth 100000
set_option maxHeartbeats 1000000
namespace PD
open PySem PySem.Spec PyProof.Rows L2
variable {X : Cx} {W : WX} {pos : Pos} {e e1 e2 e3 : Expr} {es : List Expr} {f g h : M PyData} {fs : M (List PyData)} {fb gb : M Bool}
variable {K : PySem.W.Frag} {ph : Fx} {am am' am1 : Am} {H H' H1 : Hp} {σ σ' : L2.St} {δ δ' δ1 : Sg} {a p p1 p2 : Addr} {v : V} {vs : List V} {d : PyData} {ds : List PyData} {i : Nat} {u : HO} {o : DiO}

/-! ### a dict of one's own: made, changed -/
theorem step_putU (n : H p = none) : Step am H (amPut am i p) (upd H p u) :=
  ⟨fun b o h _ => same_new n b o h, fun j a h => by
    by_cases hj : j = i
    · subst hj
      rw [amPut_same] at h
      cases h
      exact .inr n
    · rw [amPut_ne hj] at h
      exact .inl ⟨j, h⟩, fun b o h => ⟨o, same_new n b o h⟩⟩
theorem step_mutU (h : am i = some a) {u' : HO} (e : H a = some u') : Step am H am (upd H a u) :=
  ⟨fun b o q n => by rw [upd_ne (fun z => n i (by rw [z]; exact h))]; exact q, fun j b q => .inl ⟨j, q⟩, fun b o q => by
    by_cases z : b = a
    · subst z
      exact ⟨_, upd_same⟩
    · exact ⟨o, by rw [upd_ne z]; exact q⟩⟩
theorem SR.putDi (s : SR K ph am σ H δ) {c : Cell} (e : δ[i]? = some c) (hc : c.free = true) (n : H p = none) (dv : DOR K p (hid ph am H) u o) :
    SR K ph (amPut am i p) (σ.set i (some (.ref p))) (upd H p u) (δ.set i (.od o)) := by
  have st : Step am H (amPut am i p) (upd H p u) := step_putU n
  have hi : i < δ.length := (List.getElem?_eq_some_iff.mp e).1
  have hσ : i < σ.length := by rw [s.len]; exact hi
  have np : ¬ Hid ph am p := s.new n
  refine ⟨by rw [List.length_set, List.length_set, s.len], fun j d' q => ?_, fun j b' ds' q => ?_, fun j a' q => ?_, fun j k a' q1 q2 => ?_, fun b hb => ?_, fun j a' q => ?_, fun j o' q => ?_⟩
  · by_cases hj : j = i
    · subst hj
      rw [List.getElem?_set_self hi] at q
      cases q
    · rw [List.getElem?_set_ne (Ne.symm hj)] at q
      obtain ⟨v', h1, h2⟩ := s.fz j d' q
      exact ⟨v', by rw [List.getElem?_set_ne (Ne.symm hj)]; exact h1, dp_mono st.hid h2⟩
  · by_cases hj : j = i
    · subst hj
      rw [List.getElem?_set_self hi] at q
      cases q
    · rw [List.getElem?_set_ne (Ne.symm hj)] at q
      obtain ⟨a2, vs2, h1, h2, h3, h4, h5, h6⟩ := s.ow j b' ds' q
      exact ⟨a2, vs2, by rw [amPut_ne hj]; exact h1, by rw [List.getElem?_set_ne (Ne.symm hj)]; exact h2, same_new n _ _ h3, dps_mono st.hid h4, h5, h6⟩
  · by_cases hj : j = i
    · subst hj
      rw [amPut_same] at q
      cases q
      exact ⟨fun z => np (.inl z), .od o, List.getElem?_set_self hi, trivial⟩
    · rw [amPut_ne hj] at q
      obtain ⟨h1, c', h2, h3⟩ := s.amf j a' q
      exact ⟨h1, c', by rw [List.getElem?_set_ne (Ne.symm hj)]; exact h2, h3⟩
  · by_cases hj : j = i
    · by_cases hk : k = i
      · rw [hj, hk]
      · rw [hj, amPut_same] at q1
        cases q1
        rw [amPut_ne hk] at q2
        exact (np (.inr ⟨k, q2⟩)).elim
    · by_cases hk : k = i
      · rw [hk, amPut_same] at q2
        cases q2
        rw [amPut_ne hj] at q1
        exact (np (.inr ⟨j, q1⟩)).elim
      · rw [amPut_ne hj] at q1
        rw [amPut_ne hk] at q2
        exact s.inj j k a' q1 q2
  · obtain ⟨o', h1, m⟩ := s.phs b hb
    exact ⟨o', same_new n _ _ h1, m⟩
  · have hj : j ≠ i := fun z => by
      subst z
      rw [s.nba e hc] at q
      cases q
    rw [amPut_ne hj]
    exact s.bas j a' q
  · by_cases hj : j = i
    · subst hj
      rw [List.getElem?_set_self hi] at q
      cases q
      exact ⟨p, u, amPut_same, List.getElem?_set_self hσ, upd_same, dor_mono st.hid dv, s.nba e hc⟩
    · rw [List.getElem?_set_ne (Ne.symm hj)] at q
      obtain ⟨a2, u2, h1, h2, h3, h4, h5⟩ := s.od j o' q
      exact ⟨a2, u2, by rw [amPut_ne hj]; exact h1, by rw [List.getElem?_set_ne (Ne.symm hj)]; exact h2, same_new n _ _ h3, dor_mono st.hid h4, h5⟩
theorem SR.mutDi (s : SR K ph am σ H δ) (e : δ[i]? = some (.od o)) (h : am i = some a) {o' : DiO} (dv : DOR K a (hid ph am H) u o') : SR K ph am σ (upd H a u) (δ.set i (.od o')) := by
  have hi : i < δ.length := (List.getElem?_eq_some_iff.mp e).1
  obtain ⟨a0, u0, e1, e2, e3, e4, e5⟩ := s.od i o e
  rw [h] at e1
  cases e1
  have hh : ∀ o, hid ph am (upd H a o) = hid ph am H := fun o => hid_own h
  refine ⟨by rw [List.length_set, s.len], fun j d' q => ?_, fun j b' ds2 q => ?_, fun j a' q => ?_, s.inj, fun c hc => ?_, s.bas, fun j o2 q => ?_⟩
  · have hj : j ≠ i := fun z => by
      subst z
      rw [List.getElem?_set_self hi] at q
      cases q
    rw [List.getElem?_set_ne (Ne.symm hj)] at q
    rw [hh]
    exact s.fz j d' q
  · by_cases hj : j = i
    · subst hj
      rw [List.getElem?_set_self hi] at q
      cases q
    · rw [List.getElem?_set_ne (Ne.symm hj)] at q
      obtain ⟨a2, vs2, h1, h2, h3, h4, h5, h6⟩ := s.ow j b' ds2 q
      have na : a2 ≠ a := fun z => hj (s.inj j i a (by rw [← z]; exact h1) h)
      exact ⟨a2, vs2, h1, h2, by rw [upd_ne na]; exact h3, by rw [hh]; exact h4, h5, h6⟩
  · obtain ⟨h1, c2, h2, h3⟩ := s.amf j a' q
    by_cases hj : j = i
    · exact ⟨h1, .od o', by rw [hj]; exact List.getElem?_set_self hi, trivial⟩
    · exact ⟨h1, c2, by rw [List.getElem?_set_ne (Ne.symm hj)]; exact h2, h3⟩
  · obtain ⟨o1, h1, m⟩ := s.phs c hc
    have na : c ≠ a := fun z => (s.amf i a h).1 (by rw [← z]; exact hc)
    exact ⟨o1, by rw [upd_ne na]; exact h1, m⟩
  · by_cases hj : j = i
    · subst hj
      rw [List.getElem?_set_self hi] at q
      cases q
      exact ⟨a, u, h, e2, upd_same, by rw [hh]; exact dv, e5⟩
    · rw [List.getElem?_set_ne (Ne.symm hj)] at q
      obtain ⟨a2, u2, h1, h2, h3, h4, h5⟩ := s.od j o2 q
      have na : a2 ≠ a := fun z => hj (s.inj j i a (by rw [← z]; exact h1) h)
      exact ⟨a2, u2, h1, h2, by rw [upd_ne na]; exact h3, by rw [hh]; exact h4, h5⟩

/-! ### x = {} -/
def sDNew (o : DiO) (i : Nat) : MS := fun δ => match δ[i]? with
  | some c => if c.free = true then some (.ok .nx, δ.set i (.od o)) else none
  | none => none
theorem dnew_read {t : TE} {u0 : HO} (ht : t = fun _ H Q => ∀ p, H p = none → Q (.ref p) (upd H p u0)) (hu : ∀ H p, DOR X.K p H u0 o) : ReadS X W (tAsg t (gName i)) (sDNew o i) := by
  subst ht
  intro ph am σ H δ D ans δ' sr z k kx
  unfold sDNew at z
  intro p n
  split at z
  · rename_i c e3
    obtain ⟨h1, e4⟩ := if_some z
    cases e4
    exact k _ rfl (amPut am i p) _ _ (step_putU n) (sr.putDi e3 h1 n (hu _ _))
  · cases z
theorem ds_dnewT {x : Str} {pos' pd : Pos} (hN : X.N.Nodup) (hi : X.N[i]? = some x := by rfl) (hx : Loc X.env.scope x := by first | exact Or.inl rfl | exact Or.inr rfl) (hs : swapsWith (.Dict [] [] pd) (some (.Name x pos')) pos.line X.env = pure false := by rfl)
    (hf : X.fn x = true ∨ X.env.scope.names.lookup x = some .local := by first | exact .inl rfl | exact .inr rfl) : DS X W (.Assign [.Name x pos'] (.Dict [] [] pd) pos) (sDNew (.t []) i) :=
  ⟨⟨_, ps_set hN hi hx pe_dnewT hs hf, dnew_read rfl fun _ _ => ⟨rfl, .nil⟩⟩⟩
theorem ds_dnewK {x : Str} {pos' pd : Pos} (hN : X.N.Nodup) (hi : X.N[i]? = some x := by rfl) (hx : Loc X.env.scope x := by first | exact Or.inl rfl | exact Or.inr rfl) (hs : swapsWith (.Dict [] [] pd) (some (.Name x pos')) pos.line X.env = pure false := by rfl)
    (hf : X.fn x = true ∨ X.env.scope.names.lookup x = some .local := by first | exact .inl rfl | exact .inr rfl) : DS X W (.Assign [.Name x pos'] (.Dict [] [] pd) pos) (sDNew (.k []) i) :=
  ⟨⟨_, ps_set hN hi hx pe_dnewK hs hf, dnew_read rfl fun _ _ => ⟨rfl, .nil⟩⟩⟩

/-! ### looking up -/
def lookDi (o : DiO) (k : PyData) : Option (Option PyData) := match o with
  | .k kvs => (keyOf k).map (getA kvs)
  | .t kvs => (keysOf k).map (getA kvs)
  | .x _ _ => none
def putDi (o : DiO) (k d : PyData) : Option DiO := match o with
  | .k kvs => if kvs.length < sizeLine then (keyOf k).map fun q => .k (putA kvs q d) else none
  | .t kvs => if kvs.length < sizeLine then (keysOf k).map fun q => .t (putA kvs q d) else none
  | .x _ _ => none
theorem look_dget {k : PyData} {y : V} {r : Option PyData} (hu : H a = some u) (h : DOR K a (hid ph am H) u o) (hk : Dq K (hid ph am H) y k) (e : lookDi o k = some r) :
    (r = none ∧ DGet H a y none) ∨ ∃ w d, r = some d ∧ DGet H a y (some w) ∧ Dq K (hid ph am H) w d := by
  cases o with
  | x b fs => cases e
  | k kvs =>
    cases u with
    | dK us =>
      obtain ⟨q, e1, e2⟩ := Option.map_eq_some_iff.mp e
      have ey := keyOf_eq hk e1
      subst ey
      have g := DGet.k (k := q) hu
      rcases KR.get q (show KR K _ us kvs from h) with ⟨a1, a2⟩ | ⟨w, d, a1, a2, a3⟩
      · rw [a1] at e2
        rw [a2] at g
        exact .inl ⟨e2.symm, g⟩
      · rw [a1] at e2
        rw [a2] at g
        exact .inr ⟨w, d, e2.symm, g, a3⟩
    | _ => exact h.elim
  | t kvs =>
    cases u with
    | dT us =>
      obtain ⟨q, e1, e2⟩ := Option.map_eq_some_iff.mp e
      obtain ⟨b, ey, eb⟩ := keysOf_eq hk e1
      subst ey
      have g := DGet.t (k := q) hu eb
      rcases KR.get q (show KR K _ us kvs from h) with ⟨a1, a2⟩ | ⟨w, d, a1, a2, a3⟩
      · rw [a1] at e2
        rw [a2] at g
        exact .inl ⟨e2.symm, g⟩
      · rw [a1] at e2
        rw [a2] at g
        exact .inr ⟨w, d, e2.symm, g, a3⟩
    | _ => exact h.elim
theorem put_dput {k d : PyData} {y w : V} {o' : DiO} (hu : H a = some u) (h : DOR K a (hid ph am H) u o) (hk : Dq K (hid ph am H) y k) (hd : Dq K (hid ph am H) w d) (e : putDi o k d = some o') :
    ∃ u', DPut H a y w (upd H a u') ∧ DOR K a (hid ph am H) u' o' := by
  cases o with
  | x b fs => cases e
  | k kvs =>
    cases u with
    | dK us =>
      unfold putDi at e
      simp only at e
      by_cases hz : kvs.length < sizeLine
      case neg => rw [if_neg hz] at e; cases e
      rw [if_pos hz] at e
      obtain ⟨q, e1, e2⟩ := Option.map_eq_some_iff.mp e
      have ey := keyOf_eq hk e1
      subst ey
      subst e2
      have r : KR K _ us kvs := h
      exact ⟨_, DPut.k (k := q) hu (by rw [r.len]; exact hz), r.put hd q⟩
    | _ => exact h.elim
  | t kvs =>
    cases u with
    | dT us =>
      unfold putDi at e
      simp only at e
      by_cases hz : kvs.length < sizeLine
      case neg => rw [if_neg hz] at e; cases e
      rw [if_pos hz] at e
      obtain ⟨q, e1, e2⟩ := Option.map_eq_some_iff.mp e
      obtain ⟨b, ey, eb⟩ := keysOf_eq hk e1
      subst ey
      subst e2
      have r : KR K _ us kvs := h
      exact ⟨_, DPut.t (k := q) hu eb (by rw [r.len]; exact hz), r.put hd q⟩
    | _ => exact h.elim

/-! ### x[k] = e -/
def sDPut (f : M PyData) (i : Nat) (g : M PyData) : MS := bnd f fun d => fun δ1 => match δ1[i]? with
  | some (.od _) => (bnd g fun k => fun δ2 => match δ2[i]? with
    | some (.od o) => match putDi o k d with
      | some o' => some (.ok .nx, δ2.set i (.od o'))
      | none => none
    | _ => none) δ1
  | _ => none
theorem ds_dput {x : Str} {pn ps' : Pos} (hu : X.A.units + 1 < cLine) (he : DE X W e f) (hk : DE X W e2 g) (hN : X.N[i]? = some x := by rfl) (hv : Vis X.env.scope x := by first | exact Or.inl rfl | exact Or.inr (Or.inl rfl) | exact Or.inr (Or.inr rfl)) (hd : (x == ("__debug__" : Str)) = false := by decide) (hcd : (x == ("__classdict__" : Str)) = false := by decide)
    (hs : swapsWith e (some (.Subscript (.Name x pn) e2 ps')) pos.line X.env = pure false := by rfl) : DS X W (.Assign [.Subscript (.Name x pn) e2 ps'] e pos) (sDPut f i g) := by
  obtain ⟨t, pt, q1⟩ := he.ex
  obtain ⟨t2, p2, q2⟩ := hk.ex
  refine ⟨⟨_, L2.ps_dput hu (pe_var hN hv hd hcd) p2 pt hs, fun ph am σ H δ D ans δ' sr z k kx => ?_⟩⟩
  rcases bnd_some z with ⟨dd, δ1, e1, e2⟩ | ⟨c, fs, e1, e2⟩
  · refine q1 ph am σ H δ _ _ _ sr e1 (fun d' ed am1 w H1 st1 s1 d1 => ?_) (fun c fs z => by cases z)
    cases ed
    split at e2
    · rename_i o0 e3
      obtain ⟨a0, u0, o1, o2, o3, o4, o5⟩ := s1.od i o0 e3
      refine ⟨.ref a0, o2, ?_⟩
      rcases bnd_some e2 with ⟨n, δ2, e4, e5⟩ | ⟨c, fs, e4, e5⟩
      · refine q2 ph am1 σ H1 δ1 _ _ _ s1 e4 (fun d' ed am2 y H2 st2 s2 d2 => ?_) (fun c fs z => by cases z)
        cases ed
        split at e5
        · rename_i o e6
          split at e5
          · rename_i o' e7
            cases e5
            obtain ⟨a1, u1, r1, r2, r3, r4, r5⟩ := s2.od i o e6
            rw [o2] at r2
            cases r2
            obtain ⟨u', g1, g2⟩ := put_dput r3 r4 d2 (dp_mono st2.hid d1) e7
            exact ⟨a0, _, rfl, g1, k _ rfl am2 σ _ ((st1.trans st2).trans (step_mutU r1 r3)) (s2.mutDi e6 r1 g2)⟩
          · cases e5
        · cases e5
      · subst e5
        exact q2 ph am1 σ H1 δ1 _ _ _ s1 e4 (fun d ed => by cases ed) (fun c' fs' z => by cases z; exact ((kx _ _ rfl).step st1).at)
    · cases e2
  · subst e2
    exact q1 ph am σ H δ _ _ _ sr e1 (fun d ed => by cases ed) (fun c' fs' z => by cases z; exact (kx _ _ rfl).at)

/-! ### k in x, k not in x -/
def xDIn (neg : Bool) (g : M PyData) (i : Nat) : M Bool := bnd g fun k => fun δ1 => match δ1[i]? with
  | some (.od o) => match lookDi o k with
    | some r => some (.ok (r.isSome != neg), δ1)
    | none => none
  | _ => none
theorem dt_din {x : Str} {pn : Pos} (hu : X.A.units + 1 < cLine) (hk : DE X W e g) (hN : X.N[i]? = some x := by rfl) (hv : Vis X.env.scope x := by first | exact Or.inl rfl | exact Or.inr (Or.inl rfl) | exact Or.inr (Or.inr rfl)) (hd : (x == ("__debug__" : Str)) = false := by decide) (hcd : (x == ("__classdict__" : Str)) = false := by decide)
    (hm : behindInMarks .In (.Name x pn) = false := by rfl) : DT X W (.Compare e [.In] [.Name x pn] pos) (xDIn false g i) := by
  obtain ⟨t2, p2, q2⟩ := hk.ex
  refine ⟨⟨_, pt_cmp (pc_din hu p2 (pe_var hN hv hd hcd)) hm, fun ph am σ H δ Q ans δ' s z k kx => ?_⟩⟩
  rcases bnd_some z with ⟨n, δ1, e1, e2⟩ | ⟨c, fs, e1, e2⟩
  · refine q2 ph am σ H δ _ _ _ s e1 (fun d' ed am1 y H1 st1 s1 d1 => ?_) (fun c fs z => by cases z)
    cases ed
    split at e2
    · rename_i o e3
      obtain ⟨a0, u0, o1, o2, o3, o4, o5⟩ := s1.od i o e3
      refine ⟨.ref a0, o2, ?_⟩
      split at e2
      · rename_i r e4
        cases e2
        rcases look_dget o3 o4 d1 e4 with ⟨rfl, g1⟩ | ⟨w, d, rfl, g1, _⟩
        · exact ⟨a0, _, rfl, g1, _, rfl, k _ rfl am1 H1 st1 s1⟩
        · exact ⟨a0, _, rfl, g1, _, rfl, k _ rfl am1 H1 st1 s1⟩
      · cases e2
    · cases e2
  · subst e2
    exact q2 ph am σ H δ _ _ _ s e1 (fun d ed => by cases ed) (fun c' fs' z => by cases z; exact kx _ _ rfl)
theorem dt_dnotin {x : Str} {pn : Pos} (hu : X.A.units + 1 < cLine) (hk : DE X W e g) (hN : X.N[i]? = some x := by rfl) (hv : Vis X.env.scope x := by first | exact Or.inl rfl | exact Or.inr (Or.inl rfl) | exact Or.inr (Or.inr rfl)) (hd : (x == ("__debug__" : Str)) = false := by decide) (hcd : (x == ("__classdict__" : Str)) = false := by decide)
    (hm : behindInMarks .NotIn (.Name x pn) = false := by rfl) : DT X W (.Compare e [.NotIn] [.Name x pn] pos) (xDIn true g i) := by
  obtain ⟨t2, p2, q2⟩ := hk.ex
  refine ⟨⟨_, pt_cmp (pc_dnotin hu p2 (pe_var hN hv hd hcd)) hm, fun ph am σ H δ Q ans δ' s z k kx => ?_⟩⟩
  rcases bnd_some z with ⟨n, δ1, e1, e2⟩ | ⟨c, fs, e1, e2⟩
  · refine q2 ph am σ H δ _ _ _ s e1 (fun d' ed am1 y H1 st1 s1 d1 => ?_) (fun c fs z => by cases z)
    cases ed
    split at e2
    · rename_i o e3
      obtain ⟨a0, u0, o1, o2, o3, o4, o5⟩ := s1.od i o e3
      refine ⟨.ref a0, o2, ?_⟩
      split at e2
      · rename_i r e4
        cases e2
        rcases look_dget o3 o4 d1 e4 with ⟨rfl, g1⟩ | ⟨w, d, rfl, g1, _⟩
        · exact ⟨a0, _, rfl, g1, _, rfl, k _ rfl am1 H1 st1 s1⟩
        · exact ⟨a0, _, rfl, g1, _, rfl, k _ rfl am1 H1 st1 s1⟩
      · cases e2
    · cases e2
  · subst e2
    exact q2 ph am σ H δ _ _ _ s e1 (fun d ed => by cases ed) (fun c' fs' z => by cases z; exact kx _ _ rfl)

/-! ### x[k] -/
def xDGet (i : Nat) (g : M PyData) : M PyData := fun δ => match δ[i]? with
  | some (.od _) => (bnd g fun k => fun δ1 => match δ1[i]? with
    | some (.od o) => match lookDi o k with
      | some (some d) => some (.ok d, δ1)
      | _ => none
    | _ => none) δ
  | _ => none
theorem de_dget {x : Str} {pn : Pos} (hu : X.A.units + 1 < cLine) (hs : NoSl e2) (hk : DE X W e2 g) (hN : X.N[i]? = some x := by rfl) (hv : Vis X.env.scope x := by first | exact Or.inl rfl | exact Or.inr (Or.inl rfl) | exact Or.inr (Or.inr rfl)) (hd : (x == ("__debug__" : Str)) = false := by decide) (hcd : (x == ("__classdict__" : Str)) = false := by decide) :
    DE X W (.Subscript (.Name x pn) e2 pos) (xDGet i g) := by
  obtain ⟨t2, p2, q2⟩ := hk.ex
  refine ⟨⟨_, L2.pe_dget hu (pe_var hN hv hd hcd) p2 hs, fun ph am σ H δ Q ans δ' s z k kx => ?_⟩⟩
  unfold xDGet at z
  split at z
  · rename_i o0 e3
    obtain ⟨a0, u0, o1, o2, o3, o4, o5⟩ := s.od i o0 e3
    refine ⟨.ref a0, o2, ?_⟩
    rcases bnd_some z with ⟨n, δ1, e4, e5⟩ | ⟨c, fs, e4, e5⟩
    · refine q2 ph am σ H δ _ _ _ s e4 (fun d' ed am1 y H1 st1 s1 d1 => ?_) (fun c fs z => by cases z)
      cases ed
      split at e5
      · rename_i o e6
        obtain ⟨a1, u1, r1, r2, r3, r4, r5⟩ := s1.od i o e6
        rw [o2] at r2
        cases r2
        split at e5
        · rename_i d' e7
          cases e5
          rcases look_dget r3 r4 d1 e7 with ⟨e8, _⟩ | ⟨w, d2, e8, g1, g2⟩
          · cases e8
          · cases e8
            exact ⟨a0, w, rfl, g1, k _ rfl am1 w H1 st1 s1 g2⟩
        · cases e5
      · cases e5
    · subst e5
      exact q2 ph am σ H δ _ _ _ s e4 (fun d ed => by cases ed) (fun c' fs' z => by cases z; exact kx _ _ rfl)
  · cases z
end PD
end

section
set_option Elab.async false
set_option linter.all false
set_option maxRecDepth 100000
set_option maxHeartbeats 1000000
namespace PD
open PySem PySem.Spec PyProof.Rows L2
variable {X : Cx} {W : WX} {pos : Pos} {e e1 e2 e3 : Expr} {es : List Expr} {f g h : M PyData} {fs : M (List PyData)} {fb gb : M Bool}
variable {K : PySem.W.Frag} {ph : Fx} {am am' am1 : Am} {H H' H1 : Hp} {σ σ' : L2.St} {δ δ' δ1 : Sg} {a p p1 p2 : Addr} {v : V} {vs : List V} {d : PyData} {ds : List PyData} {i : Nat}

/-! ### a sort that the kernel can run -/
section
variable {α : Type}
def insBy (le : α → α → Bool) (x : α) : List α → List α
  | [] => [x]
  | y :: ys => cond (le x y) (x :: y :: ys) (y :: insBy le x ys)
def sortBy (le : α → α → Bool) : List α → List α
  | [] => []
  | x :: xs => insBy le x (sortBy le xs)
variable {le : α → α → Bool}
theorem insBy_mem {x y : α} : ∀ {l : List α}, y ∈ insBy le x l ↔ y = x ∨ y ∈ l
  | [] => by simp [insBy]
  | z :: l => by
    unfold insBy
    cases le x z with
    | true => simp
    | false =>
      simp only [cond_false, List.mem_cons, insBy_mem (l := l)]
      constructor
      · rintro (h | h | h)
        · exact .inr (.inl h)
        · exact .inl h
        · exact .inr (.inr h)
      · rintro (h | h | h)
        · exact .inr (.inl h)
        · exact .inl h
        · exact .inr (.inr h)
theorem insBy_sorted (h : PySem.W.TotalLe le) {x : α} : ∀ {l : List α}, l.Pairwise (fun a b => le a b = true) → (insBy le x l).Pairwise (fun a b => le a b = true)
  | [], _ => by simp [insBy]
  | y :: l, hs => by
    obtain ⟨h1, h2⟩ := List.pairwise_cons.mp hs
    unfold insBy
    cases e : le x y with
    | true =>
      refine List.pairwise_cons.mpr ⟨fun z hz => ?_, hs⟩
      rcases List.mem_cons.mp hz with rfl | hz
      · exact e
      · exact h.trans _ _ _ e (h1 z hz)
    | false =>
      refine List.pairwise_cons.mpr ⟨fun z hz => ?_, insBy_sorted h h2⟩
      rcases insBy_mem.mp hz with rfl | hz
      · rcases h.total z y with q | q
        · rw [e] at q; cases q
        · exact q
      · exact h1 z hz
theorem sortBy_sorted (h : PySem.W.TotalLe le) : ∀ l : List α, (sortBy le l).Pairwise (fun a b => le a b = true)
  | [] => .nil
  | x :: l => insBy_sorted h (sortBy_sorted h l)
theorem insBy_filter (h : PySem.W.TotalLe le) (c x : α) : ∀ l : List α, (insBy le x l).filter (PySem.W.sameRank le c) = (x :: l).filter (PySem.W.sameRank le c)
  | [] => rfl
  | y :: l => by
    unfold insBy
    cases e : le x y with
    | true => rfl
    | false =>
      show (y :: insBy le x l).filter _ = _
      have ih := insBy_filter h c x l
      cases ey : PySem.W.sameRank le c y with
      | false =>
        rw [List.filter_cons_of_neg (by rw [ey]; exact Bool.false_ne_true), ih, List.filter_cons, List.filter_cons, List.filter_cons_of_neg (by rw [ey]; exact Bool.false_ne_true)]
      | true =>
        have ex : PySem.W.sameRank le c x = false := by
          cases ex : PySem.W.sameRank le c x with
          | false => rfl
          | true =>
            unfold PySem.W.sameRank at ex ey
            rw [Bool.and_eq_true] at ex ey
            rw [h.trans _ _ _ ex.2 ey.1] at e
            cases e
        rw [List.filter_cons_of_pos ey, ih, List.filter_cons_of_neg (by rw [ex]; exact Bool.false_ne_true), List.filter_cons_of_neg (by rw [ex]; exact Bool.false_ne_true), List.filter_cons_of_pos ey]
theorem sortBy_filter (h : PySem.W.TotalLe le) (c : α) : ∀ l : List α, (sortBy le l).filter (PySem.W.sameRank le c) = l.filter (PySem.W.sameRank le c)
  | [] => rfl
  | x :: l => by
    rw [sortBy, insBy_filter h, List.filter_cons, List.filter_cons, sortBy_filter h c l]
theorem sortBy_eq (h : PySem.W.TotalLe le) (l : List α) : sortBy le l = l.mergeSort le := PySem.W.sort_unique h (sortBy_sorted h l) (fun c => sortBy_filter h c l)
end
def sortD (ds : List PyData) : List PyData := sortBy (PySem.W.dataLe false fun d => d) ds
theorem sortD_eq (ds : List PyData) : sortD ds = ds.mergeSort (PySem.W.dataLe false fun d => d) := sortBy_eq (PySem.W.sortLe_total _ _ _) ds
example : PyData.eqv (.list (sortD [.tuple [.int 3, .int 1], .tuple [.int 1, .int 2], .tuple [.int 1]])) (.list [.tuple [.int 1], .tuple [.int 1, .int 2], .tuple [.int 3, .int 1]]) = true := by decide +kernel

/-! ### sorted(xs), xs a list -/
def isRow : PyData → Bool
  | .tuple (_ :: _) => true
  | _ => false
def isRest : PyData → Bool
  | .none => false
  | .tuple _ => false
  | _ => true
def okSort (ds : List PyData) : Bool := (ds.all fun d => ds.all fun e => PySem.W.alike d e) && ((ds.all isRow || ds.all isRest) && (ds.all fun d => decide (d.depth ≤ 40) && true))
theorem okSort_is (h : okSort ds = true) : PySem.W.AllAlike ds ∧ PySem.W.Sortable ds ∧ ∀ d, d ∈ ds → d.depth ≤ 40 := by
  unfold okSort at h
  rw [Bool.and_eq_true, Bool.and_eq_true, Bool.or_eq_true] at h
  obtain ⟨h1, h2, h3⟩ := h
  refine ⟨fun d hd e he => List.all_eq_true.mp (List.all_eq_true.mp h1 d hd) e he, ?_, fun d hd => ?_⟩
  · rcases h2 with h2 | h2
    · refine .inl fun d hd => ?_
      have := List.all_eq_true.mp h2 d hd
      unfold isRow at this
      split at this
      · exact ⟨_, _, rfl⟩
      · cases this
    · refine .inr fun d hd => ?_
      have := List.all_eq_true.mp h2 d hd
      refine ⟨fun z => ?_, fun xs z => ?_⟩ <;> subst z <;> cases this
  · have := List.all_eq_true.mp h3 d hd
    simpa using this
def sortV (vs : List V) (ds : List PyData) : List V := ((vs.zip ds).mergeSort (PySem.W.dataLe false Prod.snd)).map (·.1)
theorem zip_snd {α β : Type} : ∀ {l : List α} {m : List β}, l.length = m.length → (l.zip m).map (·.2) = m
  | [], [], _ => rfl
  | a :: l, b :: m, h => by rw [List.zip_cons_cons, List.map_cons, zip_snd (by simpa using h)]
  | [], _ :: _, h => by simp at h
  | _ :: _, [], h => by simp at h
theorem DqAll.zip_mem : ∀ {vs : List V} {ds : List PyData}, DqAll K H vs ds → ∀ q, q ∈ vs.zip ds → Dq K H q.1 q.2
  | _, _, .nil, _, h => by simp at h
  | _, _, .cons g t, q, h => by
    rw [List.zip_cons_cons] at h
    rcases List.mem_cons.mp h with rfl | h
    · exact g
    · exact DqAll.zip_mem t q h
theorem DqAll.of_pairs : ∀ {l : List (V × PyData)}, (∀ q, q ∈ l → Dq K H q.1 q.2) → DqAll K H (l.map (·.1)) (l.map (·.2))
  | [], _ => .nil
  | q :: l, h => .cons (h q (List.mem_cons_self ..)) (DqAll.of_pairs fun r hr => h r (List.mem_cons_of_mem _ hr))
theorem DqAll.sort (h : DqAll K H vs ds) : DqAll K H (sortV vs ds) (sortD ds) := by
  have e : sortD ds = ((vs.zip ds).mergeSort (PySem.W.dataLe false Prod.snd)).map (·.2) := by
    have q := PySem.W.sort_maps (r := PySem.W.dataLe false Prod.snd) (s := PySem.W.dataLe false fun d => d) (Prod.snd : V × PyData → PyData) (l := vs.zip ds) (fun _ _ _ _ => rfl)
    rw [sortD_eq]
    refine Eq.trans ?_ q.symm
    rw [show (vs.zip ds).map Prod.snd = ds from zip_snd h.length]
  rw [e]
  exact DqAll.of_pairs fun q hq => h.zip_mem q (List.mem_mergeSort.mp hq)
theorem sortV_length (h : vs.length = ds.length) : (sortV vs ds).length = ds.length := by
  unfold sortV
  rw [List.length_map, List.length_mergeSort, List.length_zip, h, Nat.min_self]
def rSortDat (K : PySem.W.Frag) : List V → Hp → VK → Prop := fun xs H Q => ∃ a vs ds, xs = [V.ref a] ∧ SqL K H a vs ∧ L2.DpAll K H vs ds ∧ PySem.W.AllAlike ds ∧ PySem.W.Sortable ds ∧ (∀ d, d ∈ ds → d.depth ≤ 40) ∧
  ∀ p, H p = none → Q (.ref p) (upd H p (.lst (sortV vs ds)))
theorem each_zip {h : Heap} {R : Value → V × PyData → Prop} : ∀ {us : List Value} {vs : List V} {ds : List PyData} {as : List Addr}, Vals vs us → ReadsAll h us ds as → (∀ u v d bs, RelV v u → Reads h u d bs → R u (v, d)) → PySem.W.EachIs R us (vs.zip ds)
  | _, _, _, _, .nil, .nil, _ => .nil
  | _, _, _, _, .cons r t, .cons q s, k => .cons (k _ _ _ _ r q) (each_zip t s k)
theorem each_vals {R : Value → V × PyData → Prop} (k : ∀ u q, R u q → RelV q.1 u) : ∀ {us : List Value} {qs : List (V × PyData)}, PySem.W.EachIs R us qs → Vals (qs.map (·.1)) us
  | _, _, .nil => .nil
  | _, _, .cons h t => .cons (k _ _ h) (each_vals k t)
theorem cr_sortDat (hu : X.A.units + 65 < cLine) : CallR X (.builtin "sorted") (rSortDat X.K) := by
  intro pins s σ H vs us Q I r h
  obtain ⟨a, ws, ds, rfl, hs, hd, hal, hk, hdep, q⟩ := h
  obtain ⟨its, rv, hl, hz⟩ := I.list hs
  rw [Vals.ref1 r]
  obtain ⟨as, hr⟩ := Dp.readsAll I ds ws its hd rv
  have hlen : its.length = ds.length := SeqAt.ReadsAll.length ds its as hr
  have hwl : ws.length = its.length := rv.length
  have hz2 : (ws.zip ds).length = ds.length := by rw [List.length_zip, hwl, hlen, Nat.min_self]
  have hm : (ws.zip ds).map (·.2) = ds := zip_snd (by rw [hwl, hlen])
  refine PySem.W.sorted_data (β := V × PyData) (enc := (·.2)) (R := fun u q => RelV q.1 u) hl.isList (each_zip rv hr fun _ _ _ _ h _ => h) (each_zip rv hr fun _ _ _ bs _ h => ⟨bs, h⟩) (by rw [hm]; exact hal) (by rw [hm]; exact hk) (by rw [hz2, ← hlen, ← hwl]; exact hz) (fun b hb => ?_) fun out ho eo => ?_
  · have := hdep b.2 (by rw [← hm]; exact List.mem_map_of_mem hb)
    omega
  · obtain ⟨ep, he'⟩ := PyProof.Rows.sortedAll_at s.heap its out.toArray
    have hlen2 : (sortV ws ds).length ≤ sizeLine := by rw [sortV_length (by rw [hwl, hlen]), ← hlen, ← hwl]; exact hz
    exact ⟨.ref _, upd H (s.heap.objs.size + 1) (.lst (sortV ws ds)), I.laid (t' := s.toks) (fun _ _ => PyProof.Rows.sortedAll_old) (Nat.le_succ _) ⟨hlen2, out, ep, each_vals (fun _ _ h => h) eo, he'⟩, rfl, q _ (I.hok.fresh (Nat.le_succ _))⟩
def sortedF : List PyData → Option (List PyData)
  | [.list ds] => if okSort ds = true ∧ ds.length ≤ sizeLine then some (sortD ds) else none
  | _ => none
theorem callf_sort : CallF X (rSortDat X.K) sortedF := by
  intro ph am H xs ds c Q hn dx q k
  cases dx with
  | nil => cases q
  | cons h t =>
    cases t with
    | cons _ _ => cases h <;> cases q
    | nil =>
      cases h with
      | lst h1 a1 =>
        obtain ⟨⟨h2, h3⟩, rfl⟩ := if_some q
        obtain ⟨g1, g2, g3⟩ := okSort_is h2
        refine ⟨_, _, _, rfl, rd_hid h1, (dps_mono hid_sub a1).dp, g1, g2, g3, fun p np => k p _ np a1.sort (by rw [sortV_length a1.length]; exact h3)⟩
      | _ => cases q
end PD
end

section
set_option Elab.async false
set_option linter.all false
set_option maxRecDepth 100000
set_option maxHeartbeats 1000000
namespace PD
open PySem PySem.Spec PyProof.Rows L2
variable {X : Cx} {W : WX} {pos : Pos} {e e1 e2 e3 : Expr} {es : List Expr} {f g h : M PyData} {fs : M (List PyData)} {fb gb : M Bool}
variable {K : PySem.W.Frag} {ph : Fx} {am am' am1 : Am} {H H' H1 : Hp} {σ σ' : L2.St} {δ δ' δ1 : Sg} {a p p1 p2 : Addr} {v : V} {vs : List V} {d : PyData} {ds : List PyData} {i : Nat}

/-! ### sorted(d), d a dict whose keys are tuples -/
def keyDat : Key → PyData
  | .inl i => .int i
  | .inr s => .str s
def keyD (k : List Key) : PyData := .tuple (k.map keyDat)
theorem keyDat_q {H : Hp} : ∀ k : Key, Dq K H (kV k) (keyDat k)
  | .inl i => .int i
  | .inr s => .str s
theorem keysDat_q {H : Hp} : ∀ k : List Key, DqAll K H (k.map kV) (k.map keyDat)
  | [] => .nil
  | k :: ks => .cons (keyDat_q k) (keysDat_q ks)
theorem readsAll_flat {h : Heap} : ∀ {ks : List Key} {us : List Value} {as : List Addr}, ReadsAll h us (ks.map keyDat) as → as = []
  | [], _, _, r => by cases r; rfl
  | k :: ks, _, _, r => by
    rw [List.map_cons] at r
    cases r with
    | cons h1 h2 =>
      rw [readsAll_flat h2]
      cases k <;> cases h1 <;> rfl
theorem reads_flat {h : Heap} {k : List Key} {u : Value} {as : List Addr} (r : Reads h u (keyD k) as) : as = [] := by
  unfold keyD at r
  cases r with
  | tuple h1 h2 h3 h4 => exact readsAll_flat h4
abbrev TupsAt (H : Hp) (qs : List (Addr × List Key)) : Prop := ∀ q, q ∈ qs → H q.1 = some (.tup (q.2.map kV))
def rSortDi : List V → Hp → VK → Prop := fun xs H Q => ∃ (a : Addr) (kvs : List (List Key × V)), xs = [.ref a] ∧ H a = some (.dT kvs) ∧ PySem.W.AllAlike ((kvs.map (·.1)).map keyD) ∧ (PySem.W.Sortable ((kvs.map (·.1)).map keyD) ∨ (kvs.map (·.1)).map keyD = [.tuple []]) ∧ (∀ k, k ∈ kvs.map (·.1) → (keyD k).depth ≤ 40) ∧
  ∀ qs : List (Addr × List Key), TupsAt H qs → qs.map (·.2) = (kvs.map (·.1)).mergeSort (PySem.W.dataLe false keyD) → ∀ p, H p = none → Q (.ref p) (upd H p (.lst (qs.map fun q => .ref q.1)))
theorem kt_tups {kvs : List (List Key × V)} {xs : List (List Key × Addr × Value)} (r : KT H kvs xs) : TupsAt H (xs.map fun x => (x.2.1, x.1)) ∧ xs.map (·.1) = kvs.map (·.1) := by
  induction r with
  | nil => exact ⟨fun q hq => by simp at hq, rfl⟩
  | @cons p q ps qs h t ih =>
    refine ⟨fun b hb => ?_, ?_⟩
    · rw [List.map_cons] at hb
      rcases List.mem_cons.mp hb with rfl | hb
      · show H q.2.1 = some (.tup (q.1.map kV))
        rw [← h.1]
        exact h.2.1
      · exact ih.1 b hb
    · rw [List.map_cons, List.map_cons, ih.2, h.1]
theorem each_of {α β : Type} {R : α → β → Prop} : ∀ {us : List α} {qs : List β}, us.length = qs.length → (∀ (j : Nat) (u : α) (q : β), us[j]? = some u → qs[j]? = some q → R u q) → PySem.W.EachIs R us qs
  | [], [], _, _ => .nil
  | u :: us, q :: qs, hl, k => .cons (k 0 u q rfl rfl) (each_of (by simpa using hl) fun j u q h1 h2 => k (j + 1) u q (by simpa using h1) (by simpa using h2))
  | [], _ :: _, hl, _ => by simp at hl
  | _ :: _, [], hl, _ => by simp at hl
theorem each_refs : ∀ {us : List Value} {qs : List (Addr × List Key)}, PySem.W.EachIs (fun (u : Value) (q : Addr × List Key) => u = .ref q.1) us qs → Vals (qs.map fun q => V.ref q.1) us
  | _, _, .nil => .nil
  | _, _, .cons h t => .cons h (each_refs t)
theorem EachIs_and {α β : Type} {R S : α → β → Prop} : ∀ {us : List α} {qs : List β}, PySem.W.EachIs R us qs → (∀ u q, q ∈ qs → R u q → S u q) → PySem.W.EachIs S us qs
  | _, _, .nil, _ => .nil
  | _, _, .cons h t, k => .cons (k _ _ (List.mem_cons_self ..) h) (EachIs_and t fun u q hq r => k u q (List.mem_cons_of_mem _ hq) r)
/-! ### a list that holds () alone -/
theorem sorts_unit {prog : Program} {w : World} {A : Around} {s : Shared} {vs : List Value} {ds : List PyData} (e : PySem.W.EachIs (fun v d => ∃ as, Reads s.heap v d as) vs ds) (hd0 : ds = [.tuple []]) (hu : A.units + 1 < cLine) : PySem.W.SortsAt prog w A s (PySem.W.dataKind s.heap ds) vs := by
  have hal : PySem.W.AllAlike ds := fun d hd d' hd' => by
    subst hd0
    rw [List.mem_singleton.mp hd, List.mem_singleton.mp hd']
    simp [PySem.W.alike, PySem.W.alikeAll]
  refine ⟨fun v hv => ?_, PyProof.Rows.tuples' true, ?_, fun h2 => ?_⟩
  · obtain ⟨d, hd, as, r⟩ := e.left v hv
    exact ⟨_, PySem.W.dataKind_some hal hd r⟩
  · intro E x y a b Q ha hb hq
    obtain ⟨d, as, hd, ra, rfl⟩ := PySem.W.dataKind_inv ha
    obtain ⟨d', as', hd', rb, rfl⟩ := PySem.W.dataKind_inv hb
    subst hd0
    cases List.mem_singleton.mp hd
    cases List.mem_singleton.mp hd'
    have hq' : Q (PySem.W.dataLt (.tuple []) (.tuple [])) s := hq
    rw [PySem.W.dataLt_tuple] at hq'
    cases ra with
    | @tuple l o xs n _ _ h1 h2 h3 h4 =>
      cases rb with
      | @tuple l' o' xs' n' _ _ k1 k2 k3 k4 =>
        have n1 : xs.size = ([] : List PyData).length := by simpa using SeqAt.ReadsAll.length _ _ _ h4
        have n2 : xs'.size = ([] : List PyData).length := by simpa using SeqAt.ReadsAll.length _ _ _ k4
        exact PySem.W.kat_lt h1 h3 k1 k3 (PySem.W.katLex_alike [] [] 0 _ _ _ _ h4 k4 (by simp [PySem.W.alikeAll]) (by simp [PyData.depthAll]; omega) (fun _ _ x r t ex => by cases ex) (by rw [n1, n2]) hq')
  · have := PySem.W.EachIs.length e
    subst hd0
    simp at this
    omega
theorem list_sort_any {β : Type} {prog : Program} {w : World} {A : Around} {E : Value → Shared → Prop} {s : Shared} {vs : List Value} {bs : List β} {enc : β → PyData} {R : Value → β → Prop} {a : Addr} {n : Nat} {Q : Value → Shared → Prop} (ho : s.heap.get? a = some (seqObj "list" vs.toArray n)) (e : PySem.W.EachIs R vs bs) (er : PySem.W.EachIs (fun v b => ∃ as, Reads s.heap v (enc b) as ∧ a ∉ as) vs bs) (hal : PySem.W.AllAlike (bs.map enc)) (hk : PySem.W.Sortable (bs.map enc) ∨ bs.map enc = [.tuple []]) (hL : bs.length ≤ sizeLine)
    (hu : ∀ b, b ∈ bs → A.units + 1 + (enc b).depth < cLine) (h : ∀ out, out.length = bs.length → PySem.W.EachIs R out (bs.mergeSort (PySem.W.dataLe false enc)) → Q .none { s with heap := sortedHeap s.heap a vs (List.toArray out) }) :
    wpAny (model prog w) A (call (.builtin "list.sort") [.ref a]) Q E s := by
  rcases hk with hk | hk
  · exact PySem.W.list_sort_data ho e er hal hk hL hu h
  · have er' : PySem.W.EachIs (fun v b => ∃ as, Reads (PySem.W.sortingHeap s.heap a vs) v (enc b) as) vs bs := PySem.W.each_keepBut (h' := PySem.W.sortingHeap s.heap a vs) (fun _ _ hb q => PySem.W.sortingHeap_old hb q) (fun o q => by rw [ho] at q; rw [← Option.some.inj q]) hal er
    have hb1 : ∃ b, b ∈ bs := by
      cases bs with
      | nil => simp at hk
      | cons b bs => exact ⟨b, List.mem_cons_self ..⟩
    obtain ⟨b, hb⟩ := hb1
    have hu1 := hu b hb
    have hbe : enc b = .tuple [] := by
      have : enc b ∈ bs.map enc := List.mem_map_of_mem hb
      rw [hk] at this
      exact List.mem_singleton.mp this
    rw [hbe, show (PyData.tuple []).depth = 1 by simp [PyData.depth, PyData.depthAll]] at hu1
    refine wpAny_call_entry PyProof.Rows.slot_list_sort ⟨_, ho, rfl⟩ PyProof.Rows.entry_list_sort (PySem.W.list_sort_vals (κ := PySem.W.dataKind (PySem.W.sortingHeap s.heap a vs) (bs.map enc)) ho (sorts_unit (s := { s with heap := PySem.W.sortingHeap s.heap a vs }) (PySem.W.each_map (R := fun v d => ∃ as, Reads (PySem.W.sortingHeap s.heap a vs) v d as) enc er') hk ?_) ?_ ?_)
    · first | omega | (show A.units + 1 + 1 < cLine; omega)
    · rw [PySem.W.EachIs.length e]; exact hL
    · exact ⟨_, rfl, h _ (by rw [PySem.W.sortVals_length false rfl]; exact PySem.W.EachIs.length e) (PySem.W.sortVals_data false e er' hal)⟩
theorem cr_sortDi (hcalm : X.calm = true) (hu : X.A.units + 65 < cLine) : CallR X (.builtin "sorted") rSortDi := by
  intro pins s σ H vs us Q I r h
  obtain ⟨a, kvs, rfl, hd, hal, hk, hdep, q⟩ := h
  rw [Vals.ref1 r]
  obtain ⟨z, lo, xs, rel, o, es, ep, h1, h2, h3, h4, h5, h6⟩ := dt_of I.hok hd
  have hraw : s.heap.DictRaw a es ep := ⟨o, h1, h2, h3⟩
  obtain ⟨tq, ek⟩ := kt_tups rel
  have hes : es.size = xs.length := size_of_entries h4
  have hxl : xs.length = kvs.length := by
    have := congrArg List.length ek
    simpa using this
  let qs0 : List (Addr × List Key) := xs.map fun x => (x.2.1, x.1)
  have hq0 : qs0.length = kvs.length := by show (xs.map _).length = _; rw [List.length_map, hxl]
  have hqk : qs0.map (·.2) = kvs.map (·.1) := by
    show (xs.map fun x => (x.2.1, x.1)).map (·.2) = _
    rw [List.map_map, ← ek]
    rfl
  have henc : qs0.map (fun q => keyD q.2) = (kvs.map (·.1)).map keyD := by
    rw [← hqk]
    exact (List.map_map (f := fun q : Addr × List Key => q.2) (g := keyD) (l := qs0)).symm
  refine Calls.call_function_entry PyProof.Rows.kind_sorted PyProof.Rows.plain_sorted PyProof.Rows.entry_sorted (PyProof.Rows.args_sorted1 _) ?_
  unfold Builtin.«sorted»
  refine wpAny_bind (m := checkCount "sorted" 1 1 _) (wpAny_pure ?_)
  refine wpAny_bind (PySem.W.kdu_collect (A := X.A.in1) (KdlSrc.rawDict (es := es) (ep := ep) lo) (I.ok.hd hcalm) hraw (by rw [hes, hxl]; exact z) fun h' tk acc hk' hacc => ?_)
  have hal2 : acc.toList.length = qs0.length := by rw [Array.length_toList, hacc.1, hes, hq0, hxl]
  have I1 : Inv X pins σ H { s with heap := h', toks := tk } := I.kept hk'
  have hE : PySem.W.EachIs (fun (u : Value) (q : Addr × List Key) => u = .ref q.1) acc.toList qs0 := each_of hal2 fun j u q' e1 e2 => by
    obtain ⟨hi, e3⟩ := hacc.2 j u (by rw [← Array.getElem?_toList]; exact e1)
    rw [e3]
    have e4 := entry_at h4 j
    rw [Array.getElem?_eq_getElem hi] at e4
    have e5 : (xs.map fun x => (x.2.1, x.1))[j]? = some q' := e2
    rw [List.getElem?_map] at e5
    cases e6 : xs[j]? with
    | none => rw [e6] at e5; cases e5
    | some x =>
      rw [e6] at e4 e5
      cases e5
      rw [Option.some.inj e4]
      rfl
  refine wpAny_bind (wpAny_newList ?_ (by rw [hal2, hq0]; exact z))
  have hoL : (h'.push (seqObj "list" acc.toList.toArray 0)).get? h'.objs.size = some (seqObj "list" acc.toList.toArray 0) := Heap.get?_push_size _ rfl
  have I2 : Inv X pins σ H { s with heap := h'.push (seqObj "list" acc.toList.toArray 0), toks := tk } := I1.kept (s := { s with heap := h', toks := tk }) fun b u e => Heap.get?_push_of_some _ e
  have hEr : PySem.W.EachIs (fun (u : Value) (q : Addr × List Key) => ∃ as, Reads (h'.push (seqObj "list" acc.toList.toArray 0)) u (keyD q.2) as ∧ h'.objs.size ∉ as) acc.toList qs0 := EachIs_and hE fun u q hq eu => by
    subst eu
    have ht := tq q hq
    obtain ⟨as, hr⟩ := Dp.reads I2 (keyD q.2) (.ref q.1) (.ref q.1) (.tup (.inl (.inl ht)) (keysDat_q q.2).dp) rfl
    refine ⟨as, hr, ?_⟩
    rw [reads_flat hr]
    simp
  show wpAny _ _ _ _ _ { s with heap := h'.push (seqObj "list" acc.toList.toArray 0), toks := tk }
  refine wpAny_bind (wpAny_holding (list_sort_any (s := { s with heap := h'.push (seqObj "list" acc.toList.toArray 0), toks := tk }) (enc := fun q : Addr × List Key => keyD q.2) hoL hE hEr (by rw [henc]; exact hal) (by rw [henc]; exact hk) (by rw [hq0]; exact z) (fun b hb => ?_) fun out ho eo => ?_))
  · have e1 : b.2 ∈ kvs.map (·.1) := by rw [← hqk]; exact List.mem_map_of_mem hb
    have := hdep b.2 e1
    show X.A.units + 1 + 1 + (keyD b.2).depth < cLine
    omega
  · obtain ⟨e', he'⟩ := PyProof.Rows.sortedHeap_at (vs := acc.toList) (out := out.toArray) hoL
    have hlen : ((qs0.mergeSort (PySem.W.dataLe false fun q : Addr × List Key => keyD q.2)).map fun q => V.ref q.1).length ≤ sizeLine := by
      rw [List.length_map, List.length_mergeSort, hq0]; exact z
    refine wpAny_pure ⟨_, rfl, .ref h'.objs.size, upd H h'.objs.size (.lst ((qs0.mergeSort (PySem.W.dataLe false fun q : Addr × List Key => keyD q.2)).map fun q => V.ref q.1)), I1.laid (t' := tk) (fun b u e => ?_) (Nat.le_refl _)
      (show ObjOk X.prog X.w _ _ _ (.lst _) from ⟨hlen, out, e', each_refs eo, he'⟩), rfl, q _ (fun b hb => tq b (List.mem_mergeSort.mp hb)) ?_ _ (I1.hok.fresh (Nat.le_refl _))⟩
    · have hb : b < h'.objs.size := Heap.lt_size e
      rw [PyProof.Rows.sortedHeap_old (Nat.ne_of_lt hb) (by rw [size_push']; exact Nat.lt_succ_of_lt hb)]
      exact Heap.get?_push_of_some _ e
    · have e1 := PySem.W.sort_maps (r := PySem.W.dataLe false fun q : Addr × List Key => keyD q.2) (s := PySem.W.dataLe false keyD) (fun q : Addr × List Key => q.2) (l := qs0) (fun _ _ _ _ => rfl)
      exact e1.trans (by rw [hqk])
end PD
end

section
set_option Elab.async false
set_option linter.all false
set_option maxRecDepth 100000
set_option maxHeartbeats 1000000
namespace PD
open PySem PySem.Spec PyProof.Rows L2
variable {X : Cx} {W : WX} {pos : Pos} {e e1 e2 e3 : Expr} {es : List Expr} {f g h : M PyData} {fs : M (List PyData)} {fb gb : M Bool}
variable {K : PySem.W.Frag} {ph : Fx} {am am' am1 : Am} {H H' H1 : Hp} {σ σ' : L2.St} {δ δ' δ1 : Sg} {a p p1 p2 : Addr} {v : V} {vs : List V} {d : PyData} {ds : List PyData} {i : Nat}
theorem df_callB {id : String} {x : Str} {pf : Pos} {r : List V → Hp → VK → Prop} {F : List PyData → Option (List PyData)} (hr : CallF X r F) (hc : CallR X (.builtin id) r) (hm : X.mg x = none) (hv : bootBuiltins x = some (.builtin id)) (h : DA X W (e :: es) fs)
    (hg : Gl X x := by rfl) (hn : x ≠ "__name__" := by decide) (hdb : (x == ("__debug__" : Str)) = false := by decide)
    (he : starEach (e :: es) X.env = (false, eval e X.env) :: starEach es X.env := by rfl) (hpl : (backTo pos (starEach es X.env)).any (·.1) = false := by rfl) : DF X W (.Call (.Name x pf) (e :: es) [] pos) (xCallF F fs) :=
  callF_core hr h fun t pa => pe_callB hc hg hm hv pa hn hdb he hpl
/-- sorted(xs), xs any list -/
theorem df_sorted {pf : Pos} (hu : X.A.units + 65 < cLine) (hm : X.mg "sorted" = none) (h : DA X W [e] fs) (hg : Gl X "sorted" := by rfl)
    (he : starEach [e] X.env = (false, eval e X.env) :: starEach [] X.env := by rfl) (hpl : (backTo pos (starEach [] X.env)).any (·.1) = false := by rfl) : DF X W (.Call (.Name "sorted" pf) [e] [] pos) (xCallF sortedF fs) :=
  df_callB callf_sort (cr_sortDat hu) hm (by decide +kernel) h hg (by decide) (by decide) he hpl
/-- a list that holds () alone -/
def isUnit : List PyData → Bool
  | [.tuple []] => true
  | _ => false
theorem isUnit_is {ds : List PyData} (h : isUnit ds = true) : ds = [.tuple []] := by
  unfold isUnit at h
  split at h
  · rfl
  · cases h
theorem okUnit {ds : List PyData} (h : (okSort ds || isUnit ds) = true) : PySem.W.AllAlike ds ∧ (PySem.W.Sortable ds ∨ ds = [.tuple []]) ∧ ∀ d, d ∈ ds → d.depth ≤ 40 := by
  rcases Bool.or_eq_true _ _ ▸ h with h | h
  · obtain ⟨g1, g2, g3⟩ := okSort_is h
    exact ⟨g1, .inl g2, g3⟩
  · have := isUnit_is h
    subst this
    refine ⟨fun d hd d' hd' => ?_, .inr rfl, fun d hd => ?_⟩
    · rw [List.mem_singleton.mp hd, List.mem_singleton.mp hd']
      simp [PySem.W.alike, PySem.W.alikeAll]
    · rw [List.mem_singleton.mp hd]
      simp [PyData.depth, PyData.depthAll]
/-- sorted(x), x a dict of one's own whose keys are tuples -/
def xSortDi (i : Nat) : M (List PyData) := fun δ => match δ[i]? with
  | some (.od (.t kvs)) => if (okSort ((kvs.map (·.1)).map keyD) || isUnit ((kvs.map (·.1)).map keyD)) = true ∧ kvs.length ≤ sizeLine then some (.ok (sortD ((kvs.map (·.1)).map keyD)), δ) else none
  | _ => none
theorem tups_q (s : SR K ph am σ H δ) : ∀ {qs : List (Addr × List Key)}, TupsAt H qs → DqAll K (hid ph am H) (qs.map fun q => V.ref q.1) (qs.map fun q => keyD q.2)
  | [], _ => .nil
  | q :: qs, h => .cons (.tup (s.tup_seen (h q (List.mem_cons_self ..))) (keysDat_q q.2)) (tups_q s fun r hr => h r (List.mem_cons_of_mem _ hr))
theorem df_sortDi {x : Str} {pn pf : Pos} (hc : X.calm = true) (hu : X.A.units + 65 < cLine) (hm : X.mg "sorted" = none) (hN : X.N[i]? = some x := by rfl) (hv : Vis X.env.scope x := by first | exact Or.inl rfl | exact Or.inr (Or.inl rfl) | exact Or.inr (Or.inr rfl)) (hd : (x == ("__debug__" : Str)) = false := by decide) (hcd : (x == ("__classdict__" : Str)) = false := by decide) (hg : Gl X "sorted" := by rfl)
    (he : starEach [.Name x pn] X.env = (false, eval (.Name x pn) X.env) :: starEach [] X.env := by rfl) (hpl : (backTo pos (starEach [] X.env)).any (·.1) = false := by rfl) : DF X W (.Call (.Name "sorted" pf) [.Name x pn] [] pos) (xSortDi i) := by
  refine ⟨⟨_, pe_callB (cr_sortDi hc hu) hg hm (by decide +kernel) (pa_cons (pe_var hN hv hd hcd) pa_nil he) (by decide) (by decide) he hpl, fun ph am σ H δ Q ans δ' s z k kx => ?_⟩⟩
  unfold xSortDi at z
  split at z
  · rename_i kvs e3
    obtain ⟨⟨z1, z2⟩, e4⟩ := if_some z
    cases e4
    obtain ⟨a0, u0, o1, o2, o3, o4, o5⟩ := s.od i _ e3
    refine ⟨.ref a0, o2, ?_⟩
    cases u0 with
    | dT us =>
      obtain ⟨k1, k2⟩ := o4
      obtain ⟨g1, g2, g3⟩ := okUnit z1
      refine ⟨a0, us, rfl, o3, by rw [k1]; exact g1, by rw [k1]; exact g2, fun k hk => g3 _ (List.mem_map_of_mem (by rw [← k1]; exact hk)), fun qs t eq p np => ?_⟩
      have e5 : qs.map (fun q => keyD q.2) = sortD ((kvs.map (·.1)).map keyD) := by
        have e6 := PySem.W.sort_maps (r := PySem.W.dataLe false keyD) (s := PySem.W.dataLe false fun d => d) keyD (l := kvs.map (·.1)) (fun _ _ _ _ => rfl)
        rw [sortD_eq, ← e6, ← k1, ← eq]
        exact (List.map_map (f := fun q : Addr × List Key => q.2) (g := keyD) (l := qs)).symm
      have e7 : qs.length = kvs.length := by
        have := congrArg List.length eq
        rw [k1, List.length_map, List.length_mergeSort, List.length_map] at this
        exact this
      refine k _ rfl am p _ H np np Step.refl s ?_ (by rw [List.length_map, e7]; exact z2)
      rw [← e5]
      exact tups_q s t
    | _ => exact o4.elim
  · cases z
end PD
end

section
set_option Elab.async false
set_option linter.all false
set_option maxRecDepth 100000
set_option maxHeartbeats 1000000
namespace PD
open PySem PySem.Spec PyProof.Rows L2
variable {X : Cx} {W : WX} {pos : Pos} {e e1 e2 e3 : Expr} {es : List Expr} {f g h : M PyData} {fs : M (List PyData)} {fb gb : M Bool}
variable {K : PySem.W.Frag} {ph : Fx} {am am' am1 : Am} {H H' H1 : Hp} {σ σ' : L2.St} {δ δ' δ1 : Sg} {a p p1 p2 : Addr} {v : V} {vs : List V} {d : PyData} {ds : List PyData} {i : Nat}
theorem hu1 {A : Around} {k : Nat} (hr : Room k A) : A.units + 1 < cLine := by have := hr.un; omega
theorem hu65 {A : Around} {k : Nat} (hr : Room k A) : A.units + 65 < cLine := by have := hr.un; omega
/-! ### x, y = a new list, {} -/
def sPar2D (fs : M (List PyData)) (o : DiO) (i j : Nat) : MS := bnd fs fun ds => fun δ => match δ[i]? with
  | some c => if c.free = true then (match (δ.set i (.ow false ds))[j]? with
    | some c2 => if c2.free = true then some (.ok .nx, (δ.set i (.ow false ds)).set j (.od o)) else none
    | none => none) else none
  | none => none
theorem par2D_core {x y : Str} {px py pt pd : Pos} {kt k2 pt2} {o : DiO} {u0 : HO} {t2 : TE} (p2 : PE X (.Dict [] [] pd) t2) (ht : t2 = fun _ H Q => ∀ p, H p = none → Q (.ref p) (upd H p u0)) (hu : ∀ H p, DOR X.K p H u0 o)
    (hc : X.calm = true) (hN : X.N.Nodup) (he1 : DF X W e1 fs) (hi : X.N[i]? = some x := by rfl) {j : Nat} (hj : X.N[j]? = some y := by rfl) (hij : i ≠ j := by decide)
    (hx : X.env.scope.names.lookup x = some .local := by rfl) (hy : X.env.scope.names.lookup y = some .local := by rfl)
    (hw : swappedStores [.Tuple [.Name x px, .Name y py] kt pt] (.Tuple [e1, .Dict [] [] pd] k2 pt2) X.env = pure (some [x, y]) := by rfl)
    (hs : swapsWithSole [.Tuple [.Name x px, .Name y py] kt pt] (.Tuple [e1, .Dict [] [] pd] k2 pt2) pos.line X.env = pure false := by rfl)
    (hs1 : starEach [e1, .Dict [] [] pd] X.env = (false, eval e1 X.env) :: starEach [.Dict [] [] pd] X.env := by rfl) (hs2 : starEach [.Dict [] [] pd] X.env = (false, eval (.Dict [] [] pd) X.env) :: starEach [] X.env := by rfl) :
    DS X W (.Assign [.Tuple [.Name x px, .Name y py] kt pt] (.Tuple [e1, .Dict [] [] pd] k2 pt2) pos) (sPar2D fs o i j) := by
  subst ht
  obtain ⟨t1, p1, q1⟩ := he1.ex
  refine ⟨⟨_, ps_par hc hN hi hj hij hx hy (pa_cons p1 (pa_cons p2 pa_nil hs2) hs1) hw hs, fun ph am σ H δ D ans δ' s z k kx => ?_⟩⟩
  rcases bnd_some z with ⟨ds, δ1, e1, e2⟩ | ⟨c, fs, e1, e2⟩
  · refine q1 ph am σ H δ _ _ _ s e1 (fun d' ed am1 p vs H1 n0 n1 st1 s1 dv hz => ?_) (fun c fs z => by cases z)
    cases ed
    intro q nq
    split at e2
    · rename_i c e3
      split at e2
      · rename_i h1
        split at e2
        · rename_i c2 e4
          obtain ⟨h2, e5⟩ := if_some e2
          cases e5
          have s2 := s1.putOwn e3 h1 n1 dv hz
          have s3 := s2.putDi (u := u0) (o := o) e4 h2 nq (hu _ _)
          exact ⟨_, _, rfl, k _ rfl _ _ _ ((st1.trans (step_put n1)).trans (step_putU nq)) s3⟩
        · cases e2
      · cases e2
    · cases e2
  · subst e2
    exact q1 ph am σ H δ _ _ _ s e1 (fun d ed => by cases ed) (fun c' fs' z => by cases z; exact (kx _ _ rfl).at)
theorem ds_par2K {x y : Str} {px py pt pd : Pos} {kt k2 pt2} (hc : X.calm = true) (hN : X.N.Nodup) (he1 : DF X W e1 fs) (hi : X.N[i]? = some x := by rfl) {j : Nat} (hj : X.N[j]? = some y := by rfl) (hij : i ≠ j := by decide)
    (hx : X.env.scope.names.lookup x = some .local := by rfl) (hy : X.env.scope.names.lookup y = some .local := by rfl)
    (hw : swappedStores [.Tuple [.Name x px, .Name y py] kt pt] (.Tuple [e1, .Dict [] [] pd] k2 pt2) X.env = pure (some [x, y]) := by rfl)
    (hs : swapsWithSole [.Tuple [.Name x px, .Name y py] kt pt] (.Tuple [e1, .Dict [] [] pd] k2 pt2) pos.line X.env = pure false := by rfl)
    (hs1 : starEach [e1, .Dict [] [] pd] X.env = (false, eval e1 X.env) :: starEach [.Dict [] [] pd] X.env := by rfl) (hs2 : starEach [.Dict [] [] pd] X.env = (false, eval (.Dict [] [] pd) X.env) :: starEach [] X.env := by rfl) :
    DS X W (.Assign [.Tuple [.Name x px, .Name y py] kt pt] (.Tuple [e1, .Dict [] [] pd] k2 pt2) pos) (sPar2D fs (.k []) i j) :=
  par2D_core (o := .k []) (u0 := .dK []) pe_dnewK rfl (fun _ _ => ⟨rfl, .nil⟩) hc hN he1 hi hj hij hx hy hw hs hs1 hs2
theorem ds_par2T {x y : Str} {px py pt pd : Pos} {kt k2 pt2} (hc : X.calm = true) (hN : X.N.Nodup) (he1 : DF X W e1 fs) (hi : X.N[i]? = some x := by rfl) {j : Nat} (hj : X.N[j]? = some y := by rfl) (hij : i ≠ j := by decide)
    (hx : X.env.scope.names.lookup x = some .local := by rfl) (hy : X.env.scope.names.lookup y = some .local := by rfl)
    (hw : swappedStores [.Tuple [.Name x px, .Name y py] kt pt] (.Tuple [e1, .Dict [] [] pd] k2 pt2) X.env = pure (some [x, y]) := by rfl)
    (hs : swapsWithSole [.Tuple [.Name x px, .Name y py] kt pt] (.Tuple [e1, .Dict [] [] pd] k2 pt2) pos.line X.env = pure false := by rfl)
    (hs1 : starEach [e1, .Dict [] [] pd] X.env = (false, eval e1 X.env) :: starEach [.Dict [] [] pd] X.env := by rfl) (hs2 : starEach [.Dict [] [] pd] X.env = (false, eval (.Dict [] [] pd) X.env) :: starEach [] X.env := by rfl) :
    DS X W (.Assign [.Tuple [.Name x px, .Name y py] kt pt] (.Tuple [e1, .Dict [] [] pd] k2 pt2) pos) (sPar2D fs (.t []) i j) :=
  par2D_core (o := .t []) (u0 := .dT []) pe_dnewT rfl (fun _ _ => ⟨rfl, .nil⟩) hc hN he1 hi hj hij hx hy hw hs hs1 hs2
/-! ### sorted(set(xs)), xs a list of ints: what it gives -/
def intsOf : List PyData → Option (List Int)
  | [] => some []
  | .int i :: ds => (intsOf ds).map (i :: ·)
  | _ => none
def insI (x : Int) : List Int → List Int
  | [] => [x]
  | y :: ys => cond (decide (x < y)) (x :: y :: ys) (cond (decide (x = y)) (y :: ys) (y :: insI x ys))
def setI : List Int → List Int
  | [] => []
  | x :: xs => insI x (setI xs)
def sortSetF : List PyData → Option (List PyData)
  | [.list ds] => match intsOf ds with
    | some ns => if ns.length < 64 then some ((setI ns).map .int) else none
    | none => none
  | _ => none
theorem insI_mem {x y : Int} : ∀ {l : List Int}, y ∈ insI x l ↔ y = x ∨ y ∈ l
  | [] => by simp [insI]
  | z :: l => by
    unfold insI
    by_cases h1 : x < z
    · rw [decide_eq_true h1, cond_true, List.mem_cons]
    · rw [decide_eq_false h1, cond_false]
      by_cases h2 : x = z
      · rw [decide_eq_true h2, cond_true, h2]
        simp
      · rw [decide_eq_false h2, cond_false, List.mem_cons, insI_mem (l := l), List.mem_cons]
        constructor
        · rintro (h | h | h)
          · exact .inr (.inl h)
          · exact .inl h
          · exact .inr (.inr h)
        · rintro (h | h | h)
          · exact .inr (.inl h)
          · exact .inl h
          · exact .inr (.inr h)
theorem insI_sorted {x : Int} : ∀ {l : List Int}, l.Pairwise (· < ·) → (insI x l).Pairwise (· < ·)
  | [], _ => by simp [insI]
  | y :: l, hs => by
    obtain ⟨h1, h2⟩ := List.pairwise_cons.mp hs
    unfold insI
    by_cases g1 : x < y
    · rw [decide_eq_true g1, cond_true]
      refine List.pairwise_cons.mpr ⟨fun z hz => ?_, hs⟩
      rcases List.mem_cons.mp hz with rfl | hz
      · exact g1
      · have := h1 z hz; omega
    · rw [decide_eq_false g1, cond_false]
      by_cases g2 : x = y
      · rw [decide_eq_true g2, cond_true]; exact hs
      · rw [decide_eq_false g2, cond_false]
        refine List.pairwise_cons.mpr ⟨fun z hz => ?_, insI_sorted h2⟩
        rcases insI_mem.mp hz with rfl | hz
        · omega
        · exact h1 z hz
theorem setI_sorted : ∀ l : List Int, (setI l).Pairwise (· < ·)
  | [] => .nil
  | _ :: l => insI_sorted (setI_sorted l)
theorem setI_mem {y : Int} : ∀ {l : List Int}, y ∈ setI l ↔ y ∈ l
  | [] => by simp [setI]
  | x :: l => by rw [setI, insI_mem, setI_mem (l := l), List.mem_cons]
/-- a list in order without repeats is known by its members -/
theorem lt_unique : ∀ {l m : List Int}, l.Pairwise (· < ·) → m.Pairwise (· < ·) → (∀ y, y ∈ l ↔ y ∈ m) → l = m
  | [], [], _, _, _ => rfl
  | [], b :: m, _, _, h => by have := (h b).mpr (List.mem_cons_self ..); simp at this
  | a :: l, [], _, _, h => by have := (h a).mp (List.mem_cons_self ..); simp at this
  | a :: l, b :: m, hl, hm, h => by
    obtain ⟨l1, l2⟩ := List.pairwise_cons.mp hl
    obtain ⟨m1, m2⟩ := List.pairwise_cons.mp hm
    have e : a = b := by
      rcases List.mem_cons.mp ((h a).mp (List.mem_cons_self ..)) with e | q
      · exact e
      · rcases List.mem_cons.mp ((h b).mpr (List.mem_cons_self ..)) with e | r
        · exact e.symm
        · have := l1 b r; have := m1 a q; omega
    subst e
    rw [lt_unique l2 m2 fun y => ?_]
    have hy := h y
    rw [List.mem_cons, List.mem_cons] at hy
    constructor
    · intro q
      rcases hy.mp (.inr q) with e | r
      · have := l1 y q; omega
      · exact r
    · intro q
      rcases hy.mpr (.inr q) with e | r
      · have := m1 y q; omega
      · exact r
end PD
end

section
set_option Elab.async false
set_option linter.all false
set_option maxRecDepth 100000
set_option maxHeartbeats 3200000
namespace PD
open PySem PySem.Spec PyProof.Rows L2
section
variable {P : Program} {w : World} {A : Around} {E : Value → Shared → Prop} {s : Shared}
/-- a new set -/
abbrev setNew (w : World) : Obj := { cls := .type "set", dict := none, data := .set #[] 0 (.fresh 0 0 (!w.params.followText "set-order")) }
/-- what is known behind set(xs): the set, all else as it was -/
def MadeSet (w : World) (s : Shared) (ns : List Int) (s' : Shared) : Prop := ∃ h' tk c, s' = { s with heap := h', toks := tk } ∧ SetR w h' s.heap.objs.size (fun j => decide (j ∈ ns)) c ∧ c ≤ ns.length ∧ ∀ b o, s.heap.get? b = some o → h'.get? b = some o
/-- the loop that takes the items up -/
theorem take_up {l : Addr} {items : Array Value} {ns : List Int} (hh : A.handled = none) (hl : s.heap.IsList l items) (hit : IntsAre items.toList ns) (hb : ns.length + 1 < scanBound) :
    wpAny (model P w) A (pyIter (.ref l)) (fun it s1 => wpAny (model P w) A (runValue (.builtin "set.update.loop" ⟨[.ref s.heap.objs.size, it], []⟩)) (fun r s' => r = .none ∧ MadeSet w s ns s') E s1) E { s with heap := s.heap.push (setNew w) } := by
  have hisz : items.size = ns.length := by
    have q := IntsAre.length hit
    rwa [Array.length_toList] at q
  have hl1 : (s.heap.push (setNew w)).IsList l items := by
    obtain ⟨o, ho, r⟩ := hl
    exact ⟨o, Heap.get?_push_of_some _ ho, r⟩
  have hlS : l < s.heap.objs.size := by
    obtain ⟨o, ho, _⟩ := hl
    exact Heap.lt_size ho
  have z1 : (s.heap.push (setNew w)).objs.size = s.heap.objs.size + 1 := Heap.size_push ..
  have n1 : l ≠ (s.heap.push (setNew w)).objs.size := by
    rw [z1]; exact Nat.ne_of_lt (Nat.lt_succ_of_lt hlS)
  have n2 : s.heap.objs.size ∉ [(s.heap.push (setNew w)).objs.size, l] := by
    rw [z1]
    simp only [List.mem_cons, List.not_mem_nil, or_false, not_or]
    exact ⟨Nat.ne_of_lt (Nat.lt_succ_self _), Nat.ne_of_gt hlS⟩
  refine wpAny_pyIter_list hl1 ?_
  refine wpAny_runValue ?_
  refine set_update_ints ((Walks.list (A := A.in1) (by simpa using hh) (s.heap.push (setNew w)).objs.size l n1 items).toS) s.heap.objs.size n2 ns hisz hb (fun i v hv => ?_)
    (items.size - 0) 0 _ (by omega) (Nat.zero_le _) ⟨⟨_, Heap.get?_push_size _ rfl, rfl, rfl⟩, ?_⟩ ⟨0, Nat.le_refl 0, setR_new_at (Heap.get?_push_of_some _ (Heap.get?_push_size _ rfl))⟩ fun s' c hm hc hS => ?_
  · have hi : i < ns.length := by rw [← hisz]; exact (Array.getElem?_eq_some_iff.mp hv).1
    obtain ⟨t, e⟩ := PyProof.Rows.IntsAre.int_at hit i v (by rw [Array.getElem?_toList]; exact hv)
    exact ⟨ns[i], t, List.getElem?_eq_getElem hi, by rw [e, List.getD_eq_getElem?_getD, List.getElem?_eq_getElem hi]; rfl⟩
  · obtain ⟨o, ho, r⟩ := hl1
    exact ⟨o, Heap.get?_push_of_some _ ho, r⟩
  · obtain ⟨h', g2, d', tk', os'⟩ := s'
    have eg : g2 = s.gens := hm.gens
    have ed : d' = s.drawn := hm.drawn
    have eo : os' = s.os := hm.os
    subst eg; subst ed; subst eo
    refine ⟨rfl, h', tk', c, rfl, hS, by rw [← hisz]; exact hc, fun b o e => ?_⟩
    have hb0 : b < s.heap.objs.size := Heap.lt_size e
    refine hm.heap b o ?_ (Heap.get?_push_of_some _ (Heap.get?_push_of_some _ e))
    rw [z1]
    simp only [List.mem_cons, List.not_mem_nil, or_false, not_or]
    exact ⟨Nat.ne_of_lt hb0, Nat.ne_of_lt (Nat.lt_succ_of_lt hb0)⟩
/-- set(xs), xs a list of ints -/
theorem set_ints {l : Addr} {items : Array Value} {ns : List Int} {Q : Value → Shared → Prop} (hh : A.handled = none) (hl : s.heap.IsList l items) (hit : IntsAre items.toList ns) (hb : ns.length + 1 < scanBound)
    (h : ∀ s', MadeSet w s ns s' → Q (.ref s.heap.objs.size) s') : wpAny (model P w) A (call (.type "set") [.ref l]) Q E s := by
  obtain ⟨c, tl, hmro⟩ := F.called_set.mro
  have hmade := F.called_set.made
  have hsub := F.called_set.sub
  have h1 := F.called_set.notType
  have h2 := F.called_set.canCreate
  have hct := F.typeCall_set_1 (.ref l)
  refine wpAny_call (codeAny_of_tree (wpAny_pure ⟨Code.quiet_builtin _ (by decide +kernel), codeAny_builtin F.entry_type_call ?_⟩))
  rw [Around.under_plain (weight_type_call_type "set" [.ref l] []) rfl]
  repeat (any_goals (first | assumption | wp_step))
  refine codeAny_mono (code_set_led1 (.ref l) (E := E) (Q₁ := fun obj s₁ => obj = .ref s.heap.objs.size ∧ s₁ = { s with heap := s.heap.push (setNew w) }) ⟨rfl, rfl⟩) fun r s₁ hr => ?_
  match r, hr with
  | .error e, hr => exact hr
  | .ok (.ret obj), hr =>
    obtain ⟨rfl, rfl⟩ := hr
    have hT : Shared.TypeIs { s with heap := s.heap.push (setNew w) } (.ref s.heap.objs.size) "set" := ⟨_, Heap.get?_push_size _ rfl, rfl⟩
    have hli := F.called_set.init.lookup
    have hbi := F.called_set.init.bind (.ref s.heap.objs.size)
    repeat (any_goals (first | assumption | wp_step))
    refine codeAny_mono (codeAny_call_builtin (R := wants (fun r s' => r = .none ∧ MadeSet w s ns s') E) F.called_set.init.plain F.entry_set_init (check_set_init_1 hT ?_)) fun r₂ s₂ hr₂ => ?_
    · have ht := fun (A' : Around) (hA : A'.handled = none) => take_up (P := P) (w := w) (A := A') (E := E) (s := s) hA hl hit hb
      obtain ⟨⟨ocls, odict, odata, oslots⟩, hol, hcl, nl, hdl⟩ := hl
      simp only at hcl hdl
      subst hcl; subst hdl
      have hol' : (s.heap.push (setNew w)).get? l = some { cls := .type "list", dict := odict, data := .seq items nl, slots := oslots } := Heap.get?_push_of_some _ hol
      have f1 := F.sub_list_set
      have f2 := F.sub_list_frozenset
      have f3 : (Value.type "list" == Value.type "dict") = false := by decide
      unfold Builtin.«set.__init__» noKeywords Builtin.Frozenset.updateFrom
      generalize hPI : pyIter = PI at ht ⊢
      wp_walk
      refine wpAny_mono (ht _ (by simpa using hh)) (fun a s1 q => ?_) (fun _ _ e => e)
      refine wpAny_bind (wpAny_mono q (fun r s2 m => ?_) (fun _ _ e => e))
      refine wpAny_pure ?_
      show wpAny _ _ (PySem.ret Value.none) _ _ _
      exact wpAny_pure ⟨rfl, m.2⟩
    · match r₂, hr₂ with
      | .error e, hr₂ => exact hr₂
      | .ok (.ret r), hr₂ =>
        obtain ⟨rfl, hm⟩ := hr₂
        repeat (any_goals (first | assumption | wp_step))
        exact h _ hm
end
variable {X : Cx} {W : WX} {pos : Pos} {e : Expr} {es : List Expr} {fs : M (List PyData)}
variable {K : PySem.W.Frag} {ph : Fx} {am : Am} {H : Hp} {vs : List V} {ds : List PyData}
def rSetI (K : PySem.W.Frag) (w : World) : List V → Hp → VK → Prop := fun xs H Q => ∃ (l : Addr) (ns : List Int), xs = [V.ref l] ∧ SqL K H l (ns.map V.int) ∧ ns.length < 64 ∧
  ∀ a c, H a = none → c ≤ ns.length → Q (.ref a) (upd H a (SetO w a (fun j => decide (j ∈ ns)) c))
theorem cr_setI (hc : X.calm = true) : CallR X (.type "set") (rSetI X.K X.w) := by
  intro pins s σ H xs us Q I r h
  obtain ⟨l, ns, rfl, hl, hf, q⟩ := h
  rw [Vals.ref1 r]
  obtain ⟨its, rv, pl, hz⟩ := I.list hl
  refine set_ints (I.ok.hd hc) pl.isList (ns := ns) (by simpa using rv.ints) (by unfold scanBound; omega) fun s' m => ?_
  obtain ⟨h', tk, c, rfl, R, hle, k⟩ := m
  exact ⟨.ref s.heap.objs.size, upd H s.heap.objs.size (SetO X.w s.heap.objs.size _ c), I.laid (t' := tk) k (Nat.le_refl _) (setO_new R), rfl, q _ c (I.hok.fresh (Nat.le_refl _)) hle⟩
theorem intsOf_q : ∀ {vs : List V} {ds : List PyData} {ns : List Int}, DqAll K H vs ds → intsOf ds = some ns → vs = ns.map V.int
  | _, _, _, .nil, e => by cases e; rfl
  | _, _, _, .cons h t, e => by
    cases h with
    | int i =>
      obtain ⟨ns, e1, rfl⟩ := Option.map_eq_some_iff.mp e
      rw [intsOf_q t e1]
      rfl
    | _ => cases e
theorem ints_q : ∀ ns : List Int, DqAll K H (ns.map V.int) (ns.map .int)
  | [] => .nil
  | n :: ns => .cons (.int n) (ints_q ns)
theorem setI_length : ∀ l : List Int, (setI l).length ≤ l.length := by
  have h : ∀ (x : Int) (l : List Int), (insI x l).length ≤ l.length + 1 := by
    intro x l
    induction l with
    | nil => simp [insI]
    | cons y l ih =>
      unfold insI
      cases decide (x < y) with
      | true => simp
      | false =>
        cases decide (x = y) with
        | true => simp
        | false => simpa using ih
  intro l
  induction l with
  | nil => simp [setI]
  | cons x l ih =>
    have := h x (setI l)
    rw [setI, List.length_cons]
    omega
/-- sorted(set(xs)), xs a list of fewer than 64 ints -/
theorem df_sortSet {pf ps p2 : Pos} (hc : X.calm = true) (hu : X.A.units + 65 < cLine) (hm : X.mg "sorted" = none) (hm2 : X.mg "set" = none) (h : DA X W [e] fs) (hg : Gl X "sorted" := by rfl) (hg2 : Gl X "set" := by rfl)
    (he : starEach [e] X.env = (false, eval e X.env) :: starEach [] X.env := by rfl) (hpl : (backTo p2 (starEach [] X.env)).any (·.1) = false := by rfl)
    (he2 : starEach [.Call (.Name "set" ps) [e] [] p2] X.env = (false, eval (.Call (.Name "set" ps) [e] [] p2) X.env) :: starEach [] X.env := by rfl) (hpl2 : (backTo pos (starEach [] X.env)).any (·.1) = false := by rfl) :
    DF X W (.Call (.Name "sorted" pf) [.Call (.Name "set" ps) [e] [] p2] [] pos) (xCallF sortSetF fs) := by
  obtain ⟨t, pt, qt⟩ := h.ex
  refine ⟨⟨_, pe_callB (cr_sortedSet hc) hg hm (by decide +kernel) (pa_cons (pe_callTy (cr_setI hc) hg2 hm2 (by decide +kernel) pt (by decide) (by decide) he hpl) pa_nil he2) (by decide) (by decide) he2 hpl2, fun ph am σ H δ Q ans δ' s z k kx => ?_⟩⟩
  rcases bnd_some z with ⟨xs, δ1, e1, e2⟩ | ⟨c, fs, e1, e2⟩
  · refine qt ph am σ H δ _ _ _ s e1 (fun d' ed am1 us H1 st1 s1 dv => ?_) (fun c fs z => by cases z)
    cases ed
    obtain ⟨rs, e3, rfl, rfl⟩ := lif_some e2
    cases dv with
    | nil => cases e3
    | cons g t =>
      cases t with
      | cons _ _ => cases g <;> cases e3
      | nil =>
        cases g with
        | lst h1 a1 =>
          unfold sortSetF at e3
          simp only at e3
          split at e3
          · rename_i ns e4
            obtain ⟨hz, rfl⟩ := if_some e3
            have ev := intsOf_q a1 e4
            subst ev
            refine ⟨_, ns, rfl, rd_hid h1, hz, fun a c na hle => ?_⟩
            have sm : Same H1 (upd H1 a (SetO X.w a (fun j => decide (j ∈ ns)) c)) := same_new na
            refine ⟨a, _, c, rfl, upd_same, by omega, fun ms p hs hms hl np => ?_⟩
            have em : ms = setI ns := lt_unique hs (setI_sorted ns) fun y => by rw [hms y, setI_mem]; simp
            subst em
            have st := st1.trans (Step.of (am := am1) sm)
            exact k _ rfl am1 p _ _ (st.none np) np st (s1.same sm) (ints_q _) (by rw [List.length_map, sizeLine_eq]; have := setI_length ns; omega)
          · cases e3
        | _ => cases e3
  · subst e2
    exact qt ph am σ H δ _ _ _ s e1 (fun d ed => by cases ed) (fun c' fs' z => by cases z; exact kx _ _ rfl)
/-! ### x, y = e, a new list that y is to own -/
def sPar2E (f : M PyData) (fs : M (List PyData)) (i j : Nat) : MS := bnd f fun d => bnd fs fun ds => fun δ => match sName i d δ with
  | some δ1 => (match δ1[j]? with
    | some c => if c.free = true then some (.ok .nx, δ1.set j (.ow false ds)) else none
    | none => none)
  | none => none
theorem ds_par2E {e1 e2 : Expr} {f : M PyData} {i : Nat} {x y : Str} {px py pt : Pos} {kt k2 pt2} (hc : X.calm = true) (hN : X.N.Nodup) (he1 : DE X W e1 f) (he2 : DF X W e2 fs) (hi : X.N[i]? = some x := by rfl) {j : Nat} (hj : X.N[j]? = some y := by rfl) (hij : i ≠ j := by decide)
    (hx : X.env.scope.names.lookup x = some .local := by rfl) (hy : X.env.scope.names.lookup y = some .local := by rfl)
    (hw : swappedStores [.Tuple [.Name x px, .Name y py] kt pt] (.Tuple [e1, e2] k2 pt2) X.env = pure (some [x, y]) := by rfl)
    (hs : swapsWithSole [.Tuple [.Name x px, .Name y py] kt pt] (.Tuple [e1, e2] k2 pt2) pos.line X.env = pure false := by rfl)
    (hs1 : starEach [e1, e2] X.env = (false, eval e1 X.env) :: starEach [e2] X.env := by rfl) (hs2 : starEach [e2] X.env = (false, eval e2 X.env) :: starEach [] X.env := by rfl) : DS X W (.Assign [.Tuple [.Name x px, .Name y py] kt pt] (.Tuple [e1, e2] k2 pt2) pos) (sPar2E f fs i j) := by
  obtain ⟨t1, p1, q1⟩ := he1.ex
  obtain ⟨t2, p2, q2⟩ := he2.ex
  refine ⟨⟨_, ps_par hc hN hi hj hij hx hy (pa_cons p1 (pa_cons p2 pa_nil hs2) hs1) hw hs, fun ph am σ H δ D ans δ' s z k kx => ?_⟩⟩
  rcases bnd_some z with ⟨d, δ1, e1, e2⟩ | ⟨c, fs, e1, e2⟩
  · refine q1 ph am σ H δ _ _ _ s e1 (fun d' ed am1 v H1 st1 s1 dv => ?_) (fun c fs z => by cases z)
    cases ed
    rcases bnd_some e2 with ⟨ds, δ2, e3, e4⟩ | ⟨c, fs, e3, e4⟩
    · refine q2 ph am1 σ H1 δ1 _ _ _ s1 e3 (fun d' ed am2 p vs H2 n0 n1 st2 s2 dvs hz => ?_) (fun c fs z => by cases z)
      cases ed
      split at e4
      · rename_i δ3 n3
        obtain ⟨c1, f1, f2, rfl⟩ := sName_some n3
        split at e4
        · rename_i c e5
          obtain ⟨h1, e6⟩ := if_some e4
          cases e6
          have s3 := s2.put f1 f2 (dp_mono st2.hid dv)
          have st3 : Step am2 H2 (amDrop am2 i) H2 := step_drop
          have s4 := s3.putOwn e5 h1 n1 (dps_mono st3.hid dvs) hz
          exact ⟨_, _, rfl, k _ rfl _ _ _ (((st1.trans st2).trans st3).trans (step_put n1)) s4⟩
        · cases e4
      · cases e4
    · subst e4
      exact q2 ph am1 σ H1 δ1 _ _ _ s1 e3 (fun d ed => by cases ed) (fun c' fs' z => by cases z; exact ((kx _ _ rfl).step st1).at)
  · subst e2
    exact q1 ph am σ H δ _ _ _ s e1 (fun d ed => by cases ed) (fun c' fs' z => by cases z; exact (kx _ _ rfl).at)
end PD
end

section
set_option Elab.async false
set_option linter.all false
set_option maxRecDepth 100000
set_option maxHeartbeats 2000000
namespace PD
open PySem PySem.Spec PyProof.Rows L2
variable {X : Cx} {W : WX} {pos : Pos} {e e1 e2 e3 : Expr} {es : List Expr} {f g h : M PyData} {fs : M (List PyData)} {fb gb : M Bool}
variable {K : PySem.W.Frag} {ph : Fx} {am am' am1 : Am} {H H' H1 : Hp} {σ σ' : L2.St} {δ δ' δ1 : Sg} {a p p1 p2 D : Addr} {v : V} {vs : List V} {d : PyData} {ds : List PyData} {i : Nat}

/-! ### [e for x in xs if t for y in ys if s] -/
theorem walk_it {J : It} {n : Nat} {G : Hp → Prop} {Y : Nat → Hp → V → Hp → Prop} (w : Walk J n G Y) {H0 : Hp} {Qd : Hp → Prop} (B : (Hp → Prop) → V → Hp → Prop) (Pv : Nat → Hp → Prop) (h0 : Pv 0 H0) (hG : ∀ i H, i ≤ n → Pv i H → G H)
    (hs : ∀ i x H H', i < n → Pv i H → Y i H x H' → B (Pv (i + 1)) x H') (hd : ∀ H, Pv n H → Qd H) :
    ∃ W : Nat → Nat → Hp → Prop, (∃ m, W 0 m H0) ∧ ∀ i m H, W i m H → (J.stop i H ∧ Qd H) ∨ (J.go i H ∧ ∃ Nx : Hp → Prop, (∀ H', Nx H' → ∃ m', m' < m ∧ W (i + 1) m' H') ∧ ∀ x H', J.yld i H x H' → B Nx x H') := by
  refine ⟨fun i m H => m = n - i ∧ i ≤ n ∧ Pv i H, ⟨n, by simp, Nat.zero_le _, h0⟩, ?_⟩
  rintro i m H ⟨rfl, hi, p⟩
  have q := hG i H hi p
  by_cases hlt : i < n
  · refine .inr ⟨w.goes i H hlt q, Pv (i + 1), fun H' p' => ⟨n - (i + 1), by omega, rfl, hlt, p'⟩, fun x H' y => hs i x H H' hlt p (w.yields i H x H' hlt q y)⟩
  · have e : i = n := by omega
    subst e
    exact .inl ⟨w.stops H q, hd H p⟩
def tiOf (K : PySem.W.Frag) (mg : Str → Option Value) (W : WX) (f : M (List PyData)) : TI := fun σ H R => ∃ ph am δ ans δ', SR K ph am σ H δ ∧ f δ = some (ans, δ') ∧
  (∀ ds, ans = .ok ds → ∀ am' H' J, Step am H am' H' → SR K ph am' σ H' δ' → WalkD K ph am' H' J ds → R J H') ∧ (∀ c fs, ans = .ex c fs → XPm K mg W ph am σ H δ' c fs)
theorem DI.can {tg iter : Expr} (d : DI X W tg iter fs) : PI X tg iter (tiOf X.K X.mg W fs) := by
  obtain ⟨t, p, q⟩ := d.ex
  exact ⟨fun pins s σ H R I ⟨ph, am, δ, ans, δ', s1, e, k, kx⟩ => p.run pins s σ H R I (q ph am σ H δ R ans δ' s1 e k kx)⟩
def comp2D (is vs1 : List Nat) (set : Tg) (t : M Bool) (it1 : M (List PyData)) (set1 : Tg) (t1 : M Bool) (el : M PyData) : List PyData → List PyData → Sg → Option (List PyData × Sg)
  | [], acc, δ => some (acc, δ)
  | d :: ds, acc, δ => match set d δ with
    | none => none
    | some δ1 => match t δ1 with
      | some (.ok true, δ2) => match it1 δ2 with
        | some (.ok ds1, δ3) => if noOw δ3 vs1 = true then match compD vs1 set1 t1 el ds1 acc (wipeD δ3 vs1) with
            | some (acc', δ4) => if noOw δ4 is = true then comp2D is vs1 set t it1 set1 t1 el ds acc' (wipeD δ4 is) else none
            | none => none
          else none
        | _ => none
      | some (.ok false, δ2) => if noOw δ2 is = true then comp2D is vs1 set t it1 set1 t1 el ds acc (wipeD δ2 is) else none
      | _ => none
def xComp2 (it : M (List PyData)) (is vs1 : List Nat) (set : Tg) (t : M Bool) (it1 : M (List PyData)) (set1 : Tg) (t1 : M Bool) (el : M PyData) : M (List PyData) := bnd it fun ds => fun δ =>
  if noOw δ is = true then match comp2D is vs1 set t it1 set1 t1 el ds [] (wipeD δ is) with
    | some (acc, δ') => some (.ok acc, backD δ δ' is)
    | none => none
  else none
theorem wipe_sub {is vs1 : List Nat} (hv : ∀ i ∈ vs1, i ∈ is) : L2.wipe (L2.wipe σ vs1) is = L2.wipe σ is := by
  apply List.ext_getElem?
  intro j
  have h1 := wipe_get (is := is) (σ := L2.wipe σ vs1) (j := j)
  have h2 := wipe_get (is := is) (σ := σ) (j := j)
  have h3 := wipe_get (is := vs1) (σ := σ) (j := j)
  rw [h1, h2, h3]
  by_cases hj : j ∈ is
  · rw [if_pos hj, if_pos hj]
    split <;> cases σ[j]? <;> rfl
  · rw [if_neg hj, if_neg hj, if_neg fun z => hj (hv j z)]
theorem comp2_read {ti : TI} {is vs1 : List Nat} {set set1 : Tg} {t t1 : M Bool} {it1 : M (List PyData)} {el : M PyData} (hv : ∀ i ∈ vs1, i ∈ is) (qi : ReadI X W ti fs) :
    ReadF X W (tLc2 ti (tgcOf X.K is set) (ttOf X.K X.mg E00 t) (tiOf X.K X.mg E00 it1) (tgcOf X.K vs1 set1) (ttOf X.K X.mg E00 t1) (tOf X.K X.mg E00 el) is vs1) (xComp2 fs is vs1 set t it1 set1 t1 el) := by
  intro ph am σ H δ Q ans δ' s z k kx
  rcases bnd_some z with ⟨ds, δ1, e1, e2⟩ | ⟨c, fs, e1, e2⟩
  · refine qi ph am σ H δ _ _ _ s e1 (fun d' ed am1 H1 J st1 s1 wd => ?_) (fun c fs z => by cases z)
    cases ed
    split at e2
    · rename_i hno
      split at e2
      · rename_i acc δ2 ec
        cases e2
        intro D hD
        obtain ⟨G, Y, w, hG, hY⟩ := wd
        have nD : ¬ ph.ph D := fun z => by
          obtain ⟨o, h, _⟩ := s1.phs D z
          rw [hD] at h
          cases h
        refine walk_it w _ (fun i H' => ∃ am2 δ3 av ad, Step am1 H1 am2 (del D H') ∧ SR X.K ph am2 (L2.wipe σ is) (del D H') δ3 ∧ H' D = some (.lst av) ∧ DqAll X.K (hid ph am2 (del D H')) av ad ∧ av.length ≤ sizeLine ∧ (∀ i ∈ is, ∀ c, δ3[i]? = some c → c = .un) ∧ comp2D is vs1 set t it1 set1 t1 el (ds.drop i) ad δ3 = some (acc, δ2)) ?_ (fun i H' _ ⟨am2, δ3, av, ad, st, s2, hl, dq, hz, hu, el⟩ => hG (ph.also D) am2 H' (by rw [hid_also]; exact st.hid)) (fun i x H2 H3 hi ⟨am2, δ3, av, ad, st, s2, hl, dq, hz, hu, ee⟩ y => ?_) (fun H' ⟨am2, δ3, av, ad, st, s2, hl, dq, hz, hu, ee⟩ => ?_)
        · rw [del_new hD]
          exact ⟨am1, wipeD δ1 is, [], [], Step.refl, s1.wipe hno, upd_same, .nil, Nat.zero_le _, fun i hi c q => wipeD_in hi q, ec⟩
        · have sA : SR X.K (ph.also D) am2 (L2.wipe σ is) H2 δ3 := s2.also hl
          obtain ⟨d, hd, sm, dqx⟩ := hY i x H2 H3 (ph.also D) am2 hi (by rw [hid_also]; exact st.hid) (fun b h => sA.hidden h) y
          have hdr : ds.drop i = d :: ds.drop (i + 1) := by
            obtain ⟨h1, h2⟩ := List.getElem?_eq_some_iff.mp hd
            rw [List.drop_eq_getElem_cons h1, h2]
          rw [hdr] at ee
          unfold comp2D at ee
          split at ee
          · cases ee
          · rename_i δ4 es
            refine ⟨ph.also D, am2, δ3, δ4, d, sA.same sm, dqx, es, fun am4 σ4 st4 s4 w4 => ?_⟩
            rw [wipe_wipe] at w4
            -- the state at the start of a turn of the outer walk
            have fin : ∀ {am6 : Am} {H6 : Hp} {δ6 : Sg} {av6 : List V} {ad6 : List PyData}, Step am2 (del D H2) am6 (del D H6) → SR X.K ph am6 (L2.wipe σ is) (del D H6) δ6 → H6 D = some (.lst av6) → DqAll X.K (hid ph am6 (del D H6)) av6 ad6 → av6.length ≤ sizeLine → (∀ i ∈ is, ∀ c, δ6[i]? = some c → c = .un) →
                comp2D is vs1 set t it1 set1 t1 el (ds.drop (i + 1)) ad6 δ6 = some (acc, δ2) →
                ∃ am2 δ3 av ad, Step am1 H1 am2 (del D H6) ∧ SR X.K ph am2 (L2.wipe σ is) (del D H6) δ3 ∧ H6 D = some (.lst av) ∧ DqAll X.K (hid ph am2 (del D H6)) av ad ∧ av.length ≤ sizeLine ∧ (∀ i ∈ is, ∀ c, δ3[i]? = some c → c = .un) ∧ comp2D is vs1 set t it1 set1 t1 el (ds.drop (i + 1)) ad δ3 = some (acc, δ2) :=
              fun {am6 H6 δ6 av6 ad6} a1 a2 a3 a4 a5 a6 a7 => ⟨am6, δ6, av6, ad6, st.trans a1, a2, a3, a4, a5, a6, a7⟩
            refine ⟨w4, ?_⟩
            split at ee
            · rename_i δ5 et
              split at ee
              · rename_i ds1 δ6 ei
                split at ee
                · rename_i no6
                  split at ee
                  · rename_i acc' δ9 e9
                    split at ee
                    · rename_i no9
                      refine ⟨ph.also D, am4, δ4, _, δ5, s4, et, fun b eb am5 H5 st5 s5 => ?_, fun c fs z => by cases z⟩
                      cases eb
                      refine iteT ⟨ph.also D, am5, δ5, _, δ6, s5, ei, fun d1 ed1 am6 H6 J1 st6 s6 wd1 => ?_, fun c fs z => by cases z⟩
                      cases ed1
                      obtain ⟨G1, Y1, w1, hG1, hY1⟩ := wd1
                      have stT : Step am2 H2 am6 H6 := ((Step.of sm).trans st4).trans (st5.trans st6)
                      have hD6 : ∀ i, am6 i ≠ some D := fun i e => (s6.amf i D e).1 (.inr rfl)
                      have hl6 : H6 D = some (.lst av) := stT.keep D _ hl fun i e => (sA.amf i D e).1 (.inr rfl)
                      refine walk_it w1 _ (fun j H' => ∃ am7 δ7 av2 ad2, Step am6 (del D H6) am7 (del D H') ∧ SR X.K ph am7 (L2.wipe σ4 vs1) (del D H') δ7 ∧ H' D = some (.lst av2) ∧ DqAll X.K (hid ph am7 (del D H')) av2 ad2 ∧ av2.length ≤ sizeLine ∧ (∀ i ∈ vs1, ∀ c, δ7[i]? = some c → c = .un) ∧ compD vs1 set1 t1 el (ds1.drop j) ad2 δ7 = some (acc', δ9))
                        ?_ (fun j H' _ ⟨am7, δ7, av2, ad2, st7, s7, hl7, dq7, hz7, hu7, el7⟩ => hG1 (ph.also D) am7 H' (by rw [hid_also, hid_also]; exact st7.hid)) (fun j x1 H7 H8 hj ⟨am7, δ7, av2, ad2, st7, s7, hl7, dq7, hz7, hu7, ee7⟩ y1 => ?_) (fun H' ⟨am7, δ7, av2, ad2, st7, s7, hl7, dq7, hz7, hu7, ee7⟩ => ?_)
                      · refine ⟨am6, wipeD δ6 vs1, av, ad, Step.refl, (s6.wipe no6).unalso nD, hl6, dps_mono (stT.del hD6).hid dq, hz, fun i hi c q => wipeD_in hi q, e9⟩
                      · have sB : SR X.K (ph.also D) am7 (L2.wipe σ4 vs1) H7 δ7 := s7.also hl7
                        obtain ⟨d1, hd1, sm1, dqx1⟩ := hY1 j x1 H7 H8 (ph.also D) am7 hj (by rw [hid_also, hid_also]; exact st7.hid) (fun b h => sB.hidden h) y1
                        have hdr1 : ds1.drop j = d1 :: ds1.drop (j + 1) := by
                          obtain ⟨h1, h2⟩ := List.getElem?_eq_some_iff.mp hd1
                          rw [List.drop_eq_getElem_cons h1, h2]
                        rw [hdr1] at ee7
                        unfold compD at ee7
                        split at ee7
                        · cases ee7
                        · rename_i δa ea
                          refine ⟨ph.also D, am7, δ7, δa, d1, sB.same sm1, dqx1, ea, fun ama σa sta sa wa => ?_⟩
                          rw [wipe_wipe] at wa
                          have fin1 : ∀ {amb : Am} {Hb : Hp} {δb : Sg} {ov : List V} {od : List PyData}, Step ama H8 amb Hb → SR X.K (ph.also D) amb σa Hb δb → noOw δb vs1 = true → DqAll X.K (hid (ph.also D) amb Hb) ov od → (av2 ++ ov).length ≤ sizeLine →
                              compD vs1 set1 t1 el (ds1.drop (j + 1)) (ad2 ++ od) (wipeD δb vs1) = some (acc', δ9) → Hb D = some (.lst av2) ∧ ∀ Hc, Hc D = some (.lst (av2 ++ ov)) → del D Hc = del D Hb →
                              ∃ am7 δ7 av2 ad2, Step am6 (del D H6) am7 (del D Hc) ∧ SR X.K ph am7 (L2.wipe σ4 vs1) (del D Hc) δ7 ∧ Hc D = some (.lst av2) ∧ DqAll X.K (hid ph am7 (del D Hc)) av2 ad2 ∧ av2.length ≤ sizeLine ∧ (∀ i ∈ vs1, ∀ c, δ7[i]? = some c → c = .un) ∧ compD vs1 set1 t1 el (ds1.drop (j + 1)) ad2 δ7 = some (acc', δ9) := by
                            intro amb Hb δb ov od stb sb nob dvb hzb eb
                            have stU : Step am7 H7 amb Hb := ((Step.of sm1).trans sta).trans stb
                            have hDb : ∀ i, amb i ≠ some D := fun i e => (sb.amf i D e).1 (.inr rfl)
                            refine ⟨stU.keep D _ hl7 fun i e => (sB.amf i D e).1 (.inr rfl), fun Hc h7 e7 => ?_⟩
                            rw [e7]
                            refine ⟨amb, wipeD δb vs1, av2 ++ ov, ad2 ++ od, st7.trans (stU.del hDb), ?_, h7, ?_, hzb, fun i hi c q => wipeD_in hi q, eb⟩
                            · have := (sb.wipe nob).unalso nD
                              rw [wa] at this
                              exact this
                            · rw [hid_also] at dvb
                              exact (dps_mono (stU.del hDb).hid dq7).append dvb
                          refine ⟨wa, ?_⟩
                          split at ee7
                          · rename_i δb etb
                            split at ee7
                            · rename_i yy δc ey
                              split at ee7
                              · rename_i hc
                                refine ⟨ph.also D, ama, δa, _, δb, sa, etb, fun b eb amb Hb stb sb => ?_, fun c fs z => by cases z⟩
                                cases eb
                                refine iteT ⟨ph.also D, amb, δb, _, δc, sb, ey, fun d ed amc v Hc stc sc dc => ?_, fun c fs z => by cases z⟩
                                cases ed
                                have hl2 : av2.length < sizeLine := by rw [dq7.length]; exact hc.1
                                obtain ⟨g1, g2⟩ := fin1 (stb.trans stc) sc hc.2 (.cons dc .nil) (by rw [List.length_append]; exact hl2) ee7
                                exact ⟨av2, g1, hl2, g2 _ upd_same del_upd⟩
                              · cases ee7
                            · cases ee7
                          · rename_i δb etb
                            split at ee7
                            · rename_i hc
                              refine ⟨ph.also D, ama, δa, _, δb, sa, etb, fun b eb amb Hb stb sb => ?_, fun c fs z => by cases z⟩
                              cases eb
                              refine iteF ?_
                              obtain ⟨g1, g2⟩ := fin1 (ov := []) (od := []) stb sb hc .nil (by rw [List.append_nil]; exact hz7) (by rw [List.append_nil]; exact ee7)
                              exact g2 Hb (by rw [List.append_nil]; exact g1) rfl
                            · cases ee7
                          · cases ee7
                      · rw [List.drop_length] at ee7
                        cases ee7
                        refine fin ((stT.del hD6).trans st7) ?_ hl7 dq7 hz7 (fun i hi c q => wipeD_in hi q) ee
                        have := s7.wipe no9
                        rw [wipe_sub hv, w4] at this
                        exact this
                    · cases ee
                  · cases ee
                · cases ee
              · cases ee
            · rename_i δ5 et
              split at ee
              · rename_i hc
                refine ⟨ph.also D, am4, δ4, _, δ5, s4, et, fun b eb am5 H5 st5 s5 => ?_, fun c fs z => by cases z⟩
                cases eb
                refine iteF ?_
                have stT : Step am2 H2 am5 H5 := ((Step.of sm).trans st4).trans st5
                have hD5 : ∀ i, am5 i ≠ some D := fun i e => (s5.amf i D e).1 (.inr rfl)
                refine fin (stT.del hD5) ?_ (stT.keep D _ hl fun i e => (sA.amf i D e).1 (.inr rfl)) (dps_mono (stT.del hD5).hid dq) hz (fun i hi c q => wipeD_in hi q) ee
                have := (s5.wipe hc).unalso nD
                rw [w4] at this
                exact this
              · cases ee
            · cases ee
        · rw [List.drop_length] at ee
          cases ee
          have := k _ rfl am2 D av (del D H') (st1.none hD) del_same (st1.trans st) (SR.back s1 st hno s2 hu) dq hz
          rw [upd_del hl] at this
          exact this
      · cases e2
    · cases e2
  · subst e2
    exact qi ph am σ H δ _ _ _ s e1 (fun d ed => by cases ed) (fun c' fs' z => by cases z; exact kx _ _ rfl)
theorem df_lc2 {elt tg iter tg1 iter1 : Expr} {ifs ifs1 : List Expr} {scope : Scope} {own : List (Str × Nat)} {vs1 : List Nat} {set set1 : Tg} {t t1 : M Bool} {it1 : M (List PyData)} {el : M PyData} (hc : X.calm = true) (hN : X.N.Nodup) (hi : DI X W tg iter fs) (ok : BlkOk X.N X.env.scope scope own) (hv : ∀ i ∈ vs1, i ∈ own.map (·.2))
    (hg : ∀ (s : Shared) (H : Hp) (C : Addr) (cl : List (Str × Addr)) (fp : List Addr), DGc (Blk X scope s H C cl fp) tg (own.map (·.2)) set) (ht : ∀ (s : Shared) (H : Hp) (C : Addr) (cl : List (Str × Addr)) (fp : List Addr), DTs (Blk X scope s H C cl fp) E00 ifs t)
    (hi1 : ∀ (s : Shared) (H : Hp) (C : Addr) (cl : List (Str × Addr)) (fp : List Addr), DI (Blk X scope s H C cl fp) E00 tg1 iter1 it1)
    (hg1 : ∀ (s : Shared) (H : Hp) (C : Addr) (cl : List (Str × Addr)) (fp : List Addr), DGc (Blk X scope s H C cl fp) tg1 vs1 set1) (ht1 : ∀ (s : Shared) (H : Hp) (C : Addr) (cl : List (Str × Addr)) (fp : List Addr), DTs (Blk X scope s H C cl fp) E00 ifs1 t1)
    (he : ∀ (s : Shared) (H : Hp) (C : Addr) (cl : List (Str × Addr)) (fp : List Addr), DE (Blk X scope s H C cl fp) E00 elt el) (hs : ∀ x, foldedSetIterable iter X.env x = pure x := by intro _; rfl) (hs1 : ∀ env x, foldedSetIterable iter1 env x = pure x := by intro _ _; rfl) :
    DF X W (.ListComp elt [⟨tg, iter, ifs, 0⟩, ⟨tg1, iter1, ifs1, 0⟩] scope pos) (xComp2 fs (own.map (·.2)) vs1 set t it1 set1 t1 el) := by
  obtain ⟨ti, pi, qi⟩ := hi.ex
  exact ⟨⟨_, pe_lc2 hc hN pi ok hv (fun s H C cl fp => (hg s H C cl fp).can) (fun s H C cl fp => (ht s H C cl fp).can) (fun s H C cl fp => (hi1 s H C cl fp).can) (fun s H C cl fp => (hg1 s H C cl fp).can) (fun s H C cl fp => (ht1 s H C cl fp).can) (fun s H C cl fp => (he s H C cl fp).can) hs hs1, comp2_read hv qi⟩⟩
theorem ds_setLc2F {i : Nat} {y : Str} {py spos : Pos} {elt tg iter tg1 iter1 : Expr} {ifs ifs1 : List Expr} {scope : Scope} {own : List (Str × Nat)} {vs1 : List Nat} {set set1 : Tg} {t t1 : M Bool} {it1 : M (List PyData)} {el : M PyData} (hc : X.calm = true) (hN : X.N.Nodup) (hi : DI X W tg iter fs) (ok : BlkOk X.N X.env.scope scope own) (hv : ∀ i ∈ vs1, i ∈ own.map (·.2))
    (hg : ∀ (s : Shared) (H : Hp) (C : Addr) (cl : List (Str × Addr)) (fp : List Addr), DGc (Blk X scope s H C cl fp) tg (own.map (·.2)) set) (ht : ∀ (s : Shared) (H : Hp) (C : Addr) (cl : List (Str × Addr)) (fp : List Addr), DTs (Blk X scope s H C cl fp) E00 ifs t)
    (hi1 : ∀ (s : Shared) (H : Hp) (C : Addr) (cl : List (Str × Addr)) (fp : List Addr), DI (Blk X scope s H C cl fp) E00 tg1 iter1 it1)
    (hg1 : ∀ (s : Shared) (H : Hp) (C : Addr) (cl : List (Str × Addr)) (fp : List Addr), DGc (Blk X scope s H C cl fp) tg1 vs1 set1) (ht1 : ∀ (s : Shared) (H : Hp) (C : Addr) (cl : List (Str × Addr)) (fp : List Addr), DTs (Blk X scope s H C cl fp) E00 ifs1 t1)
    (he : ∀ (s : Shared) (H : Hp) (C : Addr) (cl : List (Str × Addr)) (fp : List Addr), DE (Blk X scope s H C cl fp) E00 elt el)
    (hsw : swapsWith (.ListComp elt [⟨tg, iter, ifs, 0⟩, ⟨tg1, iter1, ifs1, 0⟩] scope pos) (some (.Name y py)) spos.line X.env = pure true)
    (hy : X.N[i]? = some y := by rfl) (hyl : X.env.scope.names.lookup y = some .local := by rfl) (hs : ∀ x, foldedSetIterable iter X.env x = pure x := by intro _; rfl) (hs1 : ∀ env x, foldedSetIterable iter1 env x = pure x := by intro _ _; rfl) :
    DS X W (.Assign [.Name y py] (.ListComp elt [⟨tg, iter, ifs, 0⟩, ⟨tg1, iter1, ifs1, 0⟩] scope pos) spos) (sAsg (bnd (xComp2 fs (own.map (·.2)) vs1 set t it1 set1 t1 el) fun ds => ret (.list ds)) (sName i)) := by
  obtain ⟨ti, pi, qi⟩ := hi.ex
  exact ⟨⟨_, ps_setLc2 hc hN hy hyl hsw pi ok hv (fun s H C cl fp => (hg s H C cl fp).can) (fun s H C cl fp => (ht s H C cl fp).can) (fun s H C cl fp => (hi1 s H C cl fp).can) (fun s H C cl fp => (hg1 s H C cl fp).can) (fun s H C cl fp => (ht1 s H C cl fp).can) (fun s H C cl fp => (he s H C cl fp).can) hs hs1, setf_read (comp2_read hv qi)⟩⟩
end PD
end

section
set_option Elab.async false
set_option linter.all false
set_option maxRecDepth 100000
set_option maxHeartbeats 2000000
namespace PD
open PySem PySem.Spec PyProof.Rows L2
variable {X : Cx} {W : WX} {pos : Pos} {e e1 e2 e3 : Expr} {es : List Expr} {f g h : M PyData} {fs : M (List PyData)} {fb gb : M Bool}
variable {K : PySem.W.Frag} {ph : Fx} {am am' am1 : Am} {H H' H1 : Hp} {σ σ' : L2.St} {δ δ' δ1 : Sg} {a p p1 p2 D : Addr} {v : V} {vs : List V} {d : PyData} {ds : List PyData} {i : Nat}

/-! ### a star in a display -/
theorem da_star {sp : Pos} (h : DE X W e f) (t : DA X W es fs) (hs : starEach (.Starred e sp :: es) X.env = (true, eval e X.env) :: starEach es X.env := by rfl) :
    DA X W (.Starred e sp :: es) (bnd f fun d => bnd (lif (seqD d)) fun xs => bnd fs fun ds => ret (xs ++ ds)) := by
  obtain ⟨ta, pa, qa⟩ := h.ex
  obtain ⟨tb, pb, qb⟩ := t.ex
  refine ⟨⟨_, StX.pa_star pa pb hs, fun ph am σ H δ Q ans δ' s q k kx => ?_⟩⟩
  rcases bnd_some q with ⟨a, δ1, e1, q1⟩ | ⟨c, fs, e1, q1⟩
  · refine qa ph am σ H δ _ _ _ s e1 (fun d ed am1 x H1 st1 s1 d1 => ?_) (fun c fs z => by cases z)
    cases ed
    rcases bnd_some q1 with ⟨xs, δ0, e0, q2⟩ | ⟨c, fs, e0, q2⟩
    · obtain ⟨ys, e4, e5, rfl⟩ := lif_some e0
      cases e5
      obtain ⟨kk, pp, us, rfl, hq, hdq⟩ := seq_rd d1 e4
      refine ⟨pp, us, rfl, ?_, ?_⟩
      · cases kk with
        | true => exact .inr (by rcases hq with (hq | ⟨o, hq⟩) | hq
                                 · exact .inl (.inl (hid_sub _ _ hq))
                                 · exact .inl (.inr ⟨o, hid_sub _ _ hq⟩)
                                 · exact .inr hq)
        | false => exact .inl (by rcases hq with (hq | ⟨o, hq⟩) | hq
                                  · exact .inl (.inl (hid_sub _ _ hq))
                                  · exact .inl (.inr ⟨o, hid_sub _ _ hq⟩)
                                  · exact .inr hq)
      · rcases bnd_some q2 with ⟨b, δ2, e2, q3⟩ | ⟨c, fs, e2, q3⟩
        · cases q3
          refine qb ph am1 σ H1 _ _ _ _ s1 e2 (fun d ed am2 y H2 st2 s2 d2 => ?_) (fun c fs z => by cases z)
          cases ed
          exact k _ rfl am2 _ H2 (st1.trans st2) s2 ((dps_mono st2.hid hdq).append d2)
        · subst q3
          exact qb ph am1 σ H1 _ _ _ _ s1 e2 (fun d ed => by cases ed) (fun c' fs' z => by cases z; exact (kx _ _ rfl).step st1)
    · unfold lif at e0
      split at e0 <;> cases e0
  · subst q1
    exact qa ph am σ H δ _ _ _ s e1 (fun d ed => by cases ed) (fun c' fs' z => by cases z; exact kx _ _ rfl)

/-! ### x op= e, x a name -/
def sAug (F : PyData → PyData → Option PyData) (i : Nat) (f : M PyData) : MS := fun δ => match δ[i]? with
  | some (.fz x) => (bnd f fun y => bnd (lif (F x y)) fun z => fun δ1 => match sName i z δ1 with
    | some δ2 => some (.ok .nx, δ2)
    | none => none) δ
  | _ => none
theorem ds_aug {op : Operator} {r : R2} {F : PyData → PyData → Option PyData} {x : Str} {pn : Pos} (hr : OpD X r F) (ho : OpR X (inplaceOp op) r) (hN : X.N.Nodup) (he : DE X W e f) (hi : X.N[i]? = some x := by rfl) (hx : Loc X.env.scope x := by first | exact Or.inl rfl | exact Or.inr rfl)
    (hf : X.fn x = true ∨ X.env.scope.names.lookup x = some .local := by first | exact .inl rfl | exact .inr rfl) : DS X W (.AugAssign (.Name x pn) op e pos) (sAug F i f) := by
  obtain ⟨t, pt, q1⟩ := he.ex
  refine ⟨⟨_, ps_aug hN hi hx pt (ti := r) ho hf, fun ph am σ H δ D ans δ' sr z k kx => ?_⟩⟩
  unfold sAug at z
  split at z
  · rename_i x0 e0
    obtain ⟨v0, h1, h2⟩ := sr.fz i x0 e0
    refine ⟨v0, h1, ?_⟩
    rcases bnd_some z with ⟨y, δ1, e1, z1⟩ | ⟨c, fs, e1, z1⟩
    · refine q1 ph am σ H δ _ _ _ sr e1 (fun d ed am1 w H1 st1 s1 d1 => ?_) (fun c fs z => by cases z)
      cases ed
      rcases bnd_some z1 with ⟨zz, δ3, e3, z2⟩ | ⟨c, fs, e3, z2⟩
      · obtain ⟨z3, e4, e5, rfl⟩ := lif_some e3
        cases e5
        refine hr ph am1 H1 v0 w x0 y _ _ (fun b h => s1.hidden h) (dp_mono st1.hid h2) d1 e4 fun v H2 sm dv => ?_
        split at z2
        · rename_i δ4 e6
          cases z2
          obtain ⟨c, e7, e8, rfl⟩ := sName_some e6
          have st2 := st1.trans (Step.of (am := am1) sm)
          exact k _ rfl _ _ _ (st2.trans step_drop) ((s1.same sm).put e7 e8 dv)
        · cases z2
      · unfold lif at e3
        split at e3 <;> cases e3
    · subst z1
      exact q1 ph am σ H δ _ _ _ sr e1 (fun d ed => by cases ed) (fun c' fs' z => by cases z; exact (kx _ _ rfl).at)
  · cases z
theorem iop_addI : OpR X (inplaceOp .Add) (ipI fun i j => i + j) := ip_add
theorem iop_subI : OpR X (inplaceOp .Sub) (ipI fun i j => i - j) := ip_sub
def ipMul : R2 := fun x y H Q => ∃ i j, x = .int i ∧ y = .int j ∧ mulOk i j = true ∧ Q (.int (i * j)) H
theorem iop_mulI : OpR X (inplaceOp .Mult) ipMul := by
  intro pins s σ H x y v u Q I r1 r2 h
  obtain ⟨i, j, e1, e2, hm, q⟩ := h
  subst e1; subst e2
  obtain ⟨t, rfl⟩ := r1
  obtain ⟨t', rfl⟩ := r2
  have hc : CMul i j := by
    unfold mulOk small64 at hm
    simp only [Bool.or_eq_true, Bool.and_eq_true, decide_eq_true_eq] at hm
    exact hm
  exact imul_int ⟨.int _, H, I.tok _, ⟨_, rfl⟩, q⟩ hc.ok
def addII : PyData → PyData → Option PyData := intsD fun i j => some (.int (i + j))
def subII : PyData → PyData → Option PyData := intsD fun i j => some (.int (i - j))
theorem opd_addII : OpD X (ipI fun i j => i + j) addII := by
  intro ph am H x y d e c Q hn dx dy q k
  unfold addII intsD at q
  split at q
  · cases dx; cases dy; cases q
    exact ⟨_, _, rfl, rfl, k _ H (Same.refl H) (.int _)⟩
  · cases q
theorem opd_subII : OpD X (ipI fun i j => i - j) subII := by
  intro ph am H x y d e c Q hn dx dy q k
  unfold subII intsD at q
  split at q
  · cases dx; cases dy; cases q
    exact ⟨_, _, rfl, rfl, k _ H (Same.refl H) (.int _)⟩
  · cases q
theorem opd_mulII : OpD X ipMul mulI := by
  intro ph am H x y d e c Q hn dx dy q k
  unfold mulI intsD at q
  split at q
  · cases dx; cases dy
    obtain ⟨h1, rfl⟩ := if_some q
    exact ⟨_, _, rfl, rfl, h1, k _ H (Same.refl H) (.int _)⟩
  · cases q
theorem ds_augAdd {x : Str} {pn : Pos} (hN : X.N.Nodup) (he : DE X W e f) (hi : X.N[i]? = some x := by rfl) (hx : Loc X.env.scope x := by first | exact Or.inl rfl | exact Or.inr rfl)
    (hf : X.fn x = true ∨ X.env.scope.names.lookup x = some .local := by first | exact .inl rfl | exact .inr rfl) : DS X W (.AugAssign (.Name x pn) .Add e pos) (sAug addII i f) := ds_aug opd_addII iop_addI hN he hi hx hf
theorem ds_augSub {x : Str} {pn : Pos} (hN : X.N.Nodup) (he : DE X W e f) (hi : X.N[i]? = some x := by rfl) (hx : Loc X.env.scope x := by first | exact Or.inl rfl | exact Or.inr rfl)
    (hf : X.fn x = true ∨ X.env.scope.names.lookup x = some .local := by first | exact .inl rfl | exact .inr rfl) : DS X W (.AugAssign (.Name x pn) .Sub e pos) (sAug subII i f) := ds_aug opd_subII iop_subI hN he hi hx hf
theorem ds_augMul {x : Str} {pn : Pos} (hN : X.N.Nodup) (he : DE X W e f) (hi : X.N[i]? = some x := by rfl) (hx : Loc X.env.scope x := by first | exact Or.inl rfl | exact Or.inr rfl)
    (hf : X.fn x = true ∨ X.env.scope.names.lookup x = some .local := by first | exact .inl rfl | exact .inr rfl) : DS X W (.AugAssign (.Name x pn) .Mult e pos) (sAug mulI i f) := ds_aug opd_mulII iop_mulI hN he hi hx hf
end PD
end

section
set_option Elab.async false
set_option linter.all false
set_option maxRecDepth 100000
set_option maxHeartbeats 2000000
namespace PD
open PySem PySem.Spec PyProof.Rows L2
variable {X : Cx} {W : WX} {pos : Pos} {e e1 e2 e3 : Expr} {es : List Expr} {f g h : M PyData} {fs : M (List PyData)} {fb gb : M Bool}
variable {K : PySem.W.Frag} {ph : Fx} {am am' am1 : Am} {H H' H1 : Hp} {σ σ' : L2.St} {δ δ' δ1 : Sg} {a p p1 p2 D : Addr} {v : V} {vs : List V} {d : PyData} {ds : List PyData} {i : Nat}

/-! ### t[::-1], t a tuple -/
theorem filterMap_all {α β : Type} {f : α → Option β} {g : α → β} : ∀ {l : List α}, (∀ x ∈ l, f x = some (g x)) → l.filterMap f = l.map g
  | [], _ => rfl
  | x :: l, h => by
    rw [List.filterMap_cons, h x (List.mem_cons_self ..)]
    show g x :: l.filterMap f = _
    rw [filterMap_all fun y hy => h y (List.mem_cons_of_mem _ hy)]
    rfl
theorem rev_pick (xs : Array Value) : ((List.range xs.size).filterMap fun (k : Nat) => xs[(((xs.size : Int) - 1) + (k : Int) * (-1)).toNat]?).toArray = xs.toList.reverse.toArray := by
  congr 1
  apply List.ext_getElem?
  intro j
  have e : (List.range xs.size).filterMap (fun (k : Nat) => xs[(((xs.size : Int) - 1) + (k : Int) * (-1)).toNat]?) = (List.range xs.size).map fun k => xs.toList.getD (xs.size - 1 - k) .none := by
    refine filterMap_all fun k hk => ?_
    have hk := List.mem_range.mp hk
    have h1 : ((((xs.size : Int) - 1) + (k : Int) * (-1)).toNat) = xs.size - 1 - k := by omega
    rw [h1]
    show xs[xs.size - 1 - k]? = some _
    rw [List.getD_eq_getElem?_getD, Array.getElem?_toList, Array.getElem?_eq_getElem (by omega)]
    rfl
  rw [e, List.getElem?_map]
  by_cases hj : j < xs.size
  · rw [List.getElem?_range hj, List.getElem?_reverse (by simpa using hj)]
    show some (xs.toList.getD (xs.size - 1 - j) .none) = _
    rw [List.getD_eq_getElem?_getD, Array.length_toList, List.getElem?_eq_getElem (by rw [Array.length_toList]; omega)]
    rfl
  · rw [List.getElem?_eq_none (by simpa using hj), List.getElem?_eq_none (by simpa using hj)]
    rfl
theorem getItem_tuple_rev {prog : Program} {w : World} {A : Around} {E : Value → Shared → Prop} {s : Shared} {t sl : Addr} {items : Array Value} {u : Tok} {Q : Value → Shared → Prop} (ht : IsTup s.heap t items) (hs : s.heap.IsSliceOf sl .none .none (.int (-1) u))
    (h : Q (.ref s.heap.objs.size) { s with heap := s.heap.push { cls := .type "tuple", data := .seq items.toList.reverse.toArray } })
    (hsz : items.size ≤ sizeLine) : wpAny (model prog w) A (getItem (.ref t) (.ref sl)) Q E s := by
  have htake : sizeOk (.seq items.toList.reverse.toArray) := by
    show items.toList.reverse.toArray.size ≤ sizeLine
    rw [List.size_toArray, List.length_reverse, Array.length_toList]
    exact hsz
  obtain ⟨os, hos, hcs, hds⟩ := id hs
  have hTs : s.TypeIs (.ref sl) "slice" := ⟨os, hos, hcs⟩
  unfold getItem
  try with_reducible refine wpAny_holding ?_
  first | refine wpAny_bind (wpAny_pure ?_) | skip
  refine wpAny_bind (wpAny_sequenceKey ht.typeIs (by decide) ?_)
  refine wpAny_bind (wpAny_callSpecial?_slot (name := Str.ofString "__getitem__") ht.typeIs PyProof.Rows.slot_tuple_getitem
    (wpAny_call_entry PyProof.Rows.slot_tuple_getitem ht.typeIs entry_tuple_getitem ?_ (args_tuple_getitem _ _)))
  show wpAny _ _ (Builtin.Tuple.tupleItemsOf (.ref t) >>= _) _ _ s
  refine wpAny_bind (tupleItemsOf_ ht ?_)
  refine wpAny_bind (wpAny_typeOf hTs ?_)
  rw [if_pos (by decide)]
  have happ : ∀ {Q2 : Int × Int × Nat → Shared → Prop}, Q2 (((items.size : Int) - 1), -1, items.size) s → wpAny (model prog w) (A.under (.call (.builtin "tuple.__getitem__") ⟨[.ref t, .ref sl], []⟩)) (Builtin.Slice.sliceApplied (.ref sl) (pure (items.size : Int))) Q2 E s → True := fun _ _ => trivial
  refine wpAny_bind ?_
  unfold Builtin.Slice.sliceApplied Builtin.Slice.sliceFields
  refine wpAny_bind (wpAny_bind (wpAny_field hos hds (x := .none) rfl (wpAny_bind (wpAny_field hos hds (x := .none) rfl (wpAny_bind (wpAny_field hos hds (x := .int (-1) u) rfl (wpAny_pure ?_)))))))
  refine wpAny_bind (slicePart_int ?_)
  show wpAny _ _ (if ((-1 : Int) == 0) = true then _ else _) _ _ s
  rw [if_neg (by decide)]
  refine wpAny_bind (slicePart_none (wpAny_bind (slicePart_none (wpAny_bind (wpAny_pure ?_)))))
  show wpAny _ _ (pure (((items.size : Int) - 1), (-1 : Int), Builtin.Slice.slicePlaces ((items.size : Int) - 1) (-1) (-1))) _ _ s
  have hpl : Builtin.Slice.slicePlaces ((items.size : Int) - 1) (-1) (-1) = items.size := by
    unfold Builtin.Slice.slicePlaces
    rw [if_neg (by decide)]
    by_cases h0 : items.size = 0
    · rw [if_neg (by omega)]; simp [h0]
    · rw [if_pos (by omega)]
      have : ((items.size : Int) - 1 - -1 - 1) / - -1 + 1 = (items.size : Int) := by
        rw [show (- -1 : Int) = 1 from rfl, Int.ediv_one]
        omega
      rw [this]
      simp
  rw [hpl]
  refine wpAny_pure ?_
  have hno : ¬ ((((items.size : Int) - 1) == 0 && (-1 : Int) == 1 && items.size == items.size) = true) := by
    rw [show ((-1 : Int) == 1) = false from rfl]
    simp
  show wpAny _ _ (if (((items.size : Int) - 1) == 0 && (-1 : Int) == 1 && items.size == items.size) = true then _ else _) _ _ s
  rw [if_neg hno, rev_pick]
  first
    | exact wpAny_bind (m := Builtin.Tuple.tupleExact _) (wpAny_newObj_type (wpAny_pure ⟨_, rfl, wpAny_pure h⟩) htake)
    | exact wpAny_bind (m := Builtin.Tuple.tupleExact _) (wpAny_newObj_type (wpAny_bind (wpAny_pure (wpAny_pure ⟨_, rfl, wpAny_pure h⟩))) htake)
    | exact wpAny_bind (wpAny_bind (m := Builtin.Tuple.tupleExact _) (wpAny_newObj_type (wpAny_pure (wpAny_pure ⟨_, rfl, wpAny_pure h⟩)) htake))
    | exact wpAny_bind (wpAny_bind (m := Builtin.Tuple.tupleExact _) (wpAny_newObj_type (wpAny_pure ⟨_, rfl, wpAny_pure h⟩) htake))
def tRevT (K : PySem.W.Frag) (te : TE) : TE := fun σ H Q => te σ H fun x H1 => ∃ a xs, x = .ref a ∧ SqT K H1 a xs ∧ ∀ p, H1 p = none → Q (.ref p) (upd H1 p (.tup xs.reverse))
theorem pe_revT {e : Expr} {te : TE} {k : Nat} {p1 p2 p3 pos : Pos} (he : PE X e te) : PE X (.Subscript e (.Slice none none (some (.UnaryOp .USub (.Constant (.int 1) k p1) p2)) p3) pos) (tRevT X.K te) := by
  refine ⟨fun pins s σ H Q I h => ?_⟩
  refine Subscript_ (thn (he.run pins s σ H _ I h) fun v s1 ⟨x, H1, I1, r1, q1⟩ => ?_)
  obtain ⟨a, xs, ex, hx, q⟩ := q1
  subst ex
  cases r1
  have hst : PO X (some (.UnaryOp .USub (.Constant (.int 1) k p1) p2)) (tPart (tUn (rU fun i => .int (-i)) (tC (.int 1)))) := po_some (pe_un un_neg pe_int)
  refine wpAny_Slice (thn (po_none.run pins s1 σ H1 (fun o H2 => o = none ∧ H2 = H1) I1 ⟨rfl, rfl⟩) fun vl s2 ⟨l, H2, I2, pl, el, e2⟩ => ?_)
  subst el e2
  refine thn (po_none.run pins s2 σ H2 (fun o H3 => o = none ∧ H3 = H2) I2 ⟨rfl, rfl⟩) fun vu s3 ⟨u, H3, I3, pu, eu, e3⟩ => ?_
  subst eu e3
  refine thn (hst.run pins s3 σ H3 (fun o H4 => o = some (-1) ∧ H4 = H3) I3 ⟨1, rfl, -1, rfl, rfl, rfl⟩) fun vs s4 ⟨o, H4, I4, ps, eo, e4⟩ => ?_
  subst eo e4
  have I5 : Inv X pins σ H4 { s4 with heap := s4.heap.push { cls := .type "slice", data := .fields #[vl, vu, vs] } } := I4.kept (t' := s4.toks) fun b ob q => Heap.get?_push_of_some _ q
  obtain ⟨its, r, ht, hz⟩ := I5.tuple hx
  have hlen : its.toArray.size = xs.length := by rw [List.size_toArray]; exact r.length.symm
  show wpAny (model X.prog X.w) X.A (subscriptTail e (.Slice none none (some (.UnaryOp .USub (.Constant (.int 1) k p1) p2)) p3) (.ref a) (.ref s4.heap.objs.size)) (EP X pins σ Q) X.xe { s4 with heap := s4.heap.push { cls := .type "slice", data := .fields #[vl, vu, vs] } }
  refine tail_any (ops := [.ref a, .ref s4.heap.objs.size]) ht.typeIs PyProof.Rows.slot_tuple_getitem.lookup ?_ (by with_unfolding_all rfl)
  cases pl
  cases pu
  cases ps
  refine getItem_tuple_rev ht (Heap.IsSliceOf.new _ _ _ _) ?_ (by rw [hlen]; exact hz)
  refine ⟨.ref _, _, I5.laid (t' := s4.toks) (o := .tup xs.reverse) (fun b ob q => Heap.get?_push_of_some _ q) (Nat.le_refl _) ?_, rfl, q _ (I5.hok.fresh (Nat.le_refl _))⟩
  exact ⟨by rw [List.length_reverse]; exact hz, _, r.reverse, IsTup.new _ _⟩
def xRevT (f : M PyData) : M PyData := bnd f fun d => lif (match d with | .tuple ds => some (.tuple ds.reverse) | _ => none)
theorem de_revT {k : Nat} {p1 p2 p3 : Pos} (he : DE X W e f) : DE X W (.Subscript e (.Slice none none (some (.UnaryOp .USub (.Constant (.int 1) k p1) p2)) p3) pos) (xRevT f) := by
  obtain ⟨t, pt, qa⟩ := he.ex
  refine ⟨⟨_, pe_revT pt, fun ph am σ H δ Q ans δ' s q k kx => ?_⟩⟩
  rcases bnd_some q with ⟨a, δ1, e1, q1⟩ | ⟨c, fs, e1, q1⟩
  · refine qa ph am σ H δ _ _ _ s e1 (fun d ed am1 x H1 st1 s1 d1 => ?_) (fun c fs z => by cases z)
    cases ed
    obtain ⟨z, e3, rfl, rfl⟩ := lif_some q1
    cases d1 with
    | @tup a0 xs0 ds0 h1 a1 =>
      cases e3
      refine ⟨_, _, rfl, seqT_hid h1, fun p np => ?_⟩
      have sm : Same H1 (upd H1 p (.tup xs0.reverse)) := same_new np
      exact k _ rfl am1 _ _ (st1.trans (Step.of sm)) (s1.same sm) (.tup (hid_some.mpr ⟨s1.new np, upd_same⟩) (dps_mono (hid_same sm) a1.rev))
    | _ => cases e3
  · subst q1
    exact qa ph am σ H δ _ _ _ s e1 (fun d ed => by cases ed) (fun c' fs' z => by cases z; exact kx _ _ rfl)

/-! ### n not in range(p) -/
theorem cr_range1 : CallR X (.type "range") (fun vs H Q => ∃ j, vs = [V.int j] ∧ ∀ p, H p = none → Q (.ref p) (upd H p (.rng 0 j))) := by
  intro pins s σ H vs us Q I r h
  obtain ⟨j, rfl, q⟩ := h
  obtain ⟨u, rfl, ru⟩ : ∃ u, us = [u] ∧ RelV (V.int j) u := by
    cases r with
    | cons p q => cases q; exact ⟨_, rfl, p⟩
  obtain ⟨t, rfl⟩ := ru
  refine call_range_1 ⟨.ref s.heap.objs.size, upd H s.heap.objs.size (.rng 0 j), I.laid (t' := s.toks + 1 + 1) (fun b o e => Heap.get?_push_of_some _ e) (Nat.le_refl _) ?_, rfl, q _ (I.hok.fresh (Nat.le_refl _))⟩
  exact ⟨s.toks, t, s.toks + 1, Heap.get?_push_size _ rfl⟩
theorem op_notin_rng : OpR X (compareOp .NotIn) (fun x y H Q => ∃ i a lo hi, x = V.int i ∧ y = V.ref a ∧ H a = some (.rng lo hi) ∧ Q (.bl (!decide (lo ≤ i ∧ i < hi))) H) := by
  intro pins s σ H x y v u Q I rx ry h
  obtain ⟨i, a, lo, hi, rfl, rfl, ha, q⟩ := h
  obtain ⟨k, rfl⟩ := rx
  obtain rfl : u = Value.ref a := ry
  obtain ⟨t1, t2, t3, ho⟩ := I.hok a _ ha
  show wpAny _ _ (do return Value.bool (!(← contains (Value.ref a) (Value.int i k)))) _ _ s
  refine wpAny_bind (wpAny_contains_slot (T := "range") ⟨_, ho, rfl⟩ F.slot_range_contains (call_meets F.slot_range_contains ⟨_, ho, rfl⟩ F.entry_range_contains (F.args_range_contains_2 _ _) (q_contains a lo hi i t1 t2 t3 k)
    ⟨ho, wpAny_truthy_bool (wpAny_pure ⟨.bl _, H, I, rfl, ?_⟩)⟩))
  rw [place1]
  exact q
def ninRD : PyData → PyData → Option PyData := intsD fun i j => some (.bool (!decide (0 ≤ i ∧ i < j)))
theorem dt_ninRange {pn pc : Pos} (hg : Gl X "range") (hm : X.mg "range" = none) (ha : DE X W e1 f) (hb : DE X W e2 g) (hs : starEach [e2] X.env = (false, eval e2 X.env) :: starEach [] X.env := by rfl) (hpl : (backTo pc (starEach [] X.env)).any (·.1) = false := by rfl) (hmm : behindInMarks .NotIn (.Call (.Name "range" pn) [e2] [] pc) = false := by rfl) :
    DT X W (.Compare e1 [.NotIn] [.Call (.Name "range" pn) [e2] [] pc] pos) (xBool (xBin ninRD f g)) := by
  obtain ⟨ta, pa, qa⟩ := ha.ex
  obtain ⟨tb, pb, qb⟩ := hb.ex
  refine ⟨⟨_, pt_cmpR op_notin_rng pa (pe_callTy (e := e2) (es := []) cr_range1 hg hm (by decide +kernel) (pa_cons pb pa_nil hs) (by decide) (by decide) hs hpl) hmm, ?_⟩⟩
  refine bool_read fun ph am σ H δ Q ans δ' s q k kx => ?_
  rcases bnd_some q with ⟨a, δ1, e1, q1⟩ | ⟨c, fs, e1, q1⟩
  · refine qa ph am σ H δ _ _ _ s e1 (fun d ed am1 x H1 st1 s1 d1 => ?_) (fun c fs z => by cases z)
    cases ed
    rcases bnd_some q1 with ⟨b, δ2, e2, q2⟩ | ⟨c, fs, e2, q2⟩
    · refine qb ph am1 σ H1 δ1 _ _ _ s1 e2 (fun d ed am2 y H2 st2 s2 d2 => ?_) (fun c fs z => by cases z)
      cases ed
      obtain ⟨z, e3, rfl, rfl⟩ := lif_some q2
      unfold ninRD intsD at e3
      split at e3
      · cases d1
        cases d2
        cases e3
        rename_i i0 j0
        refine ⟨j0, rfl, fun p np => ?_⟩
        have sm : Same H2 (upd H2 p (.rng 0 j0)) := same_new np
        exact ⟨i0, p, 0, j0, rfl, rfl, upd_same, k _ rfl am2 _ _ ((st1.trans st2).trans (Step.of sm)) (s2.same sm) (.bl _)⟩
      · cases e3
    · subst q2
      exact qb ph am1 σ H1 δ1 _ _ _ s1 e2 (fun d ed => by cases ed) (fun c' fs' z => by cases z; exact (kx _ _ rfl).step st1)
  · subst q1
    exact qa ph am σ H δ _ _ _ s e1 (fun d ed => by cases ed) (fun c' fs' z => by cases z; exact kx _ _ rfl)
end PD
end

section
set_option Elab.async false
set_option linter.all false
set_option maxRecDepth 100000
set_option maxHeartbeats 1000000
namespace PD
open PySem PySem.Spec PyProof.Rows L2
variable {X : Cx} {W : WX} {pos : Pos} {e e1 e2 : Expr} {f g h : M PyData} {fs : M (List PyData)}
variable {K : PySem.W.Frag}
theorem de_in (hu : X.A.units + 65 < cLine) (ha : DE X W e1 f) (hb : DE X W e2 g) (hm : behindInMarks .In e2 = false := by rfl) : DE X W (.Compare e1 [.In] [e2] pos) (xBin inD f g) := de_cmp opd_in (op_inD hu) hm ha hb

/-! ### sorted(xs), xs a list, also one that holds () alone -/
theorem sorted_any {β : Type} {prog : Program} {w : World} {A : Around} {E : Value → Shared → Prop} {s : Shared} {vs : List Value} {bs : List β} {enc : β → PyData} {R : Value → β → Prop} {l : Addr} {Q : Value → Shared → Prop} (hl : s.heap.IsList l vs.toArray) (e : PySem.W.EachIs R vs bs) (er : PySem.W.EachIs (fun v b => ∃ as, Reads s.heap v (enc b) as) vs bs) (hal : PySem.W.AllAlike (bs.map enc)) (hk : PySem.W.Sortable (bs.map enc) ∨ bs.map enc = [.tuple []]) (hL : bs.length ≤ sizeLine)
    (hu : ∀ b, b ∈ bs → A.units + 2 + (enc b).depth < cLine) (h : ∀ out, out.length = bs.length → PySem.W.EachIs R out (bs.mergeSort (PySem.W.dataLe false enc)) → Q (.ref (s.heap.objs.size + 1)) { s with heap := sortedAll s.heap vs (List.toArray out) }) :
    wpAny (model prog w) A (call (.builtin "sorted") [.ref l]) Q E s := by
  rcases hk with hk | hk
  · exact PySem.W.sorted_data hl e er hal hk hL hu h
  · have er' : PySem.W.EachIs (fun v b => ∃ as, Reads (PySem.W.sortingHeap (PySem.W.copyHeap s.heap vs) (s.heap.objs.size + 1) vs) v (enc b) as) vs bs := er.mono fun _ _ ⟨as, r⟩ => ⟨as, PyProof.Rows.Reads.keeps (fun _ _ => PySem.W.sorting_copy_old) r⟩
    have hb1 : ∃ b, b ∈ bs := by
      cases bs with
      | nil => simp at hk
      | cons b bs => exact ⟨b, List.mem_cons_self ..⟩
    obtain ⟨b, hb⟩ := hb1
    have hu1 := hu b hb
    have hbe : enc b = .tuple [] := by
      have : enc b ∈ bs.map enc := List.mem_map_of_mem hb
      rw [hk] at this
      exact List.mem_singleton.mp this
    rw [hbe, show (PyData.tuple []).depth = 1 by simp [PyData.depth, PyData.depthAll]] at hu1
    refine PySem.W.sorted_vals hl (sorts_unit (s := { s with heap := PySem.W.sortingHeap (PySem.W.copyHeap s.heap vs) (s.heap.objs.size + 1) vs }) (PySem.W.each_map (R := fun v d => ∃ as, Reads (PySem.W.sortingHeap (PySem.W.copyHeap s.heap vs) (s.heap.objs.size + 1) vs) v d as) enc er') hk ?_) (by rw [PySem.W.EachIs.length e]; exact hL)
      (h _ (by rw [PySem.W.sortVals_length false rfl]; exact PySem.W.EachIs.length e) (PySem.W.sortVals_data false e er' hal))
    first | omega | (show A.units + 2 + 1 < cLine; omega)
def rSortDu (K : PySem.W.Frag) : List V → Hp → VK → Prop := fun xs H Q => ∃ a vs ds, xs = [V.ref a] ∧ SqL K H a vs ∧ L2.DpAll K H vs ds ∧ PySem.W.AllAlike ds ∧ (PySem.W.Sortable ds ∨ ds = [.tuple []]) ∧ (∀ d, d ∈ ds → d.depth ≤ 40) ∧
  ∀ p, H p = none → Q (.ref p) (upd H p (.lst (sortV vs ds)))
theorem cr_sortDu (hu : X.A.units + 65 < cLine) : CallR X (.builtin "sorted") (rSortDu X.K) := by
  intro pins s σ H vs us Q I r h
  obtain ⟨a, ws, ds, rfl, hs, hd, hal, hk, hdep, q⟩ := h
  obtain ⟨its, rv, hl, hz⟩ := I.list hs
  rw [Vals.ref1 r]
  obtain ⟨as, hr⟩ := Dp.readsAll I ds ws its hd rv
  have hlen : its.length = ds.length := SeqAt.ReadsAll.length ds its as hr
  have hwl : ws.length = its.length := rv.length
  have hz2 : (ws.zip ds).length = ds.length := by rw [List.length_zip, hwl, hlen, Nat.min_self]
  have hm : (ws.zip ds).map (·.2) = ds := zip_snd (by rw [hwl, hlen])
  refine sorted_any (β := V × PyData) (enc := (·.2)) (R := fun u q => RelV q.1 u) hl.isList (each_zip rv hr fun _ _ _ _ h _ => h) (each_zip rv hr fun _ _ _ bs _ h => ⟨bs, h⟩) (by rw [hm]; exact hal) (by rw [hm]; exact hk) (by rw [hz2, ← hlen, ← hwl]; exact hz) (fun b hb => ?_) fun out ho eo => ?_
  · have := hdep b.2 (by rw [← hm]; exact List.mem_map_of_mem hb)
    omega
  · obtain ⟨ep, he'⟩ := PyProof.Rows.sortedAll_at s.heap its out.toArray
    have hlen2 : (sortV ws ds).length ≤ sizeLine := by rw [sortV_length (by rw [hwl, hlen]), ← hlen, ← hwl]; exact hz
    exact ⟨.ref _, upd H (s.heap.objs.size + 1) (.lst (sortV ws ds)), I.laid (t' := s.toks) (fun _ _ => PyProof.Rows.sortedAll_old) (Nat.le_succ _) ⟨hlen2, out, ep, each_vals (fun _ _ h => h) eo, he'⟩, rfl, q _ (I.hok.fresh (Nat.le_succ _))⟩
def sortedU : List PyData → Option (List PyData)
  | [.list ds] => if (okSort ds || isUnit ds) = true ∧ ds.length ≤ sizeLine then some (sortD ds) else none
  | _ => none
theorem callf_sortU : CallF X (rSortDu X.K) sortedU := by
  intro ph am H xs ds c Q hn dx q k
  cases dx with
  | nil => cases q
  | cons h t =>
    cases t with
    | cons _ _ => cases h <;> cases q
    | nil =>
      cases h with
      | lst h1 a1 =>
        obtain ⟨⟨h2, h3⟩, rfl⟩ := if_some q
        obtain ⟨g1, g2, g3⟩ := okUnit h2
        refine ⟨_, _, _, rfl, rd_hid h1, (dps_mono hid_sub a1).dp, g1, g2, g3, fun p np => k p _ np a1.sort (by rw [sortV_length a1.length]; exact h3)⟩
      | _ => cases q
theorem df_sortedU {pf : Pos} (hu : X.A.units + 65 < cLine) (hm : X.mg "sorted" = none) (h : DA X W [e] fs) (hg : Gl X "sorted" := by rfl)
    (he : starEach [e] X.env = (false, eval e X.env) :: starEach [] X.env := by rfl) (hpl : (backTo pos (starEach [] X.env)).any (·.1) = false := by rfl) : DF X W (.Call (.Name "sorted" pf) [e] [] pos) (xCallF sortedU fs) :=
  df_callB callf_sortU (cr_sortDu hu) hm (by decide +kernel) h hg (by decide) (by decide) he hpl
end PD
end

section
set_option Elab.async false
set_option linter.all false
set_option maxRecDepth 100000
set_option maxHeartbeats 1000000
namespace PD
open PySem PySem.Spec PyProof.Rows L2
variable {X : Cx} {W : WX} {pos : Pos} {e e1 e2 e3 : Expr} {es : List Expr} {f g h : M PyData} {fs : M (List PyData)} {fb gb : M Bool}
variable {K : PySem.W.Frag} {ph : Fx} {am am' am1 : Am} {H H' H1 : Hp} {σ σ' : L2.St} {δ δ' δ1 : Sg} {a p p1 p2 : Addr} {v : V} {vs : List V} {d : PyData} {ds : List PyData} {i : Nat}

/-! ### x in xs, xs a list or a tuple -/
def inX (neg : Bool) (a b : PyData) : Option PyData := match b with
  | .list ds => if SeqAt.shaped a = true ∧ SeqAt.shaped (.list ds) = true then some (.bool ((ds.any fun z => PyData.eqv z a) != neg)) else none
  | .tuple ds => if SeqAt.shaped a = true ∧ SeqAt.shaped (.tuple ds) = true then some (.bool ((ds.any fun z => PyData.eqv z a) != neg)) else none
  | _ => none
def rInX (K : PySem.W.Frag) (neg : Bool) : R2 := fun x y H Q => ∃ d e ds, (e = .list ds ∨ e = .tuple ds) ∧ Dp K H x d ∧ Dp K H y e ∧ SeqAt.shaped d = true ∧ SeqAt.shaped e = true ∧ Q (.bl ((ds.any fun z => PyData.eqv z d) != neg)) H
theorem op_inX (hu : X.A.units + 65 < cLine) : OpR X (compareOp .In) (rInX X.K false) := by
  intro pins s σ H x y v u Q I rx ry h
  obtain ⟨d, e, ds, he0, hd, he, sd, se, q⟩ := h
  obtain ⟨as, r1⟩ := Dp.reads I d x v hd rx
  obtain ⟨bs, r2⟩ := Dp.reads I e y u he ry
  rw [Bool.bne_false] at q
  rcases he0 with rfl | rfl
  · exact SeqAt.in_list_reads r2 r1 (SeqAt.canLay_of_shaped se) (SeqAt.canLay_of_shaped sd) (room_in_shaped sd hu) ⟨.bl _, H, I, rfl, q⟩
  · exact SeqAt.in_tuple_reads r2 r1 (SeqAt.canLay_of_shaped se) (SeqAt.canLay_of_shaped sd) (room_in_shaped sd hu) ⟨.bl _, H, I, rfl, q⟩
theorem op_ninX (hu : X.A.units + 65 < cLine) : OpR X (compareOp .NotIn) (rInX X.K true) := by
  intro pins s σ H x y v u Q I rx ry h
  obtain ⟨d, e, ds, he0, hd, he, sd, se, q⟩ := h
  obtain ⟨as, r1⟩ := Dp.reads I d x v hd rx
  obtain ⟨bs, r2⟩ := Dp.reads I e y u he ry
  rw [Bool.bne_true] at q
  rcases he0 with rfl | rfl
  · exact SeqAt.notIn_list_reads r2 r1 (SeqAt.canLay_of_shaped se) (SeqAt.canLay_of_shaped sd) (room_in_shaped sd hu) ⟨.bl _, H, I, rfl, q⟩
  · exact SeqAt.notIn_tuple_reads r2 r1 (SeqAt.canLay_of_shaped se) (SeqAt.canLay_of_shaped sd) (room_in_shaped sd hu) ⟨.bl _, H, I, rfl, q⟩
theorem opd_inX {neg : Bool} : OpD X (rInX X.K neg) (inX neg) := by
  intro ph am H x y d e c Q hn dx dy q k
  unfold inX at q
  split at q
  · obtain ⟨⟨h1, h2⟩, rfl⟩ := if_some q
    exact ⟨d, _, _, .inl rfl, (dp_mono hid_sub dx).dp, (dp_mono hid_sub dy).dp, h1, h2, k _ H (Same.refl H) (.bl _)⟩
  · obtain ⟨⟨h1, h2⟩, rfl⟩ := if_some q
    exact ⟨d, _, _, .inr rfl, (dp_mono hid_sub dx).dp, (dp_mono hid_sub dy).dp, h1, h2, k _ H (Same.refl H) (.bl _)⟩
  · cases q
theorem de_inX (hu : X.A.units + 65 < cLine) (ha : DE X W e1 f) (hb : DE X W e2 g) (hm : behindInMarks .In e2 = false := by rfl) : DE X W (.Compare e1 [.In] [e2] pos) (xBin (inX false) f g) := de_cmp opd_inX (op_inX hu) hm ha hb
theorem de_ninX (hu : X.A.units + 65 < cLine) (ha : DE X W e1 f) (hb : DE X W e2 g) (hm : behindInMarks .NotIn e2 = false := by rfl) : DE X W (.Compare e1 [.NotIn] [e2] pos) (xBin (inX true) f g) := de_cmp opd_inX (op_ninX hu) hm ha hb
theorem dt_inX (hu : X.A.units + 65 < cLine) (ha : DE X W e1 f) (hb : DE X W e2 g) (hm : behindInMarks .In e2 = false := by rfl) : DT X W (.Compare e1 [.In] [e2] pos) (xBool (xBin (inX false) f g)) := dt_cmp opd_inX (op_inX hu) hm ha hb
theorem dt_ninX (hu : X.A.units + 65 < cLine) (ha : DE X W e1 f) (hb : DE X W e2 g) (hm : behindInMarks .NotIn e2 = false := by rfl) : DT X W (.Compare e1 [.NotIn] [e2] pos) (xBool (xBin (inX true) f g)) := dt_cmp opd_inX (op_ninX hu) hm ha hb

/-! ### <, of ints or of texts -/
def ltX (a b : PyData) : Option PyData := match a, b with
  | .int i, .int j => some (.bool (decide (i < j)))
  | .str i, .str j => some (.bool (decide (i.cps.toList < j.cps.toList)))
  | _, _ => none
def rLtX : R2 := fun x y H Q => (∃ i j, x = .int i ∧ y = .int j ∧ Q (.bl (decide (i < j))) H) ∨ (∃ i j, x = .str i ∧ y = .str j ∧ Q (.bl (decide (i.cps.toList < j.cps.toList))) H)
theorem op_ltX : OpR X (compareOp .Lt) rLtX := by
  intro pins s σ H x y v u Q I rx ry h
  rcases h with h | h
  · exact op_lt pins s σ H x y v u Q I rx ry h
  · exact op_lt_str pins s σ H x y v u Q I rx ry h
theorem opd_ltX : OpD X rLtX ltX := by
  intro ph am H x y d e c Q hn dx dy q k
  cases dx <;> cases dy <;> simp only [ltX, Option.some.injEq, reduceCtorEq] at q
  · subst q; exact .inl ⟨_, _, rfl, rfl, k _ H (Same.refl H) (.bl _)⟩
  · subst q; exact .inr ⟨_, _, rfl, rfl, k _ H (Same.refl H) (.bl _)⟩
theorem de_ltX (ha : DE X W e1 f) (hb : DE X W e2 g) : DE X W (.Compare e1 [.Lt] [e2] pos) (xBin ltX f g) := de_cmp opd_ltX op_ltX (nomark _) ha hb
theorem dt_ltX (ha : DE X W e1 f) (hb : DE X W e2 g) : DT X W (.Compare e1 [.Lt] [e2] pos) (xBool (xBin ltX f g)) := dt_cmp opd_ltX op_ltX (nomark _) ha hb
end PD
end

section
set_option Elab.async false
set_option linter.all false
set_option maxRecDepth 100000
set_option maxHeartbeats 1000000
namespace PD
open PySem PySem.Spec PyProof.Rows L2
variable {X : Cx} {W : WX} {pos : Pos} {e e1 e2 e3 : Expr} {es : List Expr} {f g h : M PyData} {fs : M (List PyData)} {fb gb : M Bool}
variable {K : PySem.W.Frag} {ph : Fx} {am am' am1 : Am} {H H' H1 : Hp} {σ σ' : L2.St} {δ δ' δ1 : Sg} {a p p1 p2 : Addr} {v : V} {vs : List V} {d : PyData} {ds : List PyData} {i : Nat}

/-! ### x.extend(a new list) -/
def sExt (i : Nat) (fs : M (List PyData)) : MS := fun δ => match δ[i]? with
  | some (.ow _ _) => (bnd fs fun xs => fun δ1 => match δ1[i]? with
    | some (.ow b ds) => if ds.length + xs.length ≤ sizeLine then some (.ok .nx, δ1.set i (.ow b (ds ++ xs))) else none
    | _ => none) δ
  | _ => none
theorem ds_ext {i : Nat} {x : Str} {pn apos cpos : Pos} (he : DF X W e fs) (hN : X.N[i]? = some x := by rfl) (hv : Vis X.env.scope x := by first | exact Or.inl rfl | exact Or.inr (Or.inl rfl) | exact Or.inr (Or.inr rfl)) (hd : (x == ("__debug__" : Str)) = false := by decide) (hcd : (x == ("__classdict__" : Str)) = false := by decide)
    (hs0 : starEach [e] X.env = (false, eval e X.env) :: starEach [] X.env := by rfl)
    (hbase : attributeBase (.Name x pn) "extend" X.env (eval (.Name x pn) X.env) = eval (.Name x pn) X.env := by rfl)
    (hfew : ((backTo cpos (starEach [e] X.env)).all (fun x => !x.1) && (backToKw cpos (keywordEach [] X.env)).all (fun x => x.1.isSome)
      && decide (([e] : List Expr).length + ([] : List Keyword).length + (if ([] : List Keyword).isEmpty then 0 else 1) < 30)) = true := by rfl)
    (hline : (apos.endLine == cpos.line) = true := by rfl) (hplain : (backTo cpos (starEach [] X.env)).any (·.1) = false := by rfl)
    (hs : swapsWith (.Call (.Attribute (.Name x pn) "extend" apos) [e] [] cpos) none pos.line X.env = pure false := by rfl) : DS X W (.Expr (.Call (.Attribute (.Name x pn) "extend" apos) [e] [] cpos) pos) (sExt i fs) := by
  obtain ⟨t, p, q⟩ := he.ex
  refine ⟨⟨_, ps_expr (pe_bm PySem.F.plainAttrs_list PySem.F.slot_list_extend PySem.F.type_list_extend mt_extend (pe_var hN hv hd hcd) (pa_cons p pa_nil hs0) hbase hfew hline hs0 hplain) hs, fun ph am σ H δ D ans δ' sr z k kx => ?_⟩⟩
  unfold sExt at z
  split at z
  · rename_i b0 ds0 e3
    obtain ⟨a0, vs0, o1, o2, o3, o4, _, _⟩ := sr.ow i b0 ds0 e3
    refine ⟨.ref a0, o2, .inl ⟨rfl, _, .inl (.inl o3)⟩, ?_⟩
    rcases bnd_some z with ⟨d, δ2, e4, e5⟩ | ⟨c, fs, e4, e5⟩
    · refine q ph am σ H δ _ _ _ sr e4 (fun xs ed am2 D2 ws H2 n0 n1 st2 s2 d2 hz => ?_) (fun c fs z => by cases z)
      cases ed
      split at e5
      · rename_i b ds e6
        have sm : Same H2 (upd H2 D2 (.lst ws)) := same_new n1
        have s3 := s2.same sm
        obtain ⟨a1, vs1, r1, r2, r3, r4, r5, r6⟩ := s3.ow i b ds e6
        rw [o2] at r2
        cases r2
        obtain ⟨hz2, e8⟩ := if_some e5
        cases e8
        have hl : vs1.length + ws.length ≤ sizeLine := by rw [r4.length, d2.length]; exact hz2
        refine ⟨a0, D2, vs1, ws, rfl, rfl, r3, upd_same, hl, ?_⟩
        exact k _ rfl am2 σ _ ((st2.trans (Step.of sm)).trans (step_mut r1 r3)) (s3.mut e6 r1 (r4.append (dps_mono (hid_same sm) d2)) (by rw [List.length_append]; exact hl))
      · cases e5
    · subst e5
      exact q ph am σ H δ _ _ _ sr e4 (fun d ed => by cases ed) (fun c' fs' z => by cases z; exact (kx _ _ rfl).at)
  · cases z

/-! ### while, with so much fuel -/
variable {gs hs : MS} {body : List Stmt}
def sWhile (t : M Bool) (b : MS) : Nat → MS
  | 0, _ => none
  | n + 1, δ => match t δ with
    | some (.ok false, δ1) => some (.ok .nx, δ1)
    | some (.ok true, δ1) => (match b δ1 with
      | some (.ok .nx, δ2) => sWhile t b n δ2
      | some (.ok .ct, δ2) => sWhile t b n δ2
      | some (.ok .bk, δ2) => some (.ok .nx, δ2)
      | r => r)
    | _ => none
theorem ds_while {c : Expr} (n : Nat) (hp : PassesOwn (model X.prog X.w) X.A X.env X.xe) (hc : DT X W c fb) (hb : DSs X W body gs) : DS X W (.While c body [] pos) (sWhile fb gs n) := by
  obtain ⟨tc, pc, qc⟩ := hc.ex
  obtain ⟨tb, pb, qb⟩ := hb.ex
  refine ⟨⟨_, ps_while hp pc pb, fun ph am σ H δ D ans δ' s z k kx => ?_⟩⟩
  refine ⟨fun m σ' H' => ∃ am2 δ2, Step am H am2 H' ∧ SR X.K ph am2 σ' H' δ2 ∧ sWhile fb gs m δ2 = some (ans, δ'), ⟨n, am, δ, Step.refl, s, z⟩, ?_⟩
  rintro m σ' H' ⟨am2, δ2, st, s2, el⟩
  cases m with
  | zero => cases el
  | succ m =>
    unfold sWhile at el
    split at el
    · rename_i δ3 et
      cases el
      exact qc ph am2 σ' H' δ2 _ _ _ s2 et (fun b eb am3 H3 st3 s3 => by
        cases eb
        rw [if_neg Bool.false_ne_true]
        exact k _ rfl am3 σ' H3 (st.trans st3) s3) (fun c fs z => by cases z)
    · rename_i δ3 et
      refine qc ph am2 σ' H' δ2 _ _ _ s2 et (fun b eb am3 H3 st3 s3 => ?_) (fun c fs z => by cases z)
      cases eb
      rw [if_pos rfl]
      have stA := st.trans st3
      refine ⟨fun σ4 H4 => ∃ am4 δ4, Step am H am4 H4 ∧ SR X.K ph am4 σ4 H4 δ4 ∧ sWhile fb gs m δ4 = some (ans, δ'), fun σ4 H4 q => ⟨m, Nat.lt_succ_self m, q⟩, ?_⟩
      split at el
      · rename_i δ4 eb
        exact qb ph am3 σ' H3 δ3 _ _ _ s3 eb (fun fl z => by cases z; exact fun am5 σ5 H5 st5 s5 => ⟨am5, δ4, stA.trans st5, s5, el⟩) (fun c fs z => by cases z)
      · rename_i δ4 eb
        exact qb ph am3 σ' H3 δ3 _ _ _ s3 eb (fun fl z => by cases z; exact fun am5 σ5 H5 st5 s5 => ⟨am5, δ4, stA.trans st5, s5, el⟩) (fun c fs z => by cases z)
      · rename_i δ4 eb
        cases el
        exact qb ph am3 σ' H3 δ3 _ _ _ s3 eb (fun fl z => by cases z; exact fun am5 σ5 H5 st5 s5 => k _ rfl am5 σ5 H5 (stA.trans st5) s5) (fun c fs z => by cases z)
      · rename_i n1 n2 n3
        refine qb ph am3 σ' H3 δ3 _ ans δ' s3 el (fun fl z => ?_) (fun c fs z => (kx c fs z).step stA)
        subst z
        cases fl with
        | nx => exact (n1 _ el).elim
        | ct => exact (n2 _ el).elim
        | bk => exact (n3 _ el).elim
        | rt d => exact fun am5 σ5 v H5 st5 s5 d5 => k _ rfl am5 σ5 v H5 (stA.trans st5) s5 d5
        | rf ds => exact fun am5 σ5 p vs H5 m1 m2 st5 s5 d5 => k _ rfl am5 σ5 p vs H5 (stA.none m1) m2 (stA.trans st5) s5 d5
        | ro ds => exact fun am5 σ5 i p vs H5 st5 s5 d5 => k _ rfl am5 σ5 i p vs H5 (stA.trans st5) s5 d5
    · cases el
end PD
end

section
set_option Elab.async false
set_option linter.all false
set_option maxRecDepth 100000
set_option maxHeartbeats 1000000
namespace PD
open PySem PySem.Spec PyProof.Rows L2
variable {X : Cx} {W : WX} {pos : Pos} {e e1 e2 e3 : Expr} {es : List Expr} {f g h : M PyData} {fs gs : M (List PyData)} {fb gb : M Bool}
variable {K : PySem.W.Frag} {ph : Fx} {am am' am1 : Am} {H H' H1 : Hp} {σ σ' : L2.St} {δ δ' δ1 : Sg} {a p p1 p2 : Addr} {v : V} {vs : List V} {d : PyData} {ds : List PyData} {i : Nat}

/-! ### max(xs), min(xs, default=d), max(xs, default=d), xs a list of ints -/
theorem ints_reads {h : Heap} : ∀ {ns : List Int} {us : List Value}, Vals (ns.map V.int) us → ∃ as, ReadsAll h us (ns.map .int) as
  | [], _, r => by cases r; exact ⟨_, .nil⟩
  | n :: ns, _, r => by
    cases r with
    | cons r1 r2 =>
      obtain ⟨as, h2⟩ := ints_reads r2
      obtain ⟨t, rfl⟩ := r1
      exact ⟨_, .cons (.int n t) h2⟩
theorem alike_all_ints (ns : List Int) : PySem.W.AlikeAll (ns.map .int) := by
  refine ⟨fun x hx y hy => ?_, fun x hx z => ?_⟩
  · obtain ⟨i, _, rfl⟩ := List.mem_map.mp hx
    obtain ⟨j, _, rfl⟩ := List.mem_map.mp hy
    simp [PySem.W.alike]
  · obtain ⟨i, _, rfl⟩ := List.mem_map.mp hx
    cases z
def bestI (mx : Bool) (n : Int) (ns : List Int) : Int := ns.foldl (if mx then max else min) n
theorem bestI_max (n : Int) (ns : List Int) : PySem.W.maxD (.int n) (ns.map .int) = .int (bestI true n ns) := PySem.W.maxD_ints n ns
theorem bestI_min (n : Int) (ns : List Int) : PySem.W.minD (.int n) (ns.map .int) = .int (bestI false n ns) := PySem.W.minD_ints n ns
/-- max(xs) -/
def rMaxL (K : PySem.W.Frag) : List V → Hp → VK → Prop := fun xs H Q => ∃ a n ns, xs = [.ref a] ∧ SqL K H a ((n :: ns).map V.int) ∧ Q (.int (bestI true n ns)) H
theorem cr_maxL (hc : X.calm = true) (hu : X.A.units + 65 < cLine) : CallR X (.builtin "max") (rMaxL X.K) := by
  intro pins s σ H vs us Q I r h
  obtain ⟨a, n, ns, rfl, hs, q⟩ := h
  obtain ⟨its, rv, hl, _⟩ := I.list hs
  rw [Vals.ref1 r]
  obtain ⟨as, hr⟩ := ints_reads (h := s.heap) rv
  refine PySem.W.max_list_data (x := .int n) (xs := ns.map .int) (I.ok.hd hc) hl.isList (by simpa using hr) (alike_all_ints (n :: ns)) (by
    have := PySem.W.depth_ints (n :: ns)
    rw [List.map_cons] at this
    rw [this]; omega) fun i v h' tk bs hv hrd hk => ?_
  rw [bestI_max] at hrd
  cases hrd
  exact ⟨.int _, H, I.kept hk, ⟨_, rfl⟩, q⟩
def maxLD : List PyData → Option PyData
  | [.list xs] => match ints? xs with
    | some (n :: ns) => some (.int (bestI true n ns))
    | _ => none
  | _ => none
theorem calld_maxL : CallD X (rMaxL X.K) maxLD := one_list (R := fun xs c => ∃ n ns, ints? xs = some (n :: ns) ∧ c = .int (bestI true n ns)) (fun ds c h => by
    unfold maxLD at h
    split at h
    · rename_i xs
      split at h
      · rename_i n ns e
        cases h; exact ⟨xs, rfl, n, ns, e, rfl⟩
      · cases h
    · cases h) fun a vs xs c H ph am Q h1 a1 ⟨n, ns, hb, e⟩ k => by
      subst e
      have := ints_vs a1 hb
      subst this
      exact ⟨a, n, ns, rfl, h1, k _ (.int _)⟩
theorem de_maxL {pf : Pos} (hu : X.A.units + 65 < cLine) (hd : DA X W [e] fs) (hm : X.mg "max" = none) (hc : X.calm = true := by rfl) (hg : Gl X "max" := by rfl) (he : starEach [e] X.env = (false, eval e X.env) :: starEach [] X.env := by rfl) (hpl : (backTo pos (starEach [] X.env)).any (·.1) = false := by rfl) : DE X W (.Call (.Name "max" pf) [e] [] pos) (xCall maxLD fs) :=
  de_callB calld_maxL (cr_maxL hc hu) hm bb_max hd hg (by decide) (by decide) he hpl
/-- with default=d -/
def rBest (K : PySem.W.Frag) (mx : Bool) : List V → List V → Hp → VK → Prop := fun xs zs H Q => ∃ a ns z, xs = [.ref a] ∧ zs = [z] ∧ SqL K H a (ns.map V.int) ∧ (ns = [] → Q z H) ∧ ∀ n r, ns = n :: r → Q (.int (bestI mx n r)) H
theorem cr_bestMin (hc : X.calm = true) (hu : X.A.units + 65 < cLine) : CallRK X (.builtin "min") [Str.ofString "default"] (rBest X.K false) := by
  intro pins s σ H xs zs us ws Q I r rz h
  obtain ⟨a, ns, z, rfl, rfl, hs, q0, q1⟩ := h
  obtain ⟨its, rv, hl, _⟩ := I.list hs
  rw [Vals.ref1 r]
  obtain ⟨wz, rfl, rwz⟩ := rz.one
  obtain ⟨as, hr⟩ := ints_reads (h := s.heap) rv
  refine PySem.W.min_list_default (xs := ns.map .int) (I.ok.hd hc) hl.isList (by simpa using hr) (alike_all_ints ns) (by rw [PySem.W.depth_ints]; omega) (fun e h' tk hk => ?_) fun y ys i v h' tk bs e hv hrd hk => ?_
  · exact ⟨z, H, I.kept hk, rwz, q0 (by simpa using e)⟩
  · cases ns with
    | nil => cases e
    | cons n r =>
      cases e
      rw [bestI_min] at hrd
      cases hrd
      exact ⟨.int _, H, I.kept hk, ⟨_, rfl⟩, q1 n r rfl⟩
theorem cr_bestMax (hc : X.calm = true) (hu : X.A.units + 65 < cLine) : CallRK X (.builtin "max") [Str.ofString "default"] (rBest X.K true) := by
  intro pins s σ H xs zs us ws Q I r rz h
  obtain ⟨a, ns, z, rfl, rfl, hs, q0, q1⟩ := h
  obtain ⟨its, rv, hl, _⟩ := I.list hs
  rw [Vals.ref1 r]
  obtain ⟨wz, rfl, rwz⟩ := rz.one
  obtain ⟨as, hr⟩ := ints_reads (h := s.heap) rv
  refine PySem.W.max_list_default (xs := ns.map .int) (I.ok.hd hc) hl.isList (by simpa using hr) (alike_all_ints ns) (by rw [PySem.W.depth_ints]; omega) (fun e h' tk hk => ?_) fun y ys i v h' tk bs e hv hrd hk => ?_
  · exact ⟨z, H, I.kept hk, rwz, q0 (by simpa using e)⟩
  · cases ns with
    | nil => cases e
    | cons n r =>
      cases e
      rw [bestI_max] at hrd
      cases hrd
      exact ⟨.int _, H, I.kept hk, ⟨_, rfl⟩, q1 n r rfl⟩
def bestD (mx : Bool) (ds zs : List PyData) : Option PyData := match ds, zs with
  | [.list xs], [z] => match ints? xs with
    | some [] => some z
    | some (n :: ns) => some (.int (bestI mx n ns))
    | none => none
  | _, _ => none
def xCallK (F : List PyData → List PyData → Option PyData) (fs gs : M (List PyData)) : M PyData := bnd fs fun ds => bnd gs fun zs => lif (F ds zs)
theorem best_read {mx : Bool} {t tk : TA} (qa : ReadA X W t fs) (qb : ReadA X W tk gs) : ReadE X W (tCKw (rBest X.K mx) t tk) (xCallK (bestD mx) fs gs) := by
  intro ph am σ H δ Q ans δ' s q k kx
  rcases bnd_some q with ⟨a, δ1, e1, q1⟩ | ⟨c, fs, e1, q1⟩
  · refine qa ph am σ H δ _ _ _ s e1 (fun ds ed am1 xs H1 st1 s1 d1 => ?_) (fun c fs z => by cases z)
    cases ed
    rcases bnd_some q1 with ⟨b, δ2, e2, q2⟩ | ⟨c, fs, e2, q2⟩
    · refine qb ph am1 σ H1 δ1 _ _ _ s1 e2 (fun zs ed am2 ys H2 st2 s2 d2 => ?_) (fun c fs z => by cases z)
      cases ed
      obtain ⟨c, ec, rfl, rfl⟩ := lif_some q2
      have d1' := dps_mono st2.hid d1
      unfold bestD at ec
      split at ec
      · rename_i xs0 z0
        cases d1' with
        | cons h1 t1 =>
          cases t1
          cases d2 with
          | cons g1 t2 =>
            cases t2
            rename_i v1 _ v2
            cases h1 with
            | lst l1 l2 =>
              have fin : ∀ w, Dq X.K (hid ph am2 H2) w c → Q w H2 := fun w dw => k _ rfl am2 w H2 (st1.trans st2) s2 dw
              split at ec
              · rename_i hi
                cases ec
                have hv := ints_vs l2 hi
                subst hv
                exact ⟨_, [], _, rfl, rfl, rd_hid l1, fun _ => fin _ g1, fun n r z => by cases z⟩
              · rename_i n ns hi
                cases ec
                have hv := ints_vs l2 hi
                subst hv
                exact ⟨_, n :: ns, _, rfl, rfl, rd_hid l1, fun z => (by cases z), fun n' r z => by cases z; exact fin _ (.int _)⟩
              · cases ec
      · cases ec
    · subst q2
      exact qb ph am1 σ H1 δ1 _ _ _ s1 e2 (fun d ed => by cases ed) (fun c' fs' z => by cases z; exact (kx _ _ rfl).step st1)
  · subst q1
    exact qa ph am σ H δ _ _ _ s e1 (fun d ed => by cases ed) (fun c' fs' z => by cases z; exact kx _ _ rfl)
theorem de_minK {pf : Pos} {kws : List Keyword} (hu : X.A.units + 65 < cLine) (ha : DA X W [e] fs) (hk : DK X W kws gs) (hm : X.mg "min" = none) (hc : X.calm = true := by rfl) (hg : Gl X "min" := by rfl)
    (he : backTo pos (starEach [e] X.env) = (false, eval e X.env) :: backTo pos (starEach [] X.env) := by rfl) (hpl : (backTo pos (starEach [e] X.env)).any (·.1) = false := by rfl)
    (hall : (backToKw pos (keywordEach kws X.env)).all (·.1.isSome) = true := by rfl) (hnone : (backToKw pos (keywordEach kws X.env)).any (·.1.isNone) = false := by rfl) (hks : (backToKw pos (keywordEach kws X.env)).filterMap (·.1) = [Str.ofString "default"] := by rfl) :
    DE X W (.Call (.Name "min" pf) [e] kws pos) (xCallK (bestD false) fs gs) := by
  obtain ⟨ta, pa, qa⟩ := ha.ex
  obtain ⟨tb, pb, qb⟩ := hk.ex
  exact ⟨⟨_, pe_callBK (cr_bestMin hc hu) hg hm bb_min pa pb (by decide) (by decide) he hpl hall hnone hks, best_read qa qb⟩⟩
theorem de_maxK {pf : Pos} {kws : List Keyword} (hu : X.A.units + 65 < cLine) (ha : DA X W [e] fs) (hk : DK X W kws gs) (hm : X.mg "max" = none) (hc : X.calm = true := by rfl) (hg : Gl X "max" := by rfl)
    (he : backTo pos (starEach [e] X.env) = (false, eval e X.env) :: backTo pos (starEach [] X.env) := by rfl) (hpl : (backTo pos (starEach [e] X.env)).any (·.1) = false := by rfl)
    (hall : (backToKw pos (keywordEach kws X.env)).all (·.1.isSome) = true := by rfl) (hnone : (backToKw pos (keywordEach kws X.env)).any (·.1.isNone) = false := by rfl) (hks : (backToKw pos (keywordEach kws X.env)).filterMap (·.1) = [Str.ofString "default"] := by rfl) :
    DE X W (.Call (.Name "max" pf) [e] kws pos) (xCallK (bestD true) fs gs) := by
  obtain ⟨ta, pa, qa⟩ := ha.ex
  obtain ⟨tb, pb, qb⟩ := hk.ex
  exact ⟨⟨_, pe_callBK (cr_bestMax hc hu) hg hm bb_max pa pb (by decide) (by decide) he hpl hall hnone hks, best_read qa qb⟩⟩
end PD
end

section
set_option Elab.async false
set_option linter.all false
set_option maxRecDepth 100000
set_option maxHeartbeats 2000000
namespace PD
open PySem PySem.Spec PyProof.Rows L2
variable {X : Cx} {W : WX} {pos : Pos} {e e1 e2 e3 : Expr} {es : List Expr} {f g h : M PyData} {fs gs : M (List PyData)} {fb gb : M Bool}
variable {K : PySem.W.Frag} {ph : Fx} {am am' am1 : Am} {H H' H1 : Hp} {σ σ' : L2.St} {δ δ' δ1 : Sg} {a p p1 p2 : Addr} {v : V} {vs : List V} {d : PyData} {ds : List PyData} {i : Nat}

/-! ### sorted(set(xs)): xs a list or a tuple of ints, or a list of pairs of small numbers -/
def pairsOf : List PyData → Option (List (Int × Int))
  | [] => some []
  | .tuple [.int x, .int y] :: ds => if 0 ≤ x ∧ x < 64 ∧ 0 ≤ y ∧ y < 64 then (pairsOf ds).map ((x, y) :: ·) else none
  | _ => none
def codeP (q : Int × Int) : Int := q.1 * 64 + q.2
def decP (c : Int) : PyData := .tuple [.int (c / 64), .int (c % 64)]
def sortSetX : List PyData → Option (List PyData)
  | [.list ds] => match intsOf ds with
    | some ns => if ns.length < 64 then some ((setI ns).map .int) else none
    | none => match pairsOf ds with
      | some ps => if ps.length < 64 then some ((setI (ps.map codeP)).map decP) else none
      | none => none
  | [.tuple ds] => match intsOf ds with
    | some ns => if ns.length < 64 then some ((setI ns).map .int) else none
    | none => none
  | _ => none
def rSetTp (K : PySem.W.Frag) (w : World) : List V → Hp → VK → Prop := fun xs H Q => ∃ (l : Addr) (ns : List Int), xs = [V.ref l] ∧ SqT K H l (ns.map V.int) ∧ ns.length < 64 ∧
  ∀ a c, H a = none → c ≤ ns.length → Q (.ref a) (upd H a (SetO w a (fun j => decide (j ∈ ns)) c))
theorem cr_setTp (hc : X.calm = true) : CallR X (.type "set") (rSetTp X.K X.w) := by
  intro pins s σ H xs us Q I r h
  obtain ⟨l, ns, rfl, hl, hf, q⟩ := h
  rw [Vals.ref1 r]
  obtain ⟨its, rv, pl, hz⟩ := I.tuple hl
  obtain ⟨o, ho, hcl, n, hd⟩ := pl
  refine call_set_tupI ns (I.ok.hd hc) ⟨o, ho, hcl, n, hd⟩ (by simpa using rv.ints) (by unfold scanBound; omega) fun h' tk c R hle k => ?_
  exact ⟨.ref s.heap.objs.size, upd H s.heap.objs.size (SetO X.w s.heap.objs.size _ c), I.laid (t' := tk) k (Nat.le_refl _) (setO_new R), rfl, q _ c (I.hok.fresh (Nat.le_refl _)) hle⟩
def rSetX (K : PySem.W.Frag) (P : Program) (w : World) : List V → Hp → VK → Prop := fun xs H Q => rSetI K w xs H Q ∨ rSetTp K w xs H Q ∨ rSetOfT K P w xs H Q
theorem cr_setX (hc : X.calm = true) (hu : X.A.units + 65 < cLine) : CallR X (.type "set") (rSetX X.K X.prog X.w) := by
  intro pins s σ H xs us Q I r h
  rcases h with h | h | h
  · exact cr_setI hc pins s σ H xs us Q I r h
  · exact cr_setTp hc pins s σ H xs us Q I r h
  · exact cr_setOfT hc (by omega) pins s σ H xs us Q I r h
def rSortX (K : PySem.W.Frag) (P : Program) (w : World) : List V → Hp → VK → Prop := fun xs H Q => rSortedSet w xs H Q ∨ rSortedT K P w xs H Q
theorem cr_sortX (hc : X.calm = true) : CallR X (.builtin "sorted") (rSortX X.K X.prog X.w) := by
  intro pins s σ H xs us Q I r h
  rcases h with h | h
  · exact cr_sortedSet hc pins s σ H xs us Q I r h
  · exact cr_sortedT hc pins s σ H xs us Q I r h
theorem pairs_q : ∀ {vs : List V} {ds : List PyData} {ps : List (Int × Int)}, DqAll K H vs ds → pairsOf ds = some ps → ∃ ks : List (Addr × List Int), vs = (ks.map fun p => V.ref p.1) ∧ (∀ q ∈ ks, H q.1 = some (.tup (q.2.map V.int))) ∧ ks.map (·.2) = ps.map (fun q => [q.1, q.2]) ∧ ∀ q ∈ ps, 0 ≤ q.1 ∧ q.1 < 64 ∧ 0 ≤ q.2 ∧ q.2 < 64
  | _, _, _, .nil, e => by cases e; exact ⟨[], rfl, (fun _ h => by cases h), rfl, (fun _ h => by cases h)⟩
  | _, _, _, .cons h t, e => by
    cases h with
    | tup h1 h2 =>
      rename_i a xs ds0
      cases h2 with
      | nil => cases e
      | cons g1 t1 =>
        cases t1 with
        | nil => cases g1 <;> cases e
        | cons g2 t2 =>
          cases t2 with
          | cons _ _ => cases g1 <;> cases g2 <;> cases e
          | nil =>
            cases g1 with
            | int x =>
              cases g2 with
              | int y =>
                unfold pairsOf at e
                split at e
                · rename_i hb
                  obtain ⟨ps, e1, rfl⟩ := Option.map_eq_some_iff.mp e
                  obtain ⟨ks, k1, k2, k3, k4⟩ := pairs_q t e1
                  refine ⟨(a, [x, y]) :: ks, by rw [k1]; rfl, fun q hq => ?_, by rw [List.map_cons, List.map_cons, k3], fun q hq => ?_⟩
                  · rcases List.mem_cons.mp hq with rfl | hq
                    · exact h1
                    · exact k2 q hq
                  · rcases List.mem_cons.mp hq with rfl | hq
                    · exact hb
                    · exact k4 q hq
                · cases e
              | _ => cases e
            | _ => cases e
    | _ => cases e
theorem dec_code {x y : Int} (h : 0 ≤ x ∧ x < 64 ∧ 0 ≤ y ∧ y < 64) : decP (TS.code 64 [x, y]) = .tuple [.int x, .int y] := by
  unfold decP
  rw [code_pair]
  have e1 : (x * 64 + y) / 64 = x := by omega
  have e2 : (x * 64 + y) % 64 = y := by omega
  rw [e1, e2]
theorem code_eq {x y x' y' : Int} (h : 0 ≤ x ∧ x < 64 ∧ 0 ≤ y ∧ y < 64) (h' : 0 ≤ x' ∧ x' < 64 ∧ 0 ≤ y' ∧ y' < 64) (e : TS.code 64 [x, y] = TS.code 64 [x', y']) : ([x, y] : List Int) = [x', y'] := by
  rw [code_pair, code_pair] at e
  have e1 : x = x' := by omega
  have e2 : y = y' := by omega
  rw [e1, e2]
/-- what comes out of a sorted set of pairs -/
theorem pairs_out {ps : List (Int × Int)} {rows : List (List Int)} (hb : ∀ q ∈ ps, 0 ≤ q.1 ∧ q.1 < 64 ∧ 0 ≤ q.2 ∧ q.2 < 64) (hm : ∀ r, r ∈ rows ↔ r ∈ ps.map (fun q => [q.1, q.2])) (nd : rows.Nodup) (pw : rows.Pairwise fun q r => TS.code 64 q ≤ TS.code 64 r) :
    rows.map (fun r => PyData.tuple (r.map .int)) = (setI (ps.map codeP)).map decP := by
  have hrow : ∀ r ∈ rows, ∃ q ∈ ps, r = [q.1, q.2] := fun r hr => by
    obtain ⟨q, h1, h2⟩ := List.mem_map.mp ((hm r).mp hr)
    exact ⟨q, h1, h2.symm⟩
  have hc : rows.map (TS.code 64) = setI (ps.map codeP) := by
    refine lt_unique ?_ (setI_sorted _) fun y => ?_
    · rw [List.pairwise_map]
      refine (pw.and nd).imp_of_mem fun {q r} hq hr h => ?_
      obtain ⟨h1, h2⟩ := h
      refine Int.lt_iff_le_and_ne.mpr ⟨h1, fun z => h2 ?_⟩
      obtain ⟨a, ha, rfl⟩ := hrow q hq
      obtain ⟨b, hb', rfl⟩ := hrow r hr
      exact code_eq (hb a ha) (hb b hb') z
    · rw [setI_mem, List.mem_map, List.mem_map]
      constructor
      · rintro ⟨r, hr, rfl⟩
        obtain ⟨q, hq, rfl⟩ := hrow r hr
        exact ⟨q, hq, by unfold codeP; rw [code_pair]⟩
      · rintro ⟨q, hq, rfl⟩
        exact ⟨[q.1, q.2], (hm _).mpr (List.mem_map.mpr ⟨q, hq, rfl⟩), by unfold codeP; rw [code_pair]⟩
  rw [← hc, List.map_map]
  refine List.map_congr_left fun r hr => ?_
  obtain ⟨q, hq, rfl⟩ := hrow r hr
  exact (dec_code (hb q hq)).symm
theorem refs_q {L : List (Addr × List Int)} (h : ∀ q ∈ L, H q.1 = some (.tup (q.2.map V.int))) : DqAll K H (L.map fun q => V.ref q.1) ((L.map (·.2)).map fun r => PyData.tuple (r.map .int)) := by
  induction L with
  | nil => exact .nil
  | cons q L ih => exact .cons (.tup (h q (List.mem_cons_self ..)) (ints_q _)) (ih fun r hr => h r (List.mem_cons_of_mem _ hr))
theorem df_sortSetX {pf ps p2 : Pos} (hc : X.calm = true) (hu : X.A.units + 65 < cLine) (hm : X.mg "sorted" = none) (hm2 : X.mg "set" = none) (h : DA X W [e] fs) (hg : Gl X "sorted" := by rfl) (hg2 : Gl X "set" := by rfl)
    (he : starEach [e] X.env = (false, eval e X.env) :: starEach [] X.env := by rfl) (hpl : (backTo p2 (starEach [] X.env)).any (·.1) = false := by rfl)
    (he2 : starEach [.Call (.Name "set" ps) [e] [] p2] X.env = (false, eval (.Call (.Name "set" ps) [e] [] p2) X.env) :: starEach [] X.env := by rfl) (hpl2 : (backTo pos (starEach [] X.env)).any (·.1) = false := by rfl) :
    DF X W (.Call (.Name "sorted" pf) [.Call (.Name "set" ps) [e] [] p2] [] pos) (xCallF sortSetX fs) := by
  obtain ⟨t, pt, qt⟩ := h.ex
  refine ⟨⟨_, pe_callB (cr_sortX hc) hg hm (by decide +kernel) (pa_cons (pe_callTy (cr_setX hc hu) hg2 hm2 (by decide +kernel) pt (by decide) (by decide) he hpl) pa_nil he2) (by decide) (by decide) he2 hpl2, fun ph am σ H δ Q ans δ' s z k kx => ?_⟩⟩
  rcases bnd_some z with ⟨xs, δ1, e1, e2⟩ | ⟨c, fs, e1, e2⟩
  · refine qt ph am σ H δ _ _ _ s e1 (fun d' ed am1 us H1 st1 s1 dv => ?_) (fun c fs z => by cases z)
    cases ed
    obtain ⟨rs, e3, rfl, rfl⟩ := lif_some e2
    have fin : ∀ ns : List Int, ∀ (a : Addr) (c : Nat), H1 a = none → c ≤ ns.length → ns.length < 64 → rs = (setI ns).map .int → rSortX X.K X.prog X.w [V.ref a] (upd H1 a (SetO X.w a (fun j => decide (j ∈ ns)) c)) Q := fun ns a c na hle hz er => by
      have sm : Same H1 (upd H1 a (SetO X.w a (fun j => decide (j ∈ ns)) c)) := same_new na
      refine .inl ⟨a, _, c, rfl, upd_same, by omega, fun ms p hs hms hl np => ?_⟩
      have em : ms = setI ns := lt_unique hs (setI_sorted ns) fun y => by rw [hms y, setI_mem]; simp
      subst em
      have st := st1.trans (Step.of (am := am1) sm)
      subst er
      exact k _ rfl am1 p _ _ (st.none np) np st (s1.same sm) (ints_q _) (by rw [List.length_map, sizeLine_eq]; have := setI_length ns; omega)
    cases dv with
    | nil => cases e3
    | cons g t =>
      cases t with
      | cons _ _ => cases g <;> cases e3
      | nil =>
        cases g with
        | lst h1 a1 =>
          unfold sortSetX at e3
          simp only at e3
          split at e3
          · rename_i ns e4
            obtain ⟨hz, rfl⟩ := if_some e3
            have ev := intsOf_q a1 e4
            subst ev
            exact .inl ⟨_, ns, rfl, rd_hid h1, hz, fun a c na hle => fin ns a c na hle hz rfl⟩
          · split at e3
            · rename_i qs e4
              obtain ⟨hz, rfl⟩ := if_some e3
              obtain ⟨ks, k1, k2, k3, k4⟩ := pairs_q a1 e4
              subst k1
              have hkl : ks.length = qs.length := by
                have := congrArg List.length k3
                simpa using this
              refine .inr (.inr ⟨_, ks, rfl, rd_hid h1, fun q hq => .inl (.inl (hid_sub _ _ (k2 q hq))), by omega, fun a L na hL hA => ?_⟩)
              have sm : Same H1 (upd H1 a (SetTO X.prog X.w a L)) := same_new na
              have hmem : ∀ r, r ∈ L.map (·.2) ↔ r ∈ qs.map (fun q => [q.1, q.2]) := fun r => by
                rw [← k3]
                constructor
                · intro h
                  obtain ⟨q, hq, rfl⟩ := List.mem_map.mp h
                  exact List.mem_map.mpr ⟨q, hL q hq, rfl⟩
                · intro h
                  obtain ⟨q, hq, rfl⟩ := List.mem_map.mp h
                  exact hA q hq
              refine .inr ⟨a, L, 2, 64, rfl, upd_same, fun q hq => .inl (.inl (sm _ _ (hid_sub _ _ (k2 q (hL q hq))))), by omega, fun q hq => ?_, fun L' p pm nd hl pw np => ?_⟩
              · obtain ⟨b, hb, e⟩ := List.mem_map.mp ((hmem q.2).mp (List.mem_map.mpr ⟨q, hq, rfl⟩))
                rw [← e]
                obtain ⟨b1, b2, b3, b4⟩ := k4 b hb
                refine ⟨rfl, fun m hm => ?_⟩
                simp only [List.mem_cons, List.not_mem_nil, or_false] at hm
                rcases hm with rfl | rfl
                · exact ⟨b1, b2⟩
                · exact ⟨b3, b4⟩
              · have st := st1.trans (Step.of (am := am1) sm)
                have hs2 := s1.same sm
                have hq := refs_q (K := X.K) (H := hid ph am1 (upd H1 a (SetTO X.prog X.w a L))) (L := L') fun q hq => hid_same sm _ _ (k2 q (hL q (pm.mem_iff.mp hq)))
                rw [pairs_out k4 (fun r => by rw [(pm.map (·.2)).mem_iff]; exact hmem r) nd (by rw [List.pairwise_map]; exact pw)] at hq
                exact k _ rfl am1 p _ _ (st.none np) np st hs2 hq (by rw [List.length_map, sizeLine_eq]; omega)
            · cases e3
        | tup h1 a1 =>
          unfold sortSetX at e3
          simp only at e3
          split at e3
          · rename_i ns e4
            obtain ⟨hz, rfl⟩ := if_some e3
            have ev := intsOf_q a1 e4
            subst ev
            exact .inr (.inl ⟨_, ns, rfl, .inl (.inl (hid_sub _ _ h1)), hz, fun a c na hle => fin ns a c na hle hz rfl⟩)
          · cases e3
        | _ => cases e3
  · subst e2
    exact qt ph am σ H δ _ _ _ s e1 (fun d ed => by cases ed) (fun c' fs' z => by cases z; exact kx _ _ rfl)
end PD
end

section
set_option Elab.async false
set_option linter.all false
set_option maxRecDepth 100000
set_option maxHeartbeats 2000000
namespace PD
open PySem PySem.Spec PyProof.Rows L2
variable {X : Cx} {W : WX} {pos : Pos} {e e1 e2 e3 : Expr} {es : List Expr} {f g h : M PyData} {fs gs : M (List PyData)} {fb gb : M Bool}
variable {K : PySem.W.Frag} {ph : Fx} {am am' am1 : Am} {H H' H1 : Hp} {σ σ' : L2.St} {δ δ' δ1 : Sg} {a p p1 p2 : Addr} {v : V} {vs : List V} {d : PyData} {ds : List PyData} {i : Nat}

/-! ### len(set(xs)), xs a list of ints -/
def lenSetD (d : PyData) : Option PyData := match d with
  | .list ds => match intsOf ds with
    | some ns => if ns.length ≤ 4000 then some (.int ((PyProof.Rows.firstMet (fun i => ns.getD i 0) ns.length).length : Nat)) else none
    | none => none
  | _ => none
def tLenSetX (K : PySem.W.Frag) (ta : TE) : TE := fun σ H Q => ta σ H fun x H1 => ∃ (l : Addr) (ns : List Int), x = V.ref l ∧ SqL K H1 l (ns.map V.int) ∧ ns.length ≤ 4000 ∧ Q (.int ((PyProof.Rows.firstMet (fun i => ns.getD i 0) ns.length).length : Nat)) H1
theorem pe_lenSetX {ta : TE} {p p2 q pos : Pos} (hg : Gl X "len") (hm : X.mg "len" = none) (hg2 : Gl X "set") (hm2 : X.mg "set" = none) (ha : PE X e ta) (hc : X.calm = true)
    (na : starEach [e] X.env = (false, eval e X.env) :: starEach [] X.env) : PE X (.Call (.Name "len" p) [.Call (.Name "set" p2) [e] [] q] [] pos) (tLenSetX X.K ta) := by
  refine ⟨fun pins s σ H Q I h => ?_⟩
  refine Call_ (ld_blt I hg hm boot_len ?_)
  refine PyProof.Rows.callWith_builtin1 (PyProof.Rows.args_cons ?_ rfl) rfl rfl
  refine Call_ (ld_blt I hg2 hm2 boot_set ?_)
  refine PyProof.Rows.callWith_type1 (PyProof.Rows.args_cons (thn (ha.run pins s σ H _ I h) fun v s1 ⟨x, H1, I1, r1, q1⟩ => PyProof.Rows.args_nil ?_) na) na rfl
  obtain ⟨l, ns, rfl, hq, hl, q1⟩ := q1
  cases r1
  obtain ⟨its, r, pl, hz⟩ := I1.list hq
  have hlen : its.toArray.size = ns.length := by rw [List.size_toArray, ← r.length, List.length_map]
  refine call_set_list (I1.ok.hd hc) pl.isList (ns := ns) (by simpa using r.ints) (by rw [hlen]; unfold scanBound; omega) fun h' tk hS hk => ?_
  refine PyProof.Rows.args_nil ?_
  rw [hlen] at hS
  obtain ⟨o, es, ep, t, ho, hex, hd, _, _, _, hf, hn⟩ := hS
  have I2 : Inv X pins σ H1 { s1 with heap := h', toks := tk } := I1.kept fun b o e => hk b o (Heap.lt_size e) e
  have hle := PyProof.Rows.firstMet_length_le (fun i => ns.getD i 0) ns.length
  exact call_len_set ho hex hd hf (by rw [hn] <;> omega) ⟨.int _, H1, I2.tok _, ⟨_, by rw [hn]⟩, q1⟩
theorem de_lenSet {p p2 q : Pos} (hc : X.calm = true) (hm : X.mg "len" = none) (hm2 : X.mg "set" = none) (ha : DE X W e f) (hg : Gl X "len" := by rfl) (hg2 : Gl X "set" := by rfl) (na : starEach [e] X.env = (false, eval e X.env) :: starEach [] X.env := by rfl) :
    DE X W (.Call (.Name "len" p) [.Call (.Name "set" p2) [e] [] q] [] pos) (xUn lenSetD f) := by
  obtain ⟨ta, pa, qa⟩ := ha.ex
  refine ⟨⟨_, pe_lenSetX hg hm hg2 hm2 pa hc na, fun ph am σ H δ Q ans δ' s z k kx => ?_⟩⟩
  rcases bnd_some z with ⟨a, δ1, e1, q1⟩ | ⟨c, fs, e1, q1⟩
  · refine qa ph am σ H δ _ _ _ s e1 (fun d ed am1 x H1 st1 s1 d1 => ?_) (fun c fs z => by cases z)
    cases ed
    obtain ⟨z, e3, rfl, rfl⟩ := lif_some q1
    cases d1 with
    | lst h1 a1 =>
      unfold lenSetD at e3
      simp only at e3
      split at e3
      · rename_i ns e4
        obtain ⟨hz, rfl⟩ := if_some e3
        have ev := intsOf_q a1 e4
        subst ev
        exact ⟨_, ns, rfl, rd_hid h1, hz, k _ rfl am1 _ H1 st1 s1 (.int _)⟩
      · cases e3
    | _ => cases e3
  · subst q1
    exact qa ph am σ H δ _ _ _ s e1 (fun d ed => by cases ed) (fun c' fs' z => by cases z; exact kx _ _ rfl)
/-! ### tuple(range(e)) -/
def tupRgD (d : PyData) : Option PyData := match d with
  | .int n => if 0 ≤ n ∧ n ≤ 100000 then some (.tuple (rangeL 0 n.toNat)) else none
  | _ => none
theorem de_tupRg {p p2 q : Pos} (hc : X.calm = true) (hm : X.mg "tuple" = none) (hm2 : X.mg "range" = none) (ha : DE X W e f) (hg : Gl X "tuple" := by rfl) (hg2 : Gl X "range" := by rfl) (na : starEach [e] X.env = (false, eval e X.env) :: starEach [] X.env := by rfl)
    (na2 : starEach [.Call (.Name "range" p2) [e] [] q] X.env = (false, eval (.Call (.Name "range" p2) [e] [] q) X.env) :: starEach [] X.env := by rfl) :
    DE X W (.Call (.Name "tuple" p) [.Call (.Name "range" p2) [e] [] q] [] pos) (xUn tupRgD f) := by
  obtain ⟨ta, pa, qa⟩ := ha.ex
  refine ⟨⟨_, pe_tupRg hc hg hm (prg_1 hg2 hm2 pa na) na2, fun ph am σ H δ Q ans δ' s z k kx => ?_⟩⟩
  rcases bnd_some z with ⟨a, δ1, e1, q1⟩ | ⟨c, fs, e1, q1⟩
  · refine qa ph am σ H δ _ _ _ s e1 (fun d ed am1 x H1 st1 s1 d1 => ?_) (fun c fs z => by cases z)
    cases ed
    obtain ⟨z, e3, rfl, rfl⟩ := lif_some q1
    cases d1 with
    | int n =>
      unfold tupRgD at e3
      simp only at e3
      obtain ⟨hz, rfl⟩ := if_some e3
      refine ⟨n, rfl, ?_, fun q nq => ?_⟩
      · exact RgOk.of_le (by omega) (by omega) (by omega) (by omega)
      · have sm : Same H1 (upd H1 q (.tup (rgV 0 n))) := same_new nq
        have hd : DqAll X.K (hid ph am1 H1) (rgV 0 n) (rangeL 0 n.toNat) := by
          have e1 : rgV 0 n = ((List.range n.toNat).map fun i : Nat => (0 : Int) + (i : Nat)).map V.int := by
            unfold rgV
            rw [Int.sub_zero, List.map_map]
            rfl
          have e2 : rangeL 0 n.toNat = ((List.range n.toNat).map fun i : Nat => (0 : Int) + (i : Nat)).map .int := by
            unfold rangeL
            rw [List.map_map]
            rfl
          rw [e1, e2]
          exact ints_q _
        exact k _ rfl am1 _ _ (st1.trans (Step.of sm)) (s1.same sm) (new_tup (fun b h => s1.hidden h) nq hd)
    | _ => cases e3
  · subst q1
    exact qa ph am σ H δ _ _ _ s e1 (fun d ed => by cases ed) (fun c' fs' z => by cases z; exact kx _ _ rfl)
end PD
end

section
set_option Elab.async false
set_option linter.all false
set_option maxRecDepth 100000
set_option maxHeartbeats 2000000
namespace PD
open PySem PySem.Spec PyProof.Rows L2
variable {X : Cx} {W : WX} {pos : Pos} {e e1 e2 e3 : Expr} {es : List Expr} {f g h : M PyData} {fs gs : M (List PyData)} {fb gb : M Bool}
variable {K : PySem.W.Frag} {ph : Fx} {am am' am1 : Am} {H H' H1 : Hp} {σ σ' : L2.St} {δ δ' δ1 : Sg} {a p p1 p2 : Addr} {v : V} {vs : List V} {d : PyData} {ds : List PyData} {i : Nat}

/-! ### a module's constants -/
theorem de_gint {x : Str} {n : Int} {t : Tok} (hm : X.mg x = some (.int n t)) (hg : Gl X x := by rfl) (hd : (x == ("__debug__" : Str)) = false := by decide) : DE X W (.Name x pos) (ret (.int n)) :=
  ⟨⟨_, pe_glob (v := .int n) hg hm ⟨t, rfl⟩ hd, fun ph am σ H δ Q ans δ' s q k _ => by
    cases q
    exact k _ rfl am (.int n) H Step.refl s (.int n)⟩⟩
/-- a constant tuple of texts at a -/
def GTup (K : PySem.W.Frag) (a : Addr) (ws : List Str) : Prop := ∃ (o : Obj) (its : Array Value) (n : Nat), K.lookup a = some o ∧ o.cls = .type "tuple" ∧ o.data = .seq its n ∧ its.size ≤ sizeLine ∧ Vals (ws.map V.str) its.toList
def flatOf : PyData → Option V
  | .none => some .non
  | .bool b => some (.bl b)
  | .int i => some (.int i)
  | .str s => some (.str s)
  | _ => none
theorem flatOf_eq {x : V} (h : Dq K H v d) (e : flatOf d = some x) : v = x ∧ flatV x = true := by
  cases h <;> cases e <;> exact ⟨rfl, rfl⟩
def inG (ws : List Str) (d : PyData) : Option PyData := (flatOf d).map fun x => .bool (inV x (ws.map V.str))
theorem flat_strs (ws : List Str) : (ws.map V.str).all flatV = true := by
  rw [List.all_eq_true]
  intro v hv
  obtain ⟨w, _, rfl⟩ := List.mem_map.mp hv
  rfl
theorem de_inG {x : Str} {pn : Pos} {a : Addr} {ws : List Str} (hm : X.mg x = some (.ref a)) (hw : GTup X.K a ws) (ha : DE X W e1 f) (hg : Gl X x := by rfl) (hd : (x == ("__debug__" : Str)) = false := by decide) (hmk : behindInMarks .In (.Name x pn) = false := by rfl) : DE X W (.Compare e1 [.In] [.Name x pn] pos) (xUn (inG ws) f) := by
  obtain ⟨ta, pa, qa⟩ := ha.ex
  refine ⟨⟨_, pe_cmpR op_in_seq pa (pe_glob (v := .ref a) hg hm rfl hd) hmk, fun ph am σ H δ Q ans δ' s q k kx => ?_⟩⟩
  rcases bnd_some q with ⟨b, δ1, e1, q1⟩ | ⟨c, fs, e1, q1⟩
  · refine qa ph am σ H δ _ _ _ s e1 (fun d ed am1 x H1 st1 s1 d1 => ?_) (fun c fs z => by cases z)
    cases ed
    obtain ⟨z, e3, rfl, rfl⟩ := lif_some q1
    obtain ⟨y, e4, rfl⟩ := Option.map_eq_some_iff.mp e3
    obtain ⟨rfl, hf⟩ := flatOf_eq d1 e4
    exact ⟨a, ws.map V.str, rfl, .inr (.inr hw), hf, flat_strs ws, k _ rfl am1 _ H1 st1 s1 (.bl _)⟩
  · subst q1
    exact qa ph am σ H δ _ _ _ s e1 (fun d ed => by cases ed) (fun c' fs' z => by cases z; exact kx _ _ rfl)
/-! ### not e as a value, by truth -/
def notTD (d : PyData) : Option PyData := (truthD d).map fun b => .bool (!b)
theorem de_notT (ha : DE X W e f) : DE X W (.UnaryOp .Not e pos) (xUn notTD f) := by
  obtain ⟨ta, pa, qa⟩ := ha.ex
  refine ⟨⟨_, pe_notT pa, fun ph am σ H δ Q ans δ' s q k kx => ?_⟩⟩
  rcases bnd_some q with ⟨a, δ1, e1, q1⟩ | ⟨c, fs, e1, q1⟩
  · refine qa ph am σ H δ _ _ _ s e1 (fun d ed am1 x H1 st1 s1 d1 => ?_) (fun c fs z => by cases z)
    cases ed
    obtain ⟨z, e3, rfl, rfl⟩ := lif_some q1
    obtain ⟨b, e4, rfl⟩ := Option.map_eq_some_iff.mp e3
    exact ⟨b, tru_of d1 e4, k _ rfl am1 _ H1 st1 s1 (.bl _)⟩
  · subst q1
    exact qa ph am σ H δ _ _ _ s e1 (fun d ed => by cases ed) (fun c' fs' z => by cases z; exact kx _ _ rfl)

/-! ### isinstance(x, T), x a list of one's own -/
def xIsiO (Tn : String) (i : Nat) : M PyData := fun δ => match δ[i]? with
  | some (.ow _ _) => some (.ok (.bool (isSub "list" Tn)), δ)
  | _ => none
theorem de_isiO {i : Nat} {x T : Str} {pn pT pf : Pos} (Tn : String) (hT : Tn ∈ ["int", "bool", "str", "list", "tuple"]) (hm : X.mg "isinstance" = none) (hmT : X.mg T = none) (hvT : bootBuiltins T = some (.type Tn)) (hN : X.N[i]? = some x := by rfl) (hv : Vis X.env.scope x := by first | exact Or.inl rfl | exact Or.inr (Or.inl rfl) | exact Or.inr (Or.inr rfl)) (hd : (x == ("__debug__" : Str)) = false := by decide) (hcd : (x == ("__classdict__" : Str)) = false := by decide)
    (hg : Gl X "isinstance" := by rfl) (hgT : Gl X T := by rfl) (hn : T ≠ "__name__" := by decide) (hdT : (T == ("__debug__" : Str)) = false := by decide)
    (hs1 : starEach [.Name T pT] X.env = (false, eval (.Name T pT) X.env) :: starEach [] X.env := by rfl)
    (hs : starEach [.Name x pn, .Name T pT] X.env = (false, eval (.Name x pn) X.env) :: starEach [.Name T pT] X.env := by rfl) (hpl : (backTo pos (starEach [.Name T pT] X.env)).any (·.1) = false := by rfl) :
    DE X W (.Call (.Name "isinstance" pf) [.Name x pn, .Name T pT] [] pos) (xIsiO Tn i) := by
  refine ⟨⟨_, pe_callB call_isi hg hm boot_isinstance (pa_cons (pe_var hN hv hd hcd) (pa_cons (pe_bltn (v := .ty Tn) hgT hmT hvT rfl hn hdT) pa_nil hs1) hs) (by decide) (by decide) hs hpl, fun ph am σ H δ Q ans δ' sr z k kx => ?_⟩⟩
  unfold xIsiO at z
  split at z
  · rename_i b0 ds0 e3
    cases z
    obtain ⟨a0, vs0, o1, o2, o3, o4, _, _⟩ := sr.ow i b0 ds0 e3
    have dq : Dq X.K H (.ref a0) (.list ds0) := .lst (.inl (.inl o3)) (dps_mono hid_sub o4)
    refine ⟨.ref a0, o2, .ref a0, .ty Tn, .type "list", .type Tn, isSub "list" Tn, rfl, .ty Tn, ?_, kit_ty (kit_tab _ (tyOf_mem (.list ds0)) _ hT), k _ rfl am _ H Step.refl sr (.bl _)⟩
    exact tyx_of (ph := ⟨fun _ => False, fun _ => none⟩) (am := fun _ => none) (dp_mono (fun b o h => hid_some.mpr (And.intro (fun z => z.elim (fun z => z) (fun ⟨_, z⟩ => by cases z)) h)) dq)
  · cases z
/-! ### a call with keywords alone of a def that hands back a new list -/
def xDefKF (G : Sg → Option (Ans (List PyData) × Sg)) (perm : List Nat) (fs : M (List PyData)) : M (List PyData) := bnd fs fun ds => if ds.length = perm.length then xDefF G (ret (pick perm ds)) else lif none
theorem df_callK0 {n k : Nat} {x : Str} {pf : Pos} {fa : Addr} {fd : FuncData} {ps : List Str} {kws : List Keyword} {ks : List Str} {perm : List Nat} {G : Sg → Option (Ans (List PyData) × Sg)} (F : FnOk X.prog X.w X.K X.mg X.base (L2.CX X.prog X.w) k fa fd ps (spF X.K X.mg n G)) (hr : Room k X.A) (hm : X.mg x = some (.ref fa)) (hk : PySem.W.keepIn X.K (.ref fa) = true)
    (hb : ∀ ws : List Value, ws.length = perm.length → bindArgs fd ⟨[], ks.zip ws⟩ = pure (ps.zip (pick perm ws))) (hx : ∀ σ, PassesAt (L2.CX X.prog X.w) X σ (WE W σ)) (hkw : DK X W kws fs) (hn : ∀ ds : List PyData, ds.length = perm.length → (pick perm ds).length = n)
    (hg : Gl X x := by rfl) (hall : (backToKw pos (keywordEach kws X.env)).all (·.1.isSome) = true := by rfl) (hks : (backToKw pos (keywordEach kws X.env)).filterMap (·.1) = ks := by rfl)
    (hdb : (x == ("__debug__" : Str)) = false := by decide) (hpl : ((backTo pos (starEach [] X.env)).any (·.1) || (backToKw pos (keywordEach kws X.env)).any (·.1.isNone)) = false := by rfl) : DF X W (.Call (.Name x pf) [] kws pos) (xDefKF G perm fs) := by
  obtain ⟨t, p, q⟩ := hkw.ex
  refine ⟨⟨_, pe_callK0 F hr hg hm hk hb hx p hall hks hdb hpl, fun ph am σ H δ Q ans δ' s z k kx => ?_⟩⟩
  rcases bnd_some z with ⟨ds, δ1, e1, e2⟩ | ⟨c, fs, e1, e2⟩
  · refine q ph am σ H δ _ _ _ s e1 (fun d' ed am1 vs H1 st1 s1 dv => ?_) (fun c fs z => by cases z)
    cases ed
    split at e2
    · rename_i hl
      refine ⟨by rw [dv.length]; exact hl, ?_⟩
      have s2 := s1.under (dqs_pick (perm := perm) dv)
      rcases bnd_some e2 with ⟨ds2, δ2, e3, e4⟩ | ⟨c, fs, e3, e4⟩
      · cases e3
        refine ⟨by rw [(dqs_pick (perm := perm) dv).length]; exact hn ds hl, ph.under am1, (pick perm ds).map .fz, ?_⟩
        split at e4
        · rename_i d cells e5
          cases e4
          refine ⟨_, _, s2, e5, fun d ed p us H' n0 n1 st' _ dv' hz => ?_, fun c fs z => by cases z⟩
          cases ed
          have sm : Same H1 H' := fun b o h => st'.keep b o h fun i z => by cases z
          rw [show (ph.under am1).ba = fun _ => none from rfl, hid_under] at dv'
          exact k _ rfl am1 p us H' (st1.none n0) n1 (st1.trans (Step.of sm)) (s1.same sm) dv' hz
        · rename_i c es cells e5
          cases e4
          refine ⟨_, _, s2, e5, fun d ed => (by cases ed), fun c fs z => ?_⟩
          cases z
          exact XP.of_under s1 ((kx _ _ rfl).step st1)
        · cases e4
      · cases e3
    · exact (lif_none e2).elim
  · subst e2
    exact q ph am σ H δ _ _ _ s e1 (fun d ed => by cases ed) (fun c' fs' z => by cases z; exact kx _ _ rfl)
theorem fn_noneK {P : Program} {w : World} {mg : Str → Option Value} {base : Heap} {k : Nat} {fa : Addr} {fd : FuncData} {ps : List Str} {G : Sg → Option (Ans PyData × Sg)} (hG : ∀ c, G c = none) : FnOk P w K mg base (L2.CX P w) k fa fd ps (spD K mg ps.length G) :=
  ⟨fun vs H Q E h => h.1, fun A outer s H args us vs Q E _ _ _ _ h => by
    obtain ⟨_, ph, cells, ans, cells', _, q, _⟩ := h
    rw [hG] at q
    cases q⟩
theorem fn_noneF {P : Program} {w : World} {mg : Str → Option Value} {base : Heap} {k : Nat} {fa : Addr} {fd : FuncData} {ps : List Str} {G : Sg → Option (Ans (List PyData) × Sg)} (hG : ∀ c, G c = none) : FnOk P w K mg base (L2.CX P w) k fa fd ps (spF K mg ps.length G) :=
  ⟨fun vs H Q E h => h.1, fun A outer s H args us vs Q E _ _ _ _ h => by
    obtain ⟨_, ph, cells, ans, cells', _, q, _⟩ := h
    rw [hG] at q
    cases q⟩
end PD
end

section
set_option Elab.async false
set_option linter.all false
set_option maxRecDepth 100000
set_option maxHeartbeats 2000000
namespace PD
open PySem PySem.Spec PyProof.Rows L2
variable {X : Cx} {W : WX} {pos : Pos} {e e1 e2 e3 : Expr} {es : List Expr} {f g h : M PyData} {fs gs : M (List PyData)} {fb gb : M Bool}
variable {K : PySem.W.Frag} {ph : Fx} {am am' am1 : Am} {H H' H1 : Hp} {σ σ' : L2.St} {δ δ' δ1 : Sg} {a p p1 p2 : Addr} {v : V} {vs : List V} {d : PyData} {ds : List PyData} {i : Nat}

/-! ### classes of one's own below LookupError, whose __init__ keeps what it is given -/
abbrev bmLE : List Value := [.type "LookupError", .type "Exception", .type "BaseException", .type "object"]
structure OexL (K : PySem.W.Frag) (C : Addr) : Prop where
  q : PySem.W.excInitIn K C bmLE "LookupError.__new__" = true
  ov : PySem.W.excOver K C bmLE = true
  dict : PySem.W.hasDictIn K C = true
  sa : PySem.W.findIn K (.ref C) "__setattr__" = some (some (.builtin "object.__setattr__"))
  exC : PySem.W.subIn K (.ref C) (.type "BaseException") = some true
  tyC : PySem.W.typeIn K (.ref C) = some (.type "type")
  kC : PySem.W.keepIn K (.ref C) = true
section
open PySem.W PySem.Calls PySem.HandSPX Builtin Builtin.ObjectAttr
variable {prog : Program} {w : World} {A : Around} {E : Value → Shared → Prop} {R : Result → Shared → Prop} {hp : Heap} {g : Array GenState} {d : Drawn} {t : Nat} {os : OsState}
theorem leExc_osa {K : Frag} {name : Str} {tk : Tok} {v : Value} {x C : Addr} {fv : Array Value}
    (T : OexL K C) (X : K.In hp) (hx : hp.get? x = some { cls := .ref C, data := .fields fv }) (ha : takerIn K C name = some none)
    (hq : ∀ h' tk' dx, (∀ b o, b ≠ x → hp.get? b = some o → h'.get? b = some o) → hp.objs.size ≤ dx → dx ≠ x → h'.get? x = some { cls := .ref C, dict := some dx, data := .fields fv } →
      h'.Ns1 dx (fun y => if y = name then some v else none) → R (.ok (.ret .none)) ⟨h', g, d, tk', os⟩) :
    codeAny (model prog w) A (.call (.builtin "object.__setattr__") ⟨[.ref x, .str name tk, v], []⟩) R ⟨hp, g, d, t, os⟩ := by
  have I : InstAt hp x { cls := .ref C, data := .fields fv } C none := ⟨hx, rfl, rfl, trivial⟩
  have hxs : x ≠ hp.objs.size := Nat.ne_of_lt (Heap.lt_size hx)
  refine osa_openX (s := ⟨hp, g, d, t, os⟩) PySem.F.store_LookupError X I T.ov ha fun b => ?_
  obtain ⟨cd, hcd, hh⟩ : ∃ cd, clsIn K C = some cd ∧ cd.hasDict = true := by
    have := T.dict
    unfold hasDictIn at this
    cases e : clsIn K C with
    | none => rw [e] at this; cases this
    | some cd => rw [e] at this; exact ⟨cd, rfl, this⟩
  have hcls : Looks (model prog w) hp (classData C) cd := looks_clsIn X hcd
  obtain ⟨nm, bs, mro, ns, qn, hd, sn, sb, ab, col, del⟩ := cd
  dsimp only at hh
  subst hh
  unfold storeInOwnDict ownDictForStores
  repeat (first | with_reducible refine store_in_new ?_ ?_ | with_reducible refine wpAny_loadPart_at hx ?_ | with_reducible refine hcls.at ?_ | wp_step)
  · exact ⟨_, #[], _, (Heap.get?_update_ne _ _ _ _ hxs.symm).trans (Heap.get?_push_at rfl rfl), rfl, fun e he => absurd he (by simp), fun _ => rfl⟩
  · intro h' tk' hn' hs
    have hx₁ : (hp.push { cls := .type "dict", data := .dict #[] }).get? x = some { cls := .ref C, data := .fields fv } := Heap.get?_push_of_some _ hx
    refine hq h' tk' hp.objs.size (fun b o hb ho => ?_) (Nat.le_refl _) hxs.symm ?_ hn'
    · exact (hs.2 b (Nat.ne_of_lt (Heap.lt_size ho))).trans ((Heap.get?_update_ne _ _ _ _ hb).trans (Heap.get?_push_of_some _ ho))
    · exact (hs.2 x hxs).trans (Heap.get?_update_self _ hx₁ rfl)
end
/-- self.f = y -/
theorem leOst {pins : List (Addr × Obj)} {s : Shared} {C : Addr} {fld : Str} {y : V} {u : Value} {Q : Unit → Shared → Prop} {E : Value → Shared → Prop} {A : Around} (T : OexL X.K C) (I : Inv X pins σ H s) (e : H a = some (exo a C none)) (hno : PySem.W.findIn X.K (.ref C) fld = some none) (ry : RelV y u)
    (h : ∀ dx s', H dx = none → dx ≠ a → Inv X pins σ (upd (upd H dx (exd dx [(fld, y)])) a (exo a C (some dx))) s' → Q () s') : wpAny (model X.prog X.w) A (setAttr (.ref a) fld u) Q E s := by
  obtain ⟨t1, ho⟩ := exo_at I.hok e
  obtain ⟨hp, g, d, t, os⟩ := s
  refine PySem.W.set_plain I.kIn (ox := { cls := .ref C, dict := none, data := .fields #[.ref t1, .none, .none, .none, .bool false, .none] }) (od := none) ⟨ho, rfl, rfl, trivial⟩ T.sa ?_
  refine leExc_osa T I.kIn ho (by unfold PySem.W.takerIn; rw [hno]; rfl) (fun h' tk' dx k dn dne hx hn => ?_)
  have hnd : H dx = none := I.hok.fresh dn
  have nd : ∀ {b : Addr} {o : Obj}, hp.get? b = some o → b ≠ dx := fun {b o} q => Nat.ne_of_lt (Nat.lt_of_lt_of_le (Heap.lt_size q) dn)
  have na : ∀ {b : Addr}, H b = none → b ≠ a := fun {b} n z => by
    rw [z, e] at n
    cases n
  have Un1 : Un X.fs [] H (upd (upd H dx (exd dx [(fld, y)])) a (exo a C (some dx))) hp h' := {
    keep := fun b o q n _ _ => k b o (na n) q
    slot := fun b o q n _ _ => ⟨o.slots, k b o (na n) q⟩
    free := fun b o q n _ => by rw [upd_ne (na n), upd_ne (nd q)]; exact n
    there := fun b o q _ => by
      by_cases hb : b = a
      · exact ⟨_, by rw [hb]; exact hx⟩
      · exact ⟨o, k b o hb q⟩
    tups := fun b xs q => by rw [upd_ne (at_ne e q exo_tup), upd_ne (ne_of_none q hnd)]; exact q
    frzs := fun b o v q => by rw [upd_ne (at_ne e q exo_frz), upd_ne (ne_of_none q hnd)]; exact q
    tbls := fun b ps q => ⟨#[], by rw [upd_ne (at_ne e q exo_tbl), upd_ne (ne_of_none q hnd), q]; simp⟩ }
  refine h dx _ hnd dne (I.un (t' := tk') Un1 fun b o q => ?_)
  by_cases hb : b = a
  · subst hb
    rw [upd_same] at q
    cases q
    exact exo_ok hx
  · rw [upd_ne hb] at q
    by_cases hd : b = dx
    · subst hd
      rw [upd_same] at q
      cases q
      exact exd_ok hn (relO_put (fs := []) ry fun g => True.intro)
    · rw [upd_ne hd] at q
      exact (I.hok b o q).stay (fun c v hc z => k c v (by
          rcases hc with hc | hc
          · rw [hc]
            exact hb
          · exact at_ne e hc exo_own) z)
        (fun c hc => by rw [upd_ne (at_ne e hc exo_own), upd_ne (ne_of_none hc hnd)]; exact hc) (fun c xs hc => by rw [upd_ne (at_ne e hc exo_tup), upd_ne (ne_of_none hc hnd)]; exact hc)
def tLeOst (K : PySem.W.Frag) (C : Addr) (fld : Str) (to te : TE) : TS := fun D σ H => te σ H fun y H1 => to σ H1 fun x H2 => ∃ a : Addr, x = .ref a ∧ H2 a = some (exo a C none) ∧ ∀ dx, H2 dx = none → dx ≠ a → D.nx σ (upd (upd H2 dx (exd dx [(fld, y)])) a (exo a C (some dx)))
theorem ps_leOst {o e : Expr} {to te : TE} {C : Addr} {fld : Str} {p' : Pos} (T : OexL X.K C) (hno : PySem.W.findIn X.K (.ref C) fld = some none) (ho : PE X o to) (he : PE X e te) (hs : swapsWith e (some (.Attribute o fld p')) pos.line X.env = pure false := by rfl) : PS X (.Assign [.Attribute o fld p'] e pos) (tLeOst X.K C fld to te) := by
  refine ⟨fun pins s σ H D I h => ?_⟩
  refine plainObj_wpAny_Assign_Attribute (thn (he.run pins s σ H _ I h) fun v s1 ⟨y, H1, I1, r1, q1⟩ => thn (ho.run pins s1 σ H1 _ I1 q1) fun u s2 ⟨x, H2, I2, r2, a, ex, ea, q⟩ => ?_) hs
  subst ex
  obtain rfl : u = Value.ref a := r2
  exact leOst T I2 ea hno r1 fun dx s' n ne J => ⟨σ, _, J, q dx n ne⟩
/-- what __init__(self, x): self.f = x keeps -/
def spLe (C : Addr) (fld : Str) : Sp := fun vs H Q E => ∃ (a : Addr) (y : V), vs = [.ref a, y] ∧ H a = some (exo a C none) ∧ ∀ dx, H dx = none → dx ≠ a → Q .non (upd (upd H dx (exd dx [(fld, y)])) a (exo a C (some dx)))
theorem fn_le {P : Program} {w : World} {mg : Str → Option Value} {base : Heap} {k : Nat} {C fI : Addr} {fd : FuncData} {N : List Str} {x qual sn vn fld : Str} {st : Stmt} {p1 p2 p3 p4 : Pos} (T : OexL K C) (hno : PySem.W.findIn K (.ref C) fld = some none) (F : Fun K x qual st fI fd) (S : FnScope N [sn, vn] (defScope st)) (hN : N = [sn, vn])
    (hb : defBody st = [.Assign [.Attribute (.Name sn p1) fld p2] (.Name vn p3) p4])
    (hv1 : Vis (defScope st) sn) (hv2 : Vis (defScope st) vn) (hd1 : (sn == ("__debug__" : Str)) = false) (hd2 : (vn == ("__debug__" : Str)) = false) (hc1 : (sn == ("__classdict__" : Str)) = false) (hc2 : (vn == ("__classdict__" : Str)) = false)
    (hs : ∀ env : PySem.Env, swapsWith (.Name vn p3) (some (.Attribute (.Name sn p1) fld p2)) p4.line env = pure false) :
    FnOk P w K mg base (L2.CX P w) (k + 1) fI fd [sn, vn] (spLe C fld) := by
  subst hN
  refine F.okX S (fun vs H Q E h => by obtain ⟨_, _, rfl, _⟩ := h; rfl) (fun cdv A outer s H vs Q E hr h => ?_)
  obtain ⟨a, y, rfl, ha, q⟩ := h
  rw [hb]
  refine ⟨_, pss_one (ps_leOst T hno (pe_var (i := 0) rfl hv1 hd1 hc1) (pe_var (i := 1) rfl hv2 hd2 hc2) (hs _)), ?_⟩
  exact ⟨y, rfl, .ref a, rfl, a, rfl, ha, fun dx n ne => q dx n ne⟩
def tMkLe (C : Addr) (fld : Str) (ta : TE) : L2.St → Hp → XK → Prop := fun σ H Q => ta σ H fun y H1 => ∀ d, H1 d = none → Q (.ref C) (some d) (upd H1 d (.xd [(fld, y)]))
theorem pmk_le {x : Str} {C fI : Addr} {k : Nat} {fd : FuncData} {ps : List Str} {fld : Str} {ta : TE} {p : Pos} (T : OexL X.K C) (iC : PySem.W.findIn X.K (.ref C) "__init__" = some (some (.ref fI))) (tI : PySem.W.typeIn X.K (.ref fI) = some (.type "function"))
    (F1 : FnOk X.prog X.w X.K X.mg X.base (L2.CX X.prog X.w) k fI fd ps (spLe C fld)) (hr : Room (k + 1) X.A) (hb : Binds X.K fd ps []) (hx : Passes (L2.CX X.prog X.w) X (fun _ _ _ => False)) (hg : Gl X x) (hm : X.mg x = some (.ref C)) (ha : PE X e ta)
    (hdb : (x == ("__debug__" : Str)) = false := by decide) (he : starEach [e] X.env = (false, eval e X.env) :: starEach [] X.env := by rfl) (hpl : (backTo pos (starEach [] X.env)).any (·.1) = false := by rfl) :
    PMk X (.Call (.Name x p) [e] [] pos) (tMkLe C fld ta) := by
  intro pins s σ H Q I h
  refine wpAny_Call_Name_kw (ld_glob I hg hm ?_ hdb)
  refine PySem.W.callWith_K (h₀ := X.base) I.ok.mod.kin T.kC (thn ((pa_cons ha pa_nil he).run pos pins s σ H (fun vs H1 => match vs with | [y] => ∀ d, H1 d = none → Q (.ref C) (some d) (upd H1 d (.xd [(fld, y)])) | _ => False) I h) fun us s1 ⟨vs, H1, I1, r1, q1⟩ => ⟨I1.kIn, ?_⟩) he hpl
  show wpAny _ _ (call (.ref C) us) _ _ _
  obtain ⟨hp, g, dr, tk, os⟩ := s1
  obtain ⟨nm, N, qn, bs, bm, hdct, sn, sub, ab, col, dd, k0, k1, k2, k3, k5, hC, hT⟩ := PySem.W.excInit_of I1.kIn T.q
  match vs, r1, q1 with
  | [y], r1, q1 =>
  have hsz : hp.objs.size ≤ hp.objs.size + 1 := Nat.le_succ _
  have hn : H1 (hp.objs.size + 1) = none := I1.hok.fresh hsz
  have kk : ∀ b o, hp.get? b = some o → ((hp.push (PySem.W.kdv_tup us)).push (PySem.HandSPX.excO C hp.objs.size)).get? b = some o := fun b o e => Heap.get?_push_of_some _ (Heap.get?_push_of_some _ e)
  have hget : ((hp.push (PySem.W.kdv_tup us)).push (PySem.HandSPX.excO C hp.objs.size)).get? (hp.objs.size + 1) = some (PySem.HandSPX.excO C hp.objs.size) := by heap_get
  have I2 : Inv X pins σ (upd H1 (hp.objs.size + 1) (exo (hp.objs.size + 1) C none)) ⟨(hp.push (PySem.W.kdv_tup us)).push (PySem.HandSPX.excO C hp.objs.size), g, dr, tk, os⟩ :=
    I1.laid (t' := tk) (a := hp.objs.size + 1) (o := exo (hp.objs.size + 1) C none) (h' := (hp.push (PySem.W.kdv_tup us)).push (PySem.HandSPX.excO C hp.objs.size)) kk hsz (exo_ok hget)
  have r2 : Vals [V.ref (hp.objs.size + 1), y] (Value.ref (hp.objs.size + 1) :: us) := .cons rfl r1
  have hq : spLe C fld [V.ref (hp.objs.size + 1), y] (upd H1 (hp.objs.size + 1) (exo (hp.objs.size + 1) C none)) (fun v H2 => v = .non ∧ ∃ (d : Addr) (fs : List (Str × V)), H2 (hp.objs.size + 1) = some (exo (hp.objs.size + 1) C (some d)) ∧ H2 d = some (exd d fs) ∧ H1 d = none ∧ Q (.ref C) (some d) (upd (L2.del H2 (hp.objs.size + 1)) d (.xd fs))) (fun _ _ _ => False) := by
    refine ⟨_, y, rfl, upd_same, fun dx n ne => ⟨rfl, dx, [(fld, y)], upd_same, ?_, ?_, ?_⟩⟩
    · rw [upd_ne ne]; exact upd_same
    · rw [upd_ne ne] at n; exact n
    · have n1 : H1 dx = none := by rw [upd_ne ne] at n; exact n
      have eH : upd (L2.del (upd (upd (upd H1 (hp.objs.size + 1) (exo (hp.objs.size + 1) C none)) dx (exd dx [(fld, y)])) (hp.objs.size + 1) (exo (hp.objs.size + 1) C (some dx))) (hp.objs.size + 1)) dx (.xd [(fld, y)]) = upd H1 dx (.xd [(fld, y)]) := by
        funext b
        by_cases hb : b = dx
        · rw [hb, upd_same, upd_same]
        · rw [upd_ne hb, upd_ne hb]
          by_cases hb2 : b = hp.objs.size + 1
          · rw [hb2, L2.del_same, hn]
          · rw [L2.del_ne hb2, upd_ne hb2, upd_ne hb, upd_ne hb2]
      rw [eH]
      exact q1 dx n1
  have hl : (Value.ref (hp.objs.size + 1) :: us).length = ps.length := by
    have e := r2.length
    rw [F1.len _ _ _ _ hq] at e
    exact e.symm
  have hus : us.length ≤ sizeLine := by
    rw [← Paired.length r1, sizeLine_eq]
    simp
  refine wpAny_call (PySem.HandSPX.call_own PySem.F.excBase_LookupError hT hC (PySem.W.looks_findIn I1.kIn iC) (fun self => PySem.W.bind_fn I1.kIn self tI) hus
    (codeAny_mono (F1.run _ X.stack _ _ ⟨Value.ref (hp.objs.size + 1) :: us, []⟩ (Value.ref (hp.objs.size + 1) :: us) _ _ (fun _ _ _ => False) (hr.make C us []) (I2.env0.make C us []) (by have := hb _ (Value.ref (hp.objs.size + 1) :: us) I2.kIn (by simpa using hl); simpa using this) r2 hq) fun r s' hq' => ?_))
  cases r with
  | error er => exact hx pins σ _ _ er s' I2 hq'
  | ok fl =>
    cases fl with
    | ret u =>
      obtain ⟨v, H2, os2, bare2, un2, hok2, rv, ev, d, fs, ea, ed, hd1, q2⟩ := hq'
      subst ev
      obtain ⟨h2, g2, d2, t2, os'⟩ := s'
      exact ⟨rv, mk_end (raises_own T.exC T.tyC) I1 hsz kk un2 hok2 os2 bare2 ea ed hd1 q2⟩
    | next => exact False.elim hq'
    | brk => exact False.elim hq'
    | cont => exact False.elim hq'
/-! ### raise C(e) -/
theorem passes0 : Passes (L2.CX X.prog X.w) X (fun _ _ _ => False) := fun pins σ H s e s' I h => pass0 σ pins H s e s' I h
def sRaiseA (c fld : Str) (f : M PyData) : MS := bnd f fun d => fun δ => some (.ex c [(fld, d)], δ)
/-- all that is known of such a class -/
structure ExcA (P : Program) (w : World) (K : PySem.W.Frag) (mg : Str → Option Value) (base : Heap) (x : Str) (C fI : Addr) (fd : FuncData) (ps : List Str) (fld : Str) : Prop where
  T : OexL K C
  g : mg x = some (.ref C)
  i : PySem.W.findIn K (.ref C) "__init__" = some (some (.ref fI))
  t : PySem.W.typeIn K (.ref fI) = some (.type "function")
  F : FnOk P w K mg base (L2.CX P w) 1 fI fd ps (spLe C fld)
  b : Binds K fd ps []
theorem ds_raiseA {x fld : Str} {C fI : Addr} {fd : FuncData} {ps : List Str} {p rp : Pos} (T : ExcA X.prog X.w X.K X.mg X.base x C fI fd ps fld) (hr : Room 2 X.A) (hc : X.calm = true) (tk : Takes X W) (ha : DE X W e f) (hg : Gl X x := by rfl) (hdb : (x == ("__debug__" : Str)) = false := by decide) (he : starEach [e] X.env = (false, eval e X.env) :: starEach [] X.env := by rfl) (hpl : (backTo pos (starEach [] X.env)).any (·.1) = false := by rfl) :
    DS X W (.Raise (some (.Call (.Name x p) [e] [] pos)) none rp) (sRaiseA x fld f) := by
  obtain ⟨ta, pa, qa⟩ := ha.ex
  refine ⟨⟨_, ps_raise hc tk (pmk_le T.T T.i T.t T.F hr T.b passes0 hg T.g pa hdb he hpl), fun ph am σ H δ D ans δ' s q _ kx => ?_⟩⟩
  rcases bnd_some q with ⟨b, δ1, e1, q1⟩ | ⟨c, fs, e1, q1⟩
  · refine qa ph am σ H δ _ _ _ s e1 (fun d ed am1 y H1 st1 s1 d1 => ?_) (fun c fs z => by cases z)
    cases ed
    cases q1
    intro dx nx
    have sm : Same H1 (upd H1 dx (.xd [(fld, y)])) := same_new nx
    exact kx _ _ rfl C (some dx) am1 σ _ T.g (st1.trans (Step.of sm)) (s1.same sm) (.inr ⟨dx, [(fld, y)], rfl, by simp, upd_same, rfl, .cons (dp_mono (hid_same sm) d1) .nil⟩)
  · subst q1
    exact qa ph am σ H δ _ _ _ s e1 (fun d ed => by cases ed) (fun c' fs' z => by cases z; exact (kx _ _ rfl).at)
end PD
end

section
set_option Elab.async false
set_option linter.all false
set_option maxRecDepth 100000
set_option maxHeartbeats 2000000
/-! several except clauses, each 'except x as n' with one name n -/
namespace PD
open PySem PySem.Spec PyProof.Rows L2
/-- what the clauses wish of an exception of the body, one after the other; slot i is n's -/
def wManyAs (K : PySem.W.Frag) (i : Nat) (Wout : WX) (D : Ends) : List (Value × (Addr → Value → Option Addr → TS)) → WX
  | [] => Wout
  | (c, ts) :: r => fun cls d σ H => ∃ b, PySem.W.exmOne K cls c = some b ∧
      (b = true → ∀ a, H a = none → ts a cls d { nx := fun σ' H' => D.nx (σ'.set i none) H', rt := D.rt, bk := fun σ' H' => D.bk (σ'.set i none) H', ct := fun σ' H' => D.ct (σ'.set i none) H' } (σ.set i (some (.ref a))) H) ∧
      (b = false → wManyAs K i Wout D r cls d σ H)
inductive HdsAs (X : Cx) (n : Str) : List ExceptHandler → List (Value × (Addr → Value → Option Addr → TS)) → Prop
  | nil : HdsAs X n [] []
  | cons {x : Str} {c : Value} {ts : Addr → Value → Option Addr → TS} {b₀ : Stmt} {suite : List Stmt} {np pos' : Pos} {hds : List ExceptHandler} {l : List (Value × (Addr → Value → Option Addr → TS))} (hc : Names X x c)
      (hsu : ∀ (a : Addr) (oe : Obj) (cls : Value) (d : Option Addr) (pn : List (Addr × Obj)), Zc cls d oe → (∃ vs, oe.data = .fields vs) → PSs (X.suite a ((a, oe) :: pn)) (b₀ :: suite) (ts a cls d)) (r : HdsAs X n hds l) :
      HdsAs X n (.ExceptHandler (some (.Name x np)) (some n) (b₀ :: suite) pos' :: hds) ((c, ts) :: l)
section
variable {X : Cx} {n : Str} {i : Nat} {body : List Stmt} {h₀ : ExceptHandler} {hds : List ExceptHandler} {l : List (Value × (Addr → Value → Option Addr → TS))} {pos : Pos} {tb : WX → TS} {Wout : WX}
theorem ps_try_manyAs (hs : X.stack = X.env :: X.outer) (hf : X.env.frame = some X.env.locals) (hN : X.N.Nodup) (hi : X.N[i]? = some n) (hln : X.env.kindOf n = some .local) (tk : Takes X Wout)
    (hb : ∀ (W : WX) (pn : List (Addr × Obj)) (xe : Value → Shared → Prop), Takes (X.tr pn xe) W → PassesOwn (model X.prog X.w) X.A X.env xe → PSs (X.tr pn xe) body (tb W))
    (hh : HdsAs X n (h₀ :: hds) l) : PS X (.Try body (h₀ :: hds) [] [] pos) (fun D σ H => tb (wManyAs X.K i Wout D l) D σ H) := by
  refine ⟨fun pins s σ H D I h => ?_⟩
  have ok := I.ok
  have hfr : X.A.frames = some (X.env :: X.outer) := by rw [ok.frames, hs]
  have hloc : Loc X.env.scope n := .inl hln
  refine wpAny_Try_except ?_
  refine wpAny_mono ((hb (wManyAs X.K i Wout D l) (X.pn ++ pins) (fun e s₁ => wpAny (model X.prog X.w) X.A (noteFrame e X.env) (fun _ s₂ => wpAny (model X.prog X.w) X.A (setFlight e none) (fun _ s₃ =>
    wpAny (model X.prog X.w) X.A (handleBy e X.env (h₀ :: hds)) (SP X pins D) X.xe s₃) X.xe s₂) X.xe s₁) (fun u s' xx => ?_) PassesOwn.looking).run [] s σ H D (I.toTry _) h) (fun f s1 hsp => ?_) (fun e s1 he => he)
  · obtain ⟨a, B, sI, pins', σ', H', cls, d, rfl, J', nb, up, sky, na, os, ag, w⟩ := xx
    have J : Inv X pins σ' H' sI := J'.ofTry ok
    have sky' : Sky B (X.env :: X.outer) a (Zc cls d) X.env.locals s'.heap := by rw [← hs]; exact sky
    show wpAny (model X.prog X.w) X.A (noteFrame (.ref a) X.env) _ _ _
    refine Sky.land Zc.steady hfr hf sky' fun h3 fl3 up3 => ?_
    have J3 : Inv X pins σ' H' { s' with heap := h3 } := J.landed nb fl3.1 (up.trans up3) os ag
    obtain ⟨oe3, vs3, he3, hz3, hd3⟩ := fl3.there
    have notFr : ∀ {h : Heap} {o : Obj} {vs : Array Value}, h.FunFrames B (X.env :: X.outer) → h.get? a = some o → o.data = .fields vs → a ∉ frs (X.env :: X.outer) := fun {h o vs} ff e dd hm => by
      obtain ⟨_, o', e', hnf⟩ := ff.mem hm
      rw [e] at e'; cases e'
      exact hnf _ dd
    have nfr := notFr fl3.2.2.1 he3 hd3
    have nL : a ≠ X.env.locals := fun z => nfr (List.mem_filterMap.mpr ⟨X.env, List.mem_cons_self, by rw [hf, z]⟩)
    have nF : a ∉ X.fs := fun hm => by
      obtain ⟨e, he, q⟩ := List.mem_filterMap.mp hm
      exact nfr (List.mem_filterMap.mpr ⟨e, List.mem_cons_of_mem _ he, q⟩)
    have S3 := J3.suite he3 hd3 na nL nF
    have go : ∀ {hds' : List ExceptHandler} {l' : List (Value × (Addr → Value → Option Addr → TS))}, HdsAs X n hds' l' → wManyAs X.K i Wout D l' cls d σ' H' →
        wpAny (model X.prog X.w) X.A (handleBy (.ref a) X.env hds') (SP X pins D) X.xe { s' with heap := h3 } := by
      intro hds' l' hk
      induction hk with
      | nil =>
        intro w
        refine wpAny_handleBy_nil ?_
        obtain ⟨k1, k2, k3, oe, vs, T, oT, ts', he, hz, hd, h1, hr⟩ := id fl3
        unfold PySem.passOn
        refine wpAny_bind (wpAny_field he hd h1 ?_)
        rw [if_neg (show ¬ ((Value.ref T == Value.none) = true) from by simp)]
        have fin : wpAny (model X.prog X.w) X.A (setFlight (.ref a) X.env.frame) (fun _ s4 => wpAny (model X.prog X.w) X.A (throw (.ref a) : Sem Flow) (SP X pins D) X.xe s4) X.xe { s' with heap := h3 } := by
          rw [hf]
          refine HandSPX.setFlight_upZ fl3 fun h4 hh4 up4 => wpAny_throw (tk _ _ ?_)
          exact ⟨a, B, sI, pins, σ', H', cls, d, rfl, J, nb, (up.trans up3).trans up4, .inr (.inr (by rw [hs]; exact hh4)), na, os, ag, w⟩
        first
          | exact wpAny_bind (wpAny_pure (wpAny_bind fin))
          | exact wpAny_bind fin
      | @cons x c ts b₀ suite np pos' hds2 l2 hc hsu r ih =>
        intro w
        obtain ⟨b, hb1, hyes, hno⟩ := w
        refine wpAny_handleBy_cons (codeAny_handlers_test ?_) (by intro q; cases q)
        have LT : PySem.W.Looks (model X.prog X.w) h3 (typeOf (.ref a)) cls := fun A Q E s k q => wpAny_typeOf_ref (k _ _ he3) (by rw [hz3.1]; exact q)
        have LM := PySem.W.exm_one (M := model X.prog X.w) (J3.kIn) LT hb1
        have test : ∀ {Q : Value → Shared → Prop} {E : Value → Shared → Prop}, Q c { s' with heap := h3 } → wpAny (model X.prog X.w) (X.A.mark (some (.ref a))) (eval (.Name x np) X.env) Q E { s' with heap := h3 } := fun {Q E} q => by
          obtain ⟨hg, hdbg, hm | ⟨hm, hv, hnn⟩⟩ := hc
          · exact ld_glob (X := X.suite a ((a, oe3) :: (X.pn ++ pins))) S3 hg hm q hdbg
          · exact ld_blt (X := X.suite a ((a, oe3) :: (X.pn ++ pins))) S3 hg hm hv q hnn hdbg
        refine test (LM.here ?_)
        cases b with
        | true =>
          refine codeAny_handlers_suite_as ?_
          refine HandSPX.lands_againZ fl3 fun h4 fl4 up4 => ?_
          have J4 : Inv X pins σ' H' { s' with heap := h4 } := J.landed nb fl4.1 ((up.trans up3).trans up4) os ag
          obtain ⟨oe4, vs4, he4, hz4, hd4⟩ := fl4.there
          have S4 := J4.suite he4 hd4 na nL nF
          refine store_ok (X := X.suite a ((a, oe4) :: (X.pn ++ pins))) (v := .ref a) S4 hN hi hloc rfl (fun s5 S5 => ?_) (.inr hln)
          refine wpAny_mono ((hsu a oe4 cls d (X.pn ++ pins) hz4 ⟨_, hd4⟩).run [] s5 _ H' _ S5 (hyes rfl a na)) (fun f s6 hsp => ?_) (fun _ _ z => False.elim z)
          have end_ : ∀ {σ6 : L2.St} {H6 : Hp} {Q : Shared → Prop}, Inv (X.suite a ((a, oe4) :: (X.pn ++ pins))) [] σ6 H6 s6 → (∀ s7, Inv X pins (σ6.set i none) H6 s7 → Q s7) →
              wpAny (model X.prog X.w) X.A (do bindName X.env n .none; unbindBehindTheSuite X.env n pos') (fun _ s7 => Q s7) X.xe s6 := fun {σ6 H6 Q} S6 hq => gone_ok (S6.unsuite ok) hN hi hln hq
          cases f with
          | next =>
            obtain ⟨σ6, H6, S6, q6⟩ := hsp
            exact end_ S6 fun s7 J7 => ⟨_, _, J7, q6⟩
          | brk =>
            obtain ⟨σ6, H6, S6, q6⟩ := hsp
            exact end_ S6 fun s7 J7 => ⟨_, _, J7, q6⟩
          | cont =>
            obtain ⟨σ6, H6, S6, q6⟩ := hsp
            exact end_ S6 fun s7 J7 => ⟨_, _, J7, q6⟩
          | ret u =>
            obtain ⟨v6, σ6, H6, S6, r6, q6⟩ := hsp
            exact end_ S6 fun s7 J7 => ⟨_, _, _, J7, r6, q6⟩
        | false =>
          show wpAny _ X.A (handleBy (.ref a) X.env hds2) _ _ _
          exact ih (hno rfl)
    exact go hh w
  · cases f with
    | next =>
      obtain ⟨σ', H', J', q⟩ := hsp
      exact wpAny_execs_nil ⟨σ', H', J'.ofTry ok, q⟩
    | brk =>
      obtain ⟨σ', H', J', q⟩ := hsp
      exact ⟨σ', H', J'.ofTry ok, q⟩
    | cont =>
      obtain ⟨σ', H', J', q⟩ := hsp
      exact ⟨σ', H', J'.ofTry ok, q⟩
    | ret u =>
      obtain ⟨v, σ', H', J', r, q⟩ := hsp
      exact ⟨v, σ', H', J'.ofTry ok, r, q⟩
end
end PD
end

section
set_option Elab.async false
set_option linter.all false
set_option maxRecDepth 100000
set_option maxHeartbeats 2000000
/-! isinstance of an exception that has fields; its fields; suites over both -/
namespace PD
section
open PySem PySem.Spec PySem.Calls PyProof.Rows PySem.W
variable {prog : Program} {w : World} {A : Around} {E : Value → Shared → Prop} {s : Shared} {K : Frag} {x D : Addr} {ox : Obj} {od : Option Obj}
theorem bindD {C : Addr} {name : Str} {a g : Value} (hc : (clsIn K C).isSome = true) (ha : findIn K (.ref C) name = some (some a)) (hg : specialIn K a "__get__" = some (some g)) (ht : takesIn K a = some true) : findObj K C od name = some (.bind g a) := by
  obtain ⟨cd, hc⟩ := Option.isSome_iff_exists.mp hc
  unfold findObj
  rw [hc, Option.bind_some, ha, Option.bind_some]
  simp [hg, ht]
theorem classD {Q : Option Value → Shared → Prop} (T : L2.ExcC K D) (X : K.In s.heap) (I : InstAt s.heap x ox D od) (h : Q (some (.ref D)) { s with toks := s.toks + 1 }) : wpAny (model prog w) A (getAttr? (.ref x) "__class__") Q E s := by
  have hf : findObj K D od "__class__" = some (.bind (.builtin "getset_descriptor.__get__") (.builtin "object.__class__")) := bindD (by obtain ⟨cd, hc, _⟩ := any_some T.hd; rw [hc]; rfl) T.ha T.hn T.ht
  obtain ⟨hp, g, d, t, os⟩ := s
  have L0 := I.type (M := model prog w)
  have L1 := looks_findIn (M := model prog w) X T.hg
  have L2' := looks_findIn (M := model prog w) X T.hk
  have L3 := looks_find (M := model prog w) X I hf
  have sub : Looks (model prog w) hp (isInstance (.ref x) (.type "BaseException")) true := L0.andThen (looks_subIn X T.hs)
  have hx0 : (false && onTheHeap (Value.builtin "BaseException.__getattribute__")) = false := rfl
  have hx2 : (Value.builtin "BaseException.__getattribute__" == Value.builtin "object.__getattribute__") = false := by decide +kernel
  have hx1 : (onTheHeap (Value.ref D) && Value.builtin "BaseException.__getattribute__" == Value.builtin "object.__getattribute__") = false := by rw [hx2]; rfl
  unfold getAttr? getAttrBy? getAttrBy
  refine wpAny_bind (wpAny_mkText (wpAny_bind (wpAny_attempt (wpAny_holding (wpAny_bind (L0.at (wpAny_bind (L1.at ?_))))))))
  show wpAny _ _ (if (onTheHeap (Value.ref D) && Value.builtin "BaseException.__getattribute__" == Value.builtin "object.__getattribute__") = true then _ else _) _ _ _
  rw [hx1, if_neg Bool.false_ne_true]
  unfold getAttrByItsOwn hookBefore
  refine wpAny_bind ?_
  rw [if_pos (show onTheHeap (Value.ref D) = true from rfl)]
  refine L2'.at ?_
  refine wpAny_bind (wpAny_attempt (wpAny_holding ?_))
  unfold callGetattribute
  rw [hx0, if_neg Bool.false_ne_true]
  unfold boundAndCalled
  rw [PySem.F.excAttr_ValueError.ga.bind (.ref x)]
  refine wpAny_bind (wpAny_pure ?_)
  show wpAny _ _ (call (.builtin "BaseException.__getattribute__") [.ref x, .str "__class__" t]) _ _ _
  refine wpAny_call (codeAny_call_builtin PySem.F.excAttr_ValueError.ga.plain PySem.F.entry_bexc_ga ?_)
  refine @check_slot (model prog w) _ _ ⟨hp, g, d, t + 1, os⟩ "BaseException.__getattribute__" "BaseException" "__getattribute__" (.ref x) [.str "__class__" t] [] _ (by decide +kernel) (by decide +kernel) sub (PySem.F.args_bexc_ga (.ref x) (.str "__class__" t)) ?_
  unfold Builtin.«object.__getattribute__»
  refine wpAny_bind (wpAny_of_eq (a := ((Value.ref x : Value), [Value.str "__class__" t])) (by first | rfl | (simp only [slotArgs]; rfl)) ?_)
  refine wpAny_bind (wpAny_pure (wpAny_bind (L0.at (wpAny_bind (L3.at ?_)))))
  show wpAny _ _ (holding [Value.builtin "object.__class__"] (call (.builtin "getset_descriptor.__get__") [.builtin "object.__class__", .ref x, .ref D]) >>= PySem.ret) _ _ _
  refine wpAny_bind (wpAny_holding (wpAny_call (class_get (s := ⟨hp, g, d, t + 1, os⟩) (ox := ox) (od := od) X I T.hm ?_)))
  refine wpAny_pure ?_
  show wpAny _ _ (handedOut (.ref D)) _ _ _
  rw [handedOut_of (v := .ref D) rfl]
  first
    | exact wpAny_pure (wpAny_pure h)
    | exact wpAny_pure h
    | exact wpAny_pure (wpAny_bind (wpAny_pure (wpAny_pure h)))
theorem kitD (T : L2.ExcC K D) : KitX K (.ref x) (.ref D) (fun h => InstAt h x ox D od) where
  ty := fun _ _ _ I => I.type
  it := fun _ _ X _ => by
    obtain ⟨cdD, hcD, _⟩ := any_some T.hd
    unfold clsIn at hcD
    split at hcD
    · rename_i c' d' cd' sl' ho
      intro A' Q' E' s' k q
      unfold isType loadHead
      exact wpAny_bind (wpAny_loadPart (k _ _ (X _ _ ho)) (wpAny_pure q))
    · cases hcD
  ne := fun h tp dd its n sl X htp => by
    obtain ⟨cdD, hcD, _⟩ := any_some T.hd
    refine Bool.eq_false_iff.mpr fun q => ?_
    have e : D = tp := Value.ref.inj (beq_iff_eq.mp q)
    subst e
    unfold clsIn at hcD
    split at hcD
    · rename_i c' d' cd' sl' ho
      have z := (X _ _ ho).symm.trans htp
      cases z
    · cases hcD
  ca := fun X I k => classD T X I k
end
open PySem PySem.Spec PyProof.Rows L2
variable {X : Cx} {W : WX} {pos : Pos} {e e1 : Expr} {es : List Expr}
variable {K : PySem.W.Frag} {ph : Fx} {am am' : Am} {H H' : Hp} {σ σ' : L2.St} {δ δ' : Sg} {a p : Addr} {v : V} {vs : List V} {d : PyData} {ds : List PyData} {i j : Nat}
/-- isinstance(e, c), e the exception that the suite holds, its fields at dx -/
def rIsD (K : PySem.W.Frag) (D a dx : Addr) : List V → Hp → VK → Prop := fun xs H Q => ∃ (c : V) (cv : Value) (b : Bool) (fs : List (Str × V)), xs = [.ref a, c] ∧ (∀ u, RelV c u → u = cv) ∧ PySem.W.kitOne K (.ref D) cv = some b ∧ H dx = some (.xd fs) ∧ Q (.bl b) H
theorem call_isD {a D dx : Addr} {oe : Obj} {pn : List (Addr × Obj)} (C : ExcC X.K D) (hz : Zc (.ref D) (some dx) oe) (hf : ∃ vs, oe.data = .fields vs) : CallR (X.suite a ((a, oe) :: pn)) (.builtin "isinstance") (rIsD X.K D a dx) := by
  intro pins s σ H xs us Q I r h
  obtain ⟨c, cv, b, fs, rfl, hcv, e, hx, q⟩ := h
  cases r with
  | cons rx rr =>
    cases rr with
    | cons rt rr =>
      cases rr
      cases rx
      have ec := hcv _ rt
      subst ec
      obtain ⟨hget, _⟩ := I.pin (a, oe) (List.mem_append.mpr (.inl List.mem_cons_self))
      obtain ⟨vs, hv⟩ := hf
      obtain ⟨mA, hns, _⟩ : ObjOk X.prog X.w H s.heap dx (.xd fs) := I.hok dx _ hx
      obtain ⟨od, ho, _⟩ := lookIn_ns hns
      have J : PySem.W.InstAt s.heap a oe D (some od) := ⟨hget, hz.1, by unfold PySem.W.notCls; rw [hv] <;> rfl, by rw [hz.2]; exact ho⟩
      exact PySem.W.kia_one (kitD C) I.kIn J e (fun z => nomatch z) fun tk => ⟨.bl b, H, I.kept (t' := tk) fun _ _ z => z, rfl, q⟩
variable {c : Str} {gi : List (Str × PyData) → Option (List PyData)} {pf pn pT : Pos}
def gIsA (b : Bool) (g : List (Str × PyData) → Option (List PyData)) : List (Str × PyData) → Option (List PyData) := fun fs => (g fs).map (.bool b :: ·)
def gFld (f : Str) (g : List (Str × PyData) → Option (List PyData)) : List (Str × PyData) → Option (List PyData) := fun fs => match fs.lookup f with
  | some d => (g fs).map (d :: ·)
  | none => none
theorem lookup_q {f : Str} : ∀ {vs : List (Str × V)} {fs : List (Str × PyData)} {d : PyData}, vs.map (·.1) = fs.map (·.1) → DqAll K H (vs.map (·.2)) (fs.map (·.2)) → fs.lookup f = some d → ∃ v, vs.lookup f = some v ∧ Dq K H v d
  | [], [], _, _, _, h => by cases h
  | (k, v) :: vs, (k', d') :: fs, d, hk, hd, h => by
    rw [List.map_cons, List.map_cons] at hk
    obtain ⟨e1, e2⟩ := List.cons.inj hk
    cases e1
    cases hd with
    | cons h1 h2 =>
      rw [List.lookup_cons] at h ⊢
      cases hb : f == k with
      | true =>
        rw [hb] at h
        cases h
        exact ⟨v, rfl, h1⟩
      | false =>
        rw [hb] at h
        exact lookup_q e2 h2 h
  | [], _ :: _, _, hk, _, _ => by cases hk
  | _ :: _, [], _, hk, _, _ => by cases hk
/-- isinstance(n, T), n the exception, with fields or none -/
theorem dx_isiA {n T : Str} {b : Bool} (Tn : String) (hC : ∀ C, X.mg c = some (.ref C) → ExcC X.K C ∧ PySem.W.kitOne X.K (.ref C) (.type Tn) = some b) (hm : X.mg "isinstance" = none) (hmT : X.mg T = none) (hv : bootBuiltins T = some (.type Tn)) (h : DXs X i c es gi)
    (hN : X.N[i]? = some n := by rfl) (hvi : Vis X.env.scope n := by first | exact Or.inl rfl | exact Or.inr (Or.inl rfl) | exact Or.inr (Or.inr rfl)) (hdn : (n == ("__debug__" : Str)) = false := by decide) (hcd : (n == ("__classdict__" : Str)) = false := by decide)
    (hg : Gl X "isinstance" := by rfl) (hgT : Gl X T := by rfl) (hn : T ≠ "__name__" := by decide) (hd : (T == ("__debug__" : Str)) = false := by decide)
    (hs1 : starEach [.Name T pT] X.env = (false, eval (.Name T pT) X.env) :: starEach [] X.env := by rfl)
    (hs : starEach [.Name n pn, .Name T pT] X.env = (false, eval (.Name n pn) X.env) :: starEach [.Name T pT] X.env := by rfl) (hpl : (backTo pos (starEach [.Name T pT] X.env)).any (·.1) = false := by rfl)
    (hs0 : starEach (.Call (.Name "isinstance" pf) [.Name n pn, .Name T pT] [] pos :: es) X.env = (false, eval (.Call (.Name "isinstance" pf) [.Name n pn, .Name T pT] [] pos) X.env) :: starEach es X.env := by rfl) :
    DXs X i c (.Call (.Name "isinstance" pf) [.Name n pn, .Name T pT] [] pos :: es) (gIsA b gi) :=
  ⟨fun a oe C dx q hz hf hm' => by
    obtain ⟨t, p, r⟩ := h.ex a oe C dx q hz hf hm'
    obtain ⟨hc, hk⟩ := hC C hm'
    cases dx with
    | some dd =>
      refine ⟨_, pa_cons (pe_callB (X := X.suite a ((a, oe) :: q)) (call_isD hc hz hf) hg hm boot_isinstance (pa_cons (pe_var hN hvi hdn hcd) (pa_cons (pe_bltn (v := .ty Tn) hgT hmT hv rfl hn hd) pa_nil hs1) hs) (by decide) (by decide) hs hpl) p hs0, fun ph am σ H Q fs ds hσ hp hg k => ?_⟩
      obtain ⟨ds2, e2, rfl⟩ := Option.map_eq_some_iff.mp hg
      rcases hp with ⟨_, z⟩ | ⟨a', vs, z, e0, ex, e3, e4⟩
      · cases z
      · cases z
        exact ⟨_, hσ, .ty Tn, .type Tn, b, vs, rfl, fun u hu => hu, hk, ex, r ph am σ H _ fs ds2 hσ (.inr ⟨_, vs, rfl, e0, ex, e3, e4⟩) e2 fun vs dv => k (.bl b :: vs) (.cons (.bl b) dv)⟩
    | none =>
      refine ⟨_, pa_cons (pe_callB (X := X.suite a ((a, oe) :: q)) (call_isE hc hz hf) hg hm boot_isinstance (pa_cons (pe_var hN hvi hdn hcd) (pa_cons (pe_bltn (v := .ty Tn) hgT hmT hv rfl hn hd) pa_nil hs1) hs) (by decide) (by decide) hs hpl) p hs0, fun ph am σ H Q fs ds hσ hp hg k => ?_⟩
      obtain ⟨ds2, e2, rfl⟩ := Option.map_eq_some_iff.mp hg
      exact ⟨_, hσ, .ty Tn, .type Tn, b, rfl, fun u hu => hu, hk, r ph am σ H _ fs ds2 hσ hp e2 fun vs dv => k (.bl b :: vs) (.cons (.bl b) dv)⟩⟩
/-- n.f, n the exception -/
theorem dx_fld {n f : Str} (hC : ∀ C, X.mg c = some (.ref C) → XfC X.K C ∧ PySem.W.findIn X.K (.ref C) f = some none) (h : DXs X i c es gi)
    (hN : X.N[i]? = some n := by rfl) (hvi : Vis X.env.scope n := by first | exact Or.inl rfl | exact Or.inr (Or.inl rfl) | exact Or.inr (Or.inr rfl)) (hdn : (n == ("__debug__" : Str)) = false := by decide) (hcd : (n == ("__classdict__" : Str)) = false := by decide)
    (hb : attributeBase (.Name n pn) f X.env (eval (.Name n pn) X.env) = eval (.Name n pn) X.env := by rfl)
    (hs0 : starEach (.Attribute (.Name n pn) f pos :: es) X.env = (false, eval (.Attribute (.Name n pn) f pos) X.env) :: starEach es X.env := by rfl) :
    DXs X i c (.Attribute (.Name n pn) f pos :: es) (gFld f gi) :=
  ⟨fun a oe C dx q hz hf hm' => by
    obtain ⟨t, p, r⟩ := h.ex a oe C dx q hz hf hm'
    obtain ⟨hx, hno⟩ := hC C hm'
    refine ⟨_, pa_cons (pe_xf hx hno hz hf (pe_var (X := X.suite a ((a, oe) :: q)) hN hvi hdn hcd) hb) p hs0, fun ph am σ H Q fs ds hσ hp hg k => ?_⟩
    unfold gFld at hg
    split at hg
    · rename_i d el
      obtain ⟨ds2, e2, rfl⟩ := Option.map_eq_some_iff.mp hg
      rcases hp with ⟨z, _⟩ | ⟨a', vs, z, e0, ex, e3, e4⟩
      · subst z; cases el
      · obtain ⟨v, lv, dv⟩ := lookup_q e3 e4 el
        exact ⟨_, hσ, rfl, rfl, a', vs, v, z, ex, lv, r ph am σ H _ fs ds2 hσ (.inr ⟨a', vs, z, e0, ex, e3, e4⟩) e2 fun vs dvs => k (v :: vs) (.cons dv dvs)⟩
    · cases hg⟩
end PD
end

section
set_option Elab.async false
set_option linter.all false
set_option maxRecDepth 100000
set_option maxHeartbeats 2000000
/-! try: .. except A as n: y = [..] except B as n: y = [..] .. -/
namespace PD
open PySem PySem.Spec PyProof.Rows L2
variable {X : Cx} {W : WX} {pos : Pos} {e e1 : Expr} {es : List Expr}
variable {K : PySem.W.Frag} {ph : Fx} {am am' : Am} {H H' : Hp} {σ σ' : L2.St} {δ δ' : Sg} {a p : Addr} {v : V} {vs : List V} {d : PyData} {ds : List PyData} {i j : Nat}
abbrev GI := List (Str × PyData) → Option (List PyData)
def sTryM (hs : List (Str × GI)) (i j : Nat) (g : MS) : MS := fun δ => match g δ with
  | some (.ok fl, δ1) => some (.ok fl, δ1)
  | some (.ex c fs, δ1) => match hs.lookup c with
    | some gi => (match gi fs, δ1[i]?, δ1[j]? with
      | some ds, some ci, some cj => if (ci.free && cj.free && (i != j) && decide (ds.length ≤ 1000)) = true then some (.ok .nx, (δ1.set j (.fz (.list ds))).set i .un) else none
      | _, _, _ => none)
    | none => none
  | none => none
theorem nm_cls {X : Cx} {x : Str} {C : Addr} (hm : X.mg x = some (.ref C)) (hg : Gl X x := by rfl) (hd : (x == ("__debug__" : Str)) = false := by decide) : Names X x (.ref C) := ⟨hg, hd, .inl hm⟩
inductive HdD (X : Cx) (i : Nat) (n y : Str) : List ExceptHandler → List (Str × Addr × GI) → Prop
  | nil : HdD X i n y [] []
  | cons {x : Str} {C : Addr} {gi : GI} {es : List Expr} {np py spos pos pos' : Pos} {hds : List ExceptHandler} {l : List (Str × Addr × GI)} (hx : Names X x (.ref C)) (hxm : X.mg x = some (.ref C)) (hd : DXs X i x es gi)
      (hsw : swapsWith (.List es pos) (some (.Name y py)) spos.line X.env = pure false) (r : HdD X i n y hds l) : HdD X i n y (.ExceptHandler (some (.Name x np)) (some n) [.Assign [.Name y py] (.List es pos) spos] pos' :: hds) ((x, C, gi) :: l)
theorem HdD.as {n y : Str} {hds : List ExceptHandler} {l : List (Str × Addr × GI)} (h : HdD X i n y hds l) (hN : X.N.Nodup) (hj : X.N[j]? = some y) (hy : Loc X.env.scope y) (hf : X.fn y = true ∨ X.env.scope.names.lookup y = some .local) :
    HdsAs X n hds (l.map fun q => (.ref q.2.1, tCat X i j q.1 q.2.2)) := by
  induction h with
  | nil => exact .nil
  | cons hx hxm hd hsw r ih =>
    refine .cons hx (fun a oe cls dx pn hz hv => ?_) ih
    refine ⟨fun pins s σ H D I h => ?_⟩
    obtain ⟨C', ph, am, fs, ds, rfl, hm, hσ, hp, hg, k⟩ := h
    obtain ⟨t, pt, qt⟩ := hd.ex a oe C' dx pn hz hv hm
    refine (pss_one (ps_set (X := X.suite a ((a, oe) :: pn)) hN hj hy (pe_lst pt) hsw hf)).run pins s σ H D I ?_
    exact qt ph am σ H _ fs ds hσ hp hg fun vs dv => k vs dv
theorem HdD.mg {n y : Str} {hds : List ExceptHandler} {l : List (Str × Addr × GI)} (h : HdD X i n y hds l) : ∀ q ∈ l, X.mg q.1 = some (.ref q.2.1) := by
  induction h with
  | nil => intro q hq; cases hq
  | cons hx hxm hd hsw r ih =>
    intro q hq
    rcases List.mem_cons.mp hq with rfl | hq
    · exact hxm
    · exact ih q hq
theorem many_wish {c : Str} {C : Addr} {dx : Option Addr} {gi : GI} {Wout : WX} {D : Ends} : ∀ {l : List (Str × Addr × GI)}, (∀ q ∈ l, PySem.W.exmOne X.K (.ref C) (.ref q.2.1) = some (decide (q.1 = c))) → (l.map fun q => (q.1, q.2.2)).lookup c = some gi →
    (∀ a, H a = none → tCat X i j c gi a (.ref C) dx { nx := fun σ' H' => D.nx (σ'.set i none) H', rt := D.rt, bk := fun σ' H' => D.bk (σ'.set i none) H', ct := fun σ' H' => D.ct (σ'.set i none) H' } (σ.set i (some (.ref a))) H) →
    wManyAs X.K i Wout D (l.map fun q => (Value.ref q.2.1, tCat X i j q.1 q.2.2)) (.ref C) dx σ H
  | [], _, h, _ => by cases h
  | q :: l, hr, h, hc => by
    refine ⟨decide (q.1 = c), hr q (List.mem_cons_self ..), fun hb => ?_, fun hb => ?_⟩
    · have e := of_decide_eq_true hb
      rw [List.map_cons, List.lookup_cons, show (c == q.1) = true by rw [e]; simp] at h
      cases h
      rw [e]
      exact hc
    · have e := of_decide_eq_false hb
      rw [List.map_cons, List.lookup_cons, show (c == q.1) = false by simpa using fun z => e z.symm] at h
      exact many_wish (fun q' hq => hr q' (List.mem_cons_of_mem _ hq)) h hc
theorem ds_try_many {n y : Str} {body : List Stmt} {g : MS} {h₀ : ExceptHandler} {hds : List ExceptHandler} {l : List (Str × Addr × GI)} {pf : Pos} (hs : X.stack = X.env :: X.outer) (hfr : X.env.frame = some X.env.locals) (hN : X.N.Nodup)
    (hrel : ∀ p ∈ l, ∀ q ∈ l, PySem.W.exmOne X.K (.ref p.2.1) (.ref q.2.1) = some (decide (q.1 = p.1)))
    (hb : ∀ (W' : WX) (pn : List (Addr × Obj)) (xe : Value → Shared → Prop), Takes (X.tr pn xe) W' → DSs (X.tr pn xe) W' body g) (hd : HdD X i n y (h₀ :: hds) l)
    (hi : X.N[i]? = some n := by rfl) (hln : X.env.kindOf n = some .local := by rfl) (hj : X.N[j]? = some y := by rfl) (hy : Loc X.env.scope y := by first | exact Or.inl rfl | exact Or.inr rfl)
    (hf : X.fn y = true ∨ X.env.scope.names.lookup y = some .local := by first | exact .inl rfl | exact .inr rfl) :
    DS X W (.Try body (h₀ :: hds) [] [] pf) (sTryM (l.map fun q => (q.1, q.2.2)) i j g) := by
  refine ⟨⟨_, ps_try_manyAs (tb := fun W' => tsOf X W' g) (Wout := fun _ _ _ _ => False) hs hfr hN hi hln takes0 (fun W' pn xe tk' _ => (hb W' pn xe tk').can) (hd.as hN hj hy hf), fun ph am σ H δ D ans δ' s q k kx => ?_⟩⟩
  unfold sTryM at q
  split at q
  · rename_i fl δ1 e1
    cases q
    exact ⟨ph, am, δ, _, _, s, e1, fun fl' z => by cases z; exact k _ rfl, fun c fs z => by cases z⟩
  · rename_i c' fs δ1 e1
    split at q
    · rename_i gi hl
      split at q
      · rename_i ds ci cj g1 g2 g3
        split at q
        · rename_i hc
          simp only [Bool.and_eq_true, bne_iff_ne, decide_eq_true_eq] at hc
          obtain ⟨⟨⟨f1, f2⟩, nij⟩, hl2⟩ := hc
          cases q
          refine ⟨ph, am, δ, _, _, s, e1, fun fl' z => (by cases z), fun c fs z => ?_⟩
          cases z
          intro C' dx am' σ' H' hm st s' pl
          have hi' : i < σ'.length := by rw [s'.len]; exact (List.getElem?_eq_some_iff.mp g2).1
          obtain ⟨q0, hq0, e0⟩ : ∃ q0 ∈ l, q0.1 = c' := by
            have : ∀ {m : List (Str × GI)}, m.lookup c' = some gi → ∃ r ∈ m, r.1 = c' := fun {m} => by
              induction m with
              | nil => intro h; cases h
              | cons r m ih =>
                intro h
                rw [List.lookup_cons] at h
                cases hb : c' == r.1 with
                | true => exact ⟨r, List.mem_cons_self .., (eq_of_beq hb).symm⟩
                | false =>
                  rw [hb] at h
                  obtain ⟨r', h1, h2⟩ := ih h
                  exact ⟨r', List.mem_cons_of_mem _ h1, h2⟩
            obtain ⟨r, h1, h2⟩ := this hl
            obtain ⟨q0, h3, h4⟩ := List.mem_map.mp h1
            exact ⟨q0, h3, by rw [← h2, ← h4]⟩
          have hm0 := hd.mg q0 hq0
          rw [e0, hm] at hm0
          cases hm0
          refine many_wish (fun q hq => ?_) hl fun a na => ?_
          · rw [hrel q0 hq0 q hq, e0]
          · refine ⟨_, ph, am', _, ds, rfl, hm, List.getElem?_set_self hi', pl, g1, fun vs dv => ?_⟩
            have hz : vs.length ≤ sizeLine := by rw [dv.length, sizeLine_eq]; omega
            refine ⟨hz, fun p np => ?_⟩
            have s2 := (s'.same (same_new (o := .lst vs) np))
            have s3 := s2.put g3 f2 (new_lst (fun b h => s'.hidden h) np dv)
            have g2' : (δ1.set j (.fz (.list ds)))[i]? = some ci := by rw [List.getElem?_set_ne (Ne.symm nij)]; exact g2
            have s4 := s3.unset g2' f1
            have e : ((σ'.set i (some (.ref a))).set j (some (.ref p))).set i none = (σ'.set j (some (.ref p))).set i none := by
              rw [List.set_comm _ _ (Ne.symm nij), List.set_set]
              exact List.set_comm _ _ nij
            show D.nx (((σ'.set i (some (.ref a))).set j (some (.ref p))).set i none) _
            rw [e]
            exact k _ rfl _ _ _ ((st.trans (Step.of (same_new np))).trans (step_drop.trans step_drop)) s4
        · cases q
      · cases q
    · cases q
  · cases q
end PD
end

section
set_option Elab.async false
set_option linter.all false
set_option maxRecDepth 100000
set_option maxHeartbeats 2000000
/-! an exception of one's own as a value: x = C(e), x.f, isinstance(x, T) -/
namespace PD
open PySem PySem.Spec PyProof.Rows L2
variable {X : Cx} {W : WX} {pos : Pos} {e e1 : Expr} {es : List Expr} {f : M PyData}
variable {K : PySem.W.Frag} {ph : Fx} {am am' : Am} {H H' : Hp} {σ σ' : L2.St} {δ δ' : Sg} {a p : Addr} {v : V} {vs : List V} {d : PyData} {ds : List PyData} {i j : Nat}
def tLeV (C : Addr) (fld : Str) (ta : TE) : TE := fun σ H Q => ta σ H fun y H1 => ∀ a dx, H1 a = none → H1 dx = none → dx ≠ a → Q (.ref a) (upd (upd (upd H1 a (exo a C none)) dx (exd dx [(fld, y)])) a (exo a C (some dx)))
theorem pe_leV {x : Str} {C fI : Addr} {k : Nat} {fd : FuncData} {ps : List Str} {fld : Str} {ta : TE} {p : Pos} (T : OexL X.K C) (iC : PySem.W.findIn X.K (.ref C) "__init__" = some (some (.ref fI))) (tI : PySem.W.typeIn X.K (.ref fI) = some (.type "function"))
    (F1 : FnOk X.prog X.w X.K X.mg X.base (L2.CX X.prog X.w) k fI fd ps (spLe C fld)) (hr : Room (k + 1) X.A) (hb : Binds X.K fd ps []) (hx : Passes (L2.CX X.prog X.w) X (fun _ _ _ => False)) (hg : Gl X x) (hm : X.mg x = some (.ref C)) (ha : PE X e ta)
    (hdb : (x == ("__debug__" : Str)) = false := by decide) (he : starEach [e] X.env = (false, eval e X.env) :: starEach [] X.env := by rfl) (hpl : (backTo pos (starEach [] X.env)).any (·.1) = false := by rfl) :
    PE X (.Call (.Name x p) [e] [] pos) (tLeV C fld ta) := by
  refine ⟨fun pins s σ H Q I h => ?_⟩
  refine wpAny_Call_Name_kw (ld_glob I hg hm ?_ hdb)
  refine PySem.W.callWith_K (h₀ := X.base) I.ok.mod.kin T.kC (thn ((pa_cons ha pa_nil he).run pos pins s σ H (fun vs H1 => match vs with | [y] => ∀ a dx, H1 a = none → H1 dx = none → dx ≠ a → Q (.ref a) (upd (upd (upd H1 a (exo a C none)) dx (exd dx [(fld, y)])) a (exo a C (some dx))) | _ => False) I h) fun us s1 ⟨vs, H1, I1, r1, q1⟩ => ⟨I1.kIn, ?_⟩) he hpl
  show wpAny _ _ (call (.ref C) us) _ _ _
  obtain ⟨hp, g, dr, tk, os⟩ := s1
  obtain ⟨nm, N, qn, bs, bm, hdct, sn, sub, ab, col, dd, k0, k1, k2, k3, k5, hC, hT⟩ := PySem.W.excInit_of I1.kIn T.q
  match vs, r1, q1 with
  | [y], r1, q1 =>
  have hsz : hp.objs.size ≤ hp.objs.size + 1 := Nat.le_succ _
  have hn : H1 (hp.objs.size + 1) = none := I1.hok.fresh hsz
  have kk : ∀ b o, hp.get? b = some o → ((hp.push (PySem.W.kdv_tup us)).push (PySem.HandSPX.excO C hp.objs.size)).get? b = some o := fun b o e => Heap.get?_push_of_some _ (Heap.get?_push_of_some _ e)
  have hget : ((hp.push (PySem.W.kdv_tup us)).push (PySem.HandSPX.excO C hp.objs.size)).get? (hp.objs.size + 1) = some (PySem.HandSPX.excO C hp.objs.size) := by heap_get
  have I2 : Inv X pins σ (upd H1 (hp.objs.size + 1) (exo (hp.objs.size + 1) C none)) ⟨(hp.push (PySem.W.kdv_tup us)).push (PySem.HandSPX.excO C hp.objs.size), g, dr, tk, os⟩ :=
    I1.laid (t' := tk) (a := hp.objs.size + 1) (o := exo (hp.objs.size + 1) C none) (h' := (hp.push (PySem.W.kdv_tup us)).push (PySem.HandSPX.excO C hp.objs.size)) kk hsz (exo_ok hget)
  have r2 : Vals [V.ref (hp.objs.size + 1), y] (Value.ref (hp.objs.size + 1) :: us) := .cons rfl r1
  have hq : spLe C fld [V.ref (hp.objs.size + 1), y] (upd H1 (hp.objs.size + 1) (exo (hp.objs.size + 1) C none)) (fun v H2 => v = .non ∧ Q (.ref (hp.objs.size + 1)) H2) (fun _ _ _ => False) := by
    refine ⟨_, y, rfl, upd_same, fun dx n ne => ⟨rfl, q1 _ dx hn ?_ ne⟩⟩
    rw [upd_ne ne] at n; exact n
  have hl : (Value.ref (hp.objs.size + 1) :: us).length = ps.length := by
    have e := r2.length
    rw [F1.len _ _ _ _ hq] at e
    exact e.symm
  have hus : us.length ≤ sizeLine := by
    rw [← Paired.length r1, sizeLine_eq]
    simp
  refine wpAny_call (PySem.HandSPX.call_own PySem.F.excBase_LookupError hT hC (PySem.W.looks_findIn I1.kIn iC) (fun self => PySem.W.bind_fn I1.kIn self tI) hus
    (codeAny_mono (F1.run _ X.stack _ _ ⟨Value.ref (hp.objs.size + 1) :: us, []⟩ (Value.ref (hp.objs.size + 1) :: us) _ _ (fun _ _ _ => False) (hr.make C us []) (I2.env0.make C us []) (by have := hb _ (Value.ref (hp.objs.size + 1) :: us) I2.kIn (by simpa using hl); simpa using this) r2 hq) fun r s' hq' => ?_))
  cases r with
  | error er => exact hx pins σ _ _ er s' I2 hq'
  | ok fl =>
    cases fl with
    | ret u =>
      obtain ⟨v, H2, I3, rv, ev, q2⟩ := I2.after hq'
      subst ev
      exact ⟨rv, .ref _, H2, I3, rfl, q2⟩
    | next => exact False.elim hq'
    | brk => exact False.elim hq'
    | cont => exact False.elim hq'
def tXo (K : PySem.W.Frag) (n : Str) (te : TE) : TE := fun σ H Q => te σ H fun x H1 => ∃ (a C dx : Addr) (fs : List (Str × V)) (v : V), x = .ref a ∧ XfC K C ∧ PySem.W.findIn K (.ref C) n = some none ∧ H1 a = some (exo a C (some dx)) ∧ H1 dx = some (exd dx fs) ∧ fs.lookup n = some v ∧ Q v H1
theorem pe_xo {te : TE} {n : Str} (he : PE X e te) (hb : attributeBase e n X.env (eval e X.env) = eval e X.env := by rfl) : PE X (.Attribute e n pos) (tXo X.K n te) := by
  refine ⟨fun pins s σ H Q I h => ?_⟩
  refine attr_of hb (thn (he.run pins s σ H _ I h) fun u s1 hh => ?_)
  obtain ⟨x, H1, I1, rx, a, C, dx, fs, v, ex, T, hno, ea, ed, l, q⟩ := hh
  subst ex
  obtain rfl : u = Value.ref a := rx
  obtain ⟨t1, ha⟩ := exo_at I1.hok ea
  obtain ⟨mA, hns, hr⟩ := exd_at I1.hok ed
  obtain ⟨od, ho, hl⟩ := lookIn_ns hns
  obtain ⟨u, hu, ru⟩ := RelO.some_of (v := v) (o := mA n) (by rw [← l]; exact hr n)
  have J : PySem.W.InstAt s1.heap a _ C (some od) := ⟨ha, rfl, rfl, ho⟩
  exact HandSPX.exc_get I1.kIn J T.ga T.gg T.exC (PySem.W.findObj_own T.hdC hno rfl (by rw [hl, hu])) (handed_of ru) ⟨v, H1, I1.tok _, ru, q⟩
def rIsO (K : PySem.W.Frag) : List V → Hp → VK → Prop := fun xs H Q => ∃ (a C dx : Addr) (fs : List (Str × V)) (c : V) (cv : Value) (b : Bool), xs = [.ref a, c] ∧ ExcC K C ∧ H a = some (exo a C (some dx)) ∧ H dx = some (exd dx fs) ∧ (∀ u, RelV c u → u = cv) ∧ PySem.W.kitOne K (.ref C) cv = some b ∧ Q (.bl b) H
theorem call_isO : CallR X (.builtin "isinstance") (rIsO X.K) := by
  intro pins s σ H xs us Q I r h
  obtain ⟨a, C, dx, fs, c, cv, b, rfl, T, ea, ed, hcv, e, q⟩ := h
  cases r with
  | cons rx rr =>
    cases rr with
    | cons rt rr =>
      cases rr
      cases rx
      have ec := hcv _ rt
      subst ec
      obtain ⟨t1, ha⟩ := exo_at I.hok ea
      obtain ⟨mA, hns, _⟩ := exd_at I.hok ed
      obtain ⟨od, ho, _⟩ := lookIn_ns hns
      have J : PySem.W.InstAt s.heap a _ C (some od) := ⟨ha, rfl, rfl, ho⟩
      exact PySem.W.kia_one (kitD T) I.kIn J e (fun z => nomatch z) fun tk => ⟨.bl b, H, I.kept (t' := tk) fun _ _ z => z, rfl, q⟩
/-! data -/
def sXNew (b : String) (fld : Str) (i : Nat) (f : M PyData) : MS := bnd f fun d => fun δ => match δ[i]? with
  | some c => if c.free = true then some (.ok .nx, δ.set i (.od (.x b [(fld, d)]))) else none
  | none => none
def xXFld (i : Nat) (n : Str) : M PyData := fun δ => match δ[i]? with
  | some (.od (.x _ fs)) => match fs.lookup n with
    | some d => some (.ok d, δ)
    | none => none
  | _ => none
def xXIsi (i : Nat) (b : String) : M PyData := fun δ => match δ[i]? with
  | some (.od (.x b' _)) => if b' = b then some (.ok (.bool true), δ) else none
  | _ => none
theorem ds_xnew {x y fld : Str} {b : String} {C fI : Addr} {fd : FuncData} {ps : List Str} {p py spos : Pos} (T : ExcA X.prog X.w X.K X.mg X.base x C fI fd ps fld) (hE : ExcC X.K C) (hF : XfC X.K C) (hno : PySem.W.findIn X.K (.ref C) fld = some none) (hk : PySem.W.kitOne X.K (.ref C) (.type b) = some true) (hr : Room 2 X.A) (hN : X.N.Nodup) (ha : DE X W e f)
    (hi : X.N[i]? = some y := by rfl) (hx : Loc X.env.scope y := by first | exact Or.inl rfl | exact Or.inr rfl) (hf : X.fn y = true ∨ X.env.scope.names.lookup y = some .local := by first | exact .inl rfl | exact .inr rfl)
    (hs : swapsWith (.Call (.Name x p) [e] [] pos) (some (.Name y py)) spos.line X.env = pure false := by rfl)
    (hg : Gl X x := by rfl) (hdb : (x == ("__debug__" : Str)) = false := by decide) (he : starEach [e] X.env = (false, eval e X.env) :: starEach [] X.env := by rfl) (hpl : (backTo pos (starEach [] X.env)).any (·.1) = false := by rfl) :
    DS X W (.Assign [.Name y py] (.Call (.Name x p) [e] [] pos) spos) (sXNew b fld i f) := by
  obtain ⟨ta, pa, qa⟩ := ha.ex
  refine ⟨⟨_, ps_set hN hi hx (pe_leV T.T T.i T.t T.F hr T.b passes0 hg T.g pa hdb he hpl) hs hf, fun ph am σ H δ D ans δ' s q k kx => ?_⟩⟩
  rcases bnd_some q with ⟨d0, δ1, e1, q1⟩ | ⟨c, fs, e1, q1⟩
  · refine qa ph am σ H δ _ _ _ s e1 (fun d ed am1 v H1 st1 s1 d1 => ?_) (fun c fs z => by cases z)
    cases ed
    intro a dx na nd ne
    split at q1
    · rename_i c e3
      obtain ⟨h1, e4⟩ := if_some q1
      cases e4
      have sm : Same H1 (upd H1 dx (exd dx [(fld, v)])) := same_new nd
      have s2 := s1.same sm
      have na2 : upd H1 dx (exd dx [(fld, v)]) a = none := by rw [upd_ne (Ne.symm ne)]; exact na
      have eH : upd (upd (upd H1 a (exo a C none)) dx (exd dx [(fld, v)])) a (exo a C (some dx)) = upd (upd H1 dx (exd dx [(fld, v)])) a (exo a C (some dx)) := by
        funext b
        by_cases hb : b = a
        · rw [hb, upd_same, upd_same]
        · rw [upd_ne hb, upd_ne hb]
          by_cases hb2 : b = dx
          · rw [hb2, upd_same, upd_same]
          · rw [upd_ne hb2, upd_ne hb2, upd_ne hb]
      have hvis : hid ph am1 (upd H1 dx (exd dx [(fld, v)])) dx = some (exd dx [(fld, v)]) := hid_some.mpr ⟨s1.new nd, upd_same⟩
      have dor : DOR X.K a (hid ph am1 (upd H1 dx (exd dx [(fld, v)]))) (exo a C (some dx)) (.x b [(fld, d0)]) :=
        (show ∃ (C' dx' : Addr) (vs : List (Str × V)), exo a C (some dx) = exo a C' (some dx') ∧ hid ph am1 (upd H1 dx (exd dx [(fld, v)])) dx' = some (exd dx' vs) ∧ vs.map (·.1) = [(fld, d0)].map (·.1) ∧ DqAll X.K (hid ph am1 (upd H1 dx (exd dx [(fld, v)]))) (vs.map (·.2)) ([(fld, d0)].map (·.2)) ∧ ExcC X.K C' ∧ XfC X.K C' ∧ (∀ f, f ∈ [(fld, d0)].map (·.1) → PySem.W.findIn X.K (.ref C') f = some none) ∧ PySem.W.kitOne X.K (.ref C') (.type b) = some true from
          ⟨C, dx, [(fld, v)], rfl, hvis, rfl, .cons (dp_mono (hid_same sm) d1) .nil, hE, hF, fun f hf => by rw [List.mem_singleton.mp hf]; exact hno, hk⟩)
      have := k _ rfl (amPut am1 i a) (σ.set i (some (.ref a))) _ ((st1.trans (Step.of sm)).trans (step_putU na2)) (s2.putDi e3 h1 na2 dor)
      rw [← eH] at this
      exact this
    · cases q1
  · subst q1
    exact qa ph am σ H δ _ _ _ s e1 (fun d ed => by cases ed) (fun c' fs' z => by cases z; exact (kx _ _ rfl).at)
theorem dor_x {u : HO} {b : String} {fs : List (Str × PyData)} (h : DOR K a H u (.x b fs)) : ∃ (C dx : Addr) (vs : List (Str × V)), u = exo a C (some dx) ∧ H dx = some (exd dx vs) ∧ vs.map (·.1) = fs.map (·.1) ∧ DqAll K H (vs.map (·.2)) (fs.map (·.2)) ∧ ExcC K C ∧ XfC K C ∧ (∀ f, f ∈ fs.map (·.1) → PySem.W.findIn K (.ref C) f = some none) ∧ PySem.W.kitOne K (.ref C) (.type b) = some true := by
  cases u <;> exact h
theorem de_xfld {x n : Str} {pn : Pos} (hN : X.N[i]? = some x := by rfl) (hv : Vis X.env.scope x := by first | exact Or.inl rfl | exact Or.inr (Or.inl rfl) | exact Or.inr (Or.inr rfl)) (hd : (x == ("__debug__" : Str)) = false := by decide) (hcd : (x == ("__classdict__" : Str)) = false := by decide)
    (hb : attributeBase (.Name x pn) n X.env (eval (.Name x pn) X.env) = eval (.Name x pn) X.env := by rfl) : DE X W (.Attribute (.Name x pn) n pos) (xXFld i n) := by
  refine ⟨⟨_, pe_xo (pe_var hN hv hd hcd) hb, fun ph am σ H δ Q ans δ' sr z k kx => ?_⟩⟩
  unfold xXFld at z
  split at z
  · rename_i b fs e3
    split at z
    · rename_i d el
      cases z
      obtain ⟨a0, u, o1, o2, o3, o4, _⟩ := sr.od i _ e3
      obtain ⟨C, dx, vs, rfl, h2, h3, h4, _, hF, hno, _⟩ := dor_x o4
      obtain ⟨v, lv, dv⟩ := lookup_q h3 h4 el
      have hn : n ∈ fs.map (·.1) := by
        rw [← h3]
        have : ∀ {m : List (Str × V)}, m.lookup n = some v → n ∈ m.map (·.1) := fun {m} => by
          induction m with
          | nil => intro h; cases h
          | cons r m ih =>
            intro h
            rw [List.lookup_cons] at h
            cases hb : n == r.1 with
            | true => rw [List.map_cons, eq_of_beq hb]; exact List.mem_cons_self ..
            | false => rw [hb] at h; exact List.mem_cons_of_mem _ (ih h)
        exact this lv
      exact ⟨.ref a0, o2, a0, C, dx, vs, v, rfl, hF, hno n hn, o3, hid_sub _ _ h2, lv, k _ rfl am _ H Step.refl sr dv⟩
    · cases z
  · cases z
theorem de_xisi {x T : Str} {pn pT pf : Pos} (Tn : String) (hm : X.mg "isinstance" = none) (hmT : X.mg T = none) (hvT : bootBuiltins T = some (.type Tn)) (hN : X.N[i]? = some x := by rfl) (hv : Vis X.env.scope x := by first | exact Or.inl rfl | exact Or.inr (Or.inl rfl) | exact Or.inr (Or.inr rfl)) (hd : (x == ("__debug__" : Str)) = false := by decide) (hcd : (x == ("__classdict__" : Str)) = false := by decide)
    (hg : Gl X "isinstance" := by rfl) (hgT : Gl X T := by rfl) (hn : T ≠ "__name__" := by decide) (hdT : (T == ("__debug__" : Str)) = false := by decide)
    (hs1 : starEach [.Name T pT] X.env = (false, eval (.Name T pT) X.env) :: starEach [] X.env := by rfl)
    (hs : starEach [.Name x pn, .Name T pT] X.env = (false, eval (.Name x pn) X.env) :: starEach [.Name T pT] X.env := by rfl) (hpl : (backTo pos (starEach [.Name T pT] X.env)).any (·.1) = false := by rfl) :
    DE X W (.Call (.Name "isinstance" pf) [.Name x pn, .Name T pT] [] pos) (xXIsi i Tn) := by
  refine ⟨⟨_, pe_callB call_isO hg hm boot_isinstance (pa_cons (pe_var hN hv hd hcd) (pa_cons (pe_bltn (v := .ty Tn) hgT hmT hvT rfl hn hdT) pa_nil hs1) hs) (by decide) (by decide) hs hpl, fun ph am σ H δ Q ans δ' sr z k kx => ?_⟩⟩
  unfold xXIsi at z
  split at z
  · rename_i b fs e3
    obtain ⟨hb, e4⟩ := if_some z
    cases e4
    subst hb
    obtain ⟨a0, u, o1, o2, o3, o4, _⟩ := sr.od i _ e3
    obtain ⟨C, dx, vs, rfl, h2, h3, h4, hE, _, _, hk⟩ := dor_x o4
    exact ⟨.ref a0, o2, a0, C, dx, vs, .ty _, .type _, true, rfl, hE, o3, hid_sub _ _ h2, fun u hu => hu, hk, k _ rfl am _ H Step.refl sr (.bl true)⟩
  · cases z
end PD
end

section
set_option Elab.async false
set_option linter.all false
set_option maxRecDepth 100000
set_option maxHeartbeats 2000000
/-! exceptions of one's own below any built-in one, whose __init__ keeps what it is given; made by place and by name -/
namespace PD
open PySem PySem.Spec PyProof.Rows L2
variable {X : Cx} {W : WX} {pos : Pos} {e e1 : Expr} {es : List Expr} {f : M PyData}
variable {K : PySem.W.Frag} {ph : Fx} {am am' : Am} {H H' : Hp} {σ σ' : L2.St} {δ δ' : Sg} {a p : Addr} {v : V} {vs : List V} {d : PyData} {ds : List PyData} {i j : Nat}
structure OexG (K : PySem.W.Frag) (C : Addr) (B newId initId : String) (bm : List Value) : Prop where
  fb : ExcBaseFacts B newId initId bm
  sf : StoreFacts B bm "object.__setattr__" "object"
  q : PySem.W.excInitIn K C bm newId = true
  ov : PySem.W.excOver K C bm = true
  dict : PySem.W.hasDictIn K C = true
  sa : PySem.W.findIn K (.ref C) "__setattr__" = some (some (.builtin "object.__setattr__"))
  exC : PySem.W.subIn K (.ref C) (.type "BaseException") = some true
  tyC : PySem.W.typeIn K (.ref C) = some (.type "type")
  kC : PySem.W.keepIn K (.ref C) = true
variable {B newId initId : String} {bm : List Value}
section
open PySem.W PySem.Calls PySem.HandSPX Builtin Builtin.ObjectAttr
variable {prog : Program} {w : World} {A : Around} {E : Value → Shared → Prop} {R : Result → Shared → Prop} {hp : Heap} {g : Array GenState} {d : Drawn} {t : Nat} {os : OsState}
theorem leExc_osaG {K : Frag} {name : Str} {tk : Tok} {v : Value} {x C : Addr} {fv : Array Value}
    (T : OexG K C B newId initId bm) (X : K.In hp) (hx : hp.get? x = some { cls := .ref C, data := .fields fv }) (ha : takerIn K C name = some none)
    (hq : ∀ h' tk' dx, (∀ b o, b ≠ x → hp.get? b = some o → h'.get? b = some o) → hp.objs.size ≤ dx → dx ≠ x → h'.get? x = some { cls := .ref C, dict := some dx, data := .fields fv } →
      h'.Ns1 dx (fun y => if y = name then some v else none) → R (.ok (.ret .none)) ⟨h', g, d, tk', os⟩) :
    codeAny (model prog w) A (.call (.builtin "object.__setattr__") ⟨[.ref x, .str name tk, v], []⟩) R ⟨hp, g, d, t, os⟩ := by
  have I : InstAt hp x { cls := .ref C, data := .fields fv } C none := ⟨hx, rfl, rfl, trivial⟩
  have hxs : x ≠ hp.objs.size := Nat.ne_of_lt (Heap.lt_size hx)
  refine osa_openX (s := ⟨hp, g, d, t, os⟩) T.sf X I T.ov ha fun b => ?_
  obtain ⟨cd, hcd, hh⟩ : ∃ cd, clsIn K C = some cd ∧ cd.hasDict = true := by
    have := T.dict
    unfold hasDictIn at this
    cases e : clsIn K C with
    | none => rw [e] at this; cases this
    | some cd => rw [e] at this; exact ⟨cd, rfl, this⟩
  have hcls : Looks (model prog w) hp (classData C) cd := looks_clsIn X hcd
  obtain ⟨nm, bs, mro, ns, qn, hd, sn, sb, ab, col, del⟩ := cd
  dsimp only at hh
  subst hh
  unfold storeInOwnDict ownDictForStores
  repeat (first | with_reducible refine store_in_new ?_ ?_ | with_reducible refine wpAny_loadPart_at hx ?_ | with_reducible refine hcls.at ?_ | wp_step)
  · exact ⟨_, #[], _, (Heap.get?_update_ne _ _ _ _ hxs.symm).trans (Heap.get?_push_at rfl rfl), rfl, fun e he => absurd he (by simp), fun _ => rfl⟩
  · intro h' tk' hn' hs
    have hx₁ : (hp.push { cls := .type "dict", data := .dict #[] }).get? x = some { cls := .ref C, data := .fields fv } := Heap.get?_push_of_some _ hx
    refine hq h' tk' hp.objs.size (fun b o hb ho => ?_) (Nat.le_refl _) hxs.symm ?_ hn'
    · exact (hs.2 b (Nat.ne_of_lt (Heap.lt_size ho))).trans ((Heap.get?_update_ne _ _ _ _ hb).trans (Heap.get?_push_of_some _ ho))
    · exact (hs.2 x hxs).trans (Heap.get?_update_self _ hx₁ rfl)
end
/-- self.f = y -/
theorem leOstG {pins : List (Addr × Obj)} {s : Shared} {C : Addr} {fld : Str} {y : V} {u : Value} {Q : Unit → Shared → Prop} {E : Value → Shared → Prop} {A : Around} (T : OexG X.K C B newId initId bm) (I : Inv X pins σ H s) (e : H a = some (exo a C none)) (hno : PySem.W.findIn X.K (.ref C) fld = some none) (ry : RelV y u)
    (h : ∀ dx s', H dx = none → dx ≠ a → Inv X pins σ (upd (upd H dx (exd dx [(fld, y)])) a (exo a C (some dx))) s' → Q () s') : wpAny (model X.prog X.w) A (setAttr (.ref a) fld u) Q E s := by
  obtain ⟨t1, ho⟩ := exo_at I.hok e
  obtain ⟨hp, g, d, t, os⟩ := s
  refine PySem.W.set_plain I.kIn (ox := { cls := .ref C, dict := none, data := .fields #[.ref t1, .none, .none, .none, .bool false, .none] }) (od := none) ⟨ho, rfl, rfl, trivial⟩ T.sa ?_
  refine leExc_osaG T I.kIn ho (by unfold PySem.W.takerIn; rw [hno]; rfl) (fun h' tk' dx k dn dne hx hn => ?_)
  have hnd : H dx = none := I.hok.fresh dn
  have nd : ∀ {b : Addr} {o : Obj}, hp.get? b = some o → b ≠ dx := fun {b o} q => Nat.ne_of_lt (Nat.lt_of_lt_of_le (Heap.lt_size q) dn)
  have na : ∀ {b : Addr}, H b = none → b ≠ a := fun {b} n z => by
    rw [z, e] at n
    cases n
  have Un1 : Un X.fs [] H (upd (upd H dx (exd dx [(fld, y)])) a (exo a C (some dx))) hp h' := {
    keep := fun b o q n _ _ => k b o (na n) q
    slot := fun b o q n _ _ => ⟨o.slots, k b o (na n) q⟩
    free := fun b o q n _ => by rw [upd_ne (na n), upd_ne (nd q)]; exact n
    there := fun b o q _ => by
      by_cases hb : b = a
      · exact ⟨_, by rw [hb]; exact hx⟩
      · exact ⟨o, k b o hb q⟩
    tups := fun b xs q => by rw [upd_ne (at_ne e q exo_tup), upd_ne (ne_of_none q hnd)]; exact q
    frzs := fun b o v q => by rw [upd_ne (at_ne e q exo_frz), upd_ne (ne_of_none q hnd)]; exact q
    tbls := fun b ps q => ⟨#[], by rw [upd_ne (at_ne e q exo_tbl), upd_ne (ne_of_none q hnd), q]; simp⟩ }
  refine h dx _ hnd dne (I.un (t' := tk') Un1 fun b o q => ?_)
  by_cases hb : b = a
  · subst hb
    rw [upd_same] at q
    cases q
    exact exo_ok hx
  · rw [upd_ne hb] at q
    by_cases hd : b = dx
    · subst hd
      rw [upd_same] at q
      cases q
      exact exd_ok hn (relO_put (fs := []) ry fun g => True.intro)
    · rw [upd_ne hd] at q
      exact (I.hok b o q).stay (fun c v hc z => k c v (by
          rcases hc with hc | hc
          · rw [hc]
            exact hb
          · exact at_ne e hc exo_own) z)
        (fun c hc => by rw [upd_ne (at_ne e hc exo_own), upd_ne (ne_of_none hc hnd)]; exact hc) (fun c xs hc => by rw [upd_ne (at_ne e hc exo_tup), upd_ne (ne_of_none hc hnd)]; exact hc)
theorem ps_leOstG {o e : Expr} {to te : TE} {C : Addr} {fld : Str} {p' : Pos} (T : OexG X.K C B newId initId bm) (hno : PySem.W.findIn X.K (.ref C) fld = some none) (ho : PE X o to) (he : PE X e te) (hs : swapsWith e (some (.Attribute o fld p')) pos.line X.env = pure false := by rfl) : PS X (.Assign [.Attribute o fld p'] e pos) (tLeOst X.K C fld to te) := by
  refine ⟨fun pins s σ H D I h => ?_⟩
  refine plainObj_wpAny_Assign_Attribute (thn (he.run pins s σ H _ I h) fun v s1 ⟨y, H1, I1, r1, q1⟩ => thn (ho.run pins s1 σ H1 _ I1 q1) fun u s2 ⟨x, H2, I2, r2, a, ex, ea, q⟩ => ?_) hs
  subst ex
  obtain rfl : u = Value.ref a := r2
  exact leOstG T I2 ea hno r1 fun dx s' n ne J => ⟨σ, _, J, q dx n ne⟩
theorem fn_leG {P : Program} {w : World} {mg : Str → Option Value} {base : Heap} {k : Nat} {C fI : Addr} {fd : FuncData} {N : List Str} {x qual sn vn fld : Str} {st : Stmt} {p1 p2 p3 p4 : Pos} (T : OexG K C B newId initId bm) (hno : PySem.W.findIn K (.ref C) fld = some none) (F : Fun K x qual st fI fd) (S : FnScope N [sn, vn] (defScope st)) (hN : N = [sn, vn])
    (hb : defBody st = [.Assign [.Attribute (.Name sn p1) fld p2] (.Name vn p3) p4])
    (hv1 : Vis (defScope st) sn) (hv2 : Vis (defScope st) vn) (hd1 : (sn == ("__debug__" : Str)) = false) (hd2 : (vn == ("__debug__" : Str)) = false) (hc1 : (sn == ("__classdict__" : Str)) = false) (hc2 : (vn == ("__classdict__" : Str)) = false)
    (hs : ∀ env : PySem.Env, swapsWith (.Name vn p3) (some (.Attribute (.Name sn p1) fld p2)) p4.line env = pure false) :
    FnOk P w K mg base (L2.CX P w) (k + 1) fI fd [sn, vn] (spLe C fld) := by
  subst hN
  refine F.okX S (fun vs H Q E h => by obtain ⟨_, _, rfl, _⟩ := h; rfl) (fun cdv A outer s H vs Q E hr h => ?_)
  obtain ⟨a, y, rfl, ha, q⟩ := h
  rw [hb]
  refine ⟨_, pss_one (ps_leOstG T hno (pe_var (i := 0) rfl hv1 hd1 hc1) (pe_var (i := 1) rfl hv2 hd2 hc2) (hs _)), ?_⟩
  exact ⟨y, rfl, .ref a, rfl, a, rfl, ha, fun dx n ne => q dx n ne⟩
theorem pe_leVG {x : Str} {C fI : Addr} {k : Nat} {fd : FuncData} {ps : List Str} {fld : Str} {ta : TE} {p : Pos} (T : OexG X.K C B newId initId bm) (iC : PySem.W.findIn X.K (.ref C) "__init__" = some (some (.ref fI))) (tI : PySem.W.typeIn X.K (.ref fI) = some (.type "function"))
    (F1 : FnOk X.prog X.w X.K X.mg X.base (L2.CX X.prog X.w) k fI fd ps (spLe C fld)) (hr : Room (k + 1) X.A) (hb : Binds X.K fd ps []) (hx : Passes (L2.CX X.prog X.w) X (fun _ _ _ => False)) (hg : Gl X x) (hm : X.mg x = some (.ref C)) (ha : PE X e ta)
    (hdb : (x == ("__debug__" : Str)) = false := by decide) (he : starEach [e] X.env = (false, eval e X.env) :: starEach [] X.env := by rfl) (hpl : (backTo pos (starEach [] X.env)).any (·.1) = false := by rfl) :
    PE X (.Call (.Name x p) [e] [] pos) (tLeV C fld ta) := by
  refine ⟨fun pins s σ H Q I h => ?_⟩
  refine wpAny_Call_Name_kw (ld_glob I hg hm ?_ hdb)
  refine PySem.W.callWith_K (h₀ := X.base) I.ok.mod.kin T.kC (thn ((pa_cons ha pa_nil he).run pos pins s σ H (fun vs H1 => match vs with | [y] => ∀ a dx, H1 a = none → H1 dx = none → dx ≠ a → Q (.ref a) (upd (upd (upd H1 a (exo a C none)) dx (exd dx [(fld, y)])) a (exo a C (some dx))) | _ => False) I h) fun us s1 ⟨vs, H1, I1, r1, q1⟩ => ⟨I1.kIn, ?_⟩) he hpl
  show wpAny _ _ (call (.ref C) us) _ _ _
  obtain ⟨hp, g, dr, tk, os⟩ := s1
  obtain ⟨nm, N, qn, bs, bm, hdct, sn, sub, ab, col, dd, k0, k1, k2, k3, k5, hC, hT⟩ := PySem.W.excInit_of I1.kIn T.q
  match vs, r1, q1 with
  | [y], r1, q1 =>
  have hsz : hp.objs.size ≤ hp.objs.size + 1 := Nat.le_succ _
  have hn : H1 (hp.objs.size + 1) = none := I1.hok.fresh hsz
  have kk : ∀ b o, hp.get? b = some o → ((hp.push (PySem.W.kdv_tup us)).push (PySem.HandSPX.excO C hp.objs.size)).get? b = some o := fun b o e => Heap.get?_push_of_some _ (Heap.get?_push_of_some _ e)
  have hget : ((hp.push (PySem.W.kdv_tup us)).push (PySem.HandSPX.excO C hp.objs.size)).get? (hp.objs.size + 1) = some (PySem.HandSPX.excO C hp.objs.size) := by heap_get
  have I2 : Inv X pins σ (upd H1 (hp.objs.size + 1) (exo (hp.objs.size + 1) C none)) ⟨(hp.push (PySem.W.kdv_tup us)).push (PySem.HandSPX.excO C hp.objs.size), g, dr, tk, os⟩ :=
    I1.laid (t' := tk) (a := hp.objs.size + 1) (o := exo (hp.objs.size + 1) C none) (h' := (hp.push (PySem.W.kdv_tup us)).push (PySem.HandSPX.excO C hp.objs.size)) kk hsz (exo_ok hget)
  have r2 : Vals [V.ref (hp.objs.size + 1), y] (Value.ref (hp.objs.size + 1) :: us) := .cons rfl r1
  have hq : spLe C fld [V.ref (hp.objs.size + 1), y] (upd H1 (hp.objs.size + 1) (exo (hp.objs.size + 1) C none)) (fun v H2 => v = .non ∧ Q (.ref (hp.objs.size + 1)) H2) (fun _ _ _ => False) := by
    refine ⟨_, y, rfl, upd_same, fun dx n ne => ⟨rfl, q1 _ dx hn ?_ ne⟩⟩
    rw [upd_ne ne] at n; exact n
  have hl : (Value.ref (hp.objs.size + 1) :: us).length = ps.length := by
    have e := r2.length
    rw [F1.len _ _ _ _ hq] at e
    exact e.symm
  have hus : us.length ≤ sizeLine := by
    rw [← Paired.length r1, sizeLine_eq]
    simp
  refine wpAny_call (PySem.HandSPX.call_own T.fb hT hC (PySem.W.looks_findIn I1.kIn iC) (fun self => PySem.W.bind_fn I1.kIn self tI) hus
    (codeAny_mono (F1.run _ X.stack _ _ ⟨Value.ref (hp.objs.size + 1) :: us, []⟩ (Value.ref (hp.objs.size + 1) :: us) _ _ (fun _ _ _ => False) (hr.make C us []) (I2.env0.make C us []) (by have := hb _ (Value.ref (hp.objs.size + 1) :: us) I2.kIn (by simpa using hl); simpa using this) r2 hq) fun r s' hq' => ?_))
  cases r with
  | error er => exact hx pins σ _ _ er s' I2 hq'
  | ok fl =>
    cases fl with
    | ret u =>
      obtain ⟨v, H2, I3, rv, ev, q2⟩ := I2.after hq'
      subst ev
      exact ⟨rv, .ref _, H2, I3, rfl, q2⟩
    | next => exact False.elim hq'
    | brk => exact False.elim hq'
    | cont => exact False.elim hq'
end PD
end

section
set_option Elab.async false
set_option linter.all false
set_option maxRecDepth 100000
set_option maxHeartbeats 1000000
/-! texts: signs, parts, numbers in figures, f-strings -/
namespace PD
open PySem PySem.Spec PyProof.Rows L2
variable {X : Cx} {W : WX} {pos : Pos} {e e1 e2 e3 : Expr} {es : List Expr} {f g h : M PyData} {fs : M (List PyData)} {fb gb : M Bool}
variable {K : PySem.W.Frag} {ph : Fx} {am am' am1 : Am} {H H' H1 : Hp} {σ σ' : L2.St} {δ δ' δ1 : Sg} {a p p1 p2 : Addr} {v : V} {vs : List V} {d : PyData} {ds : List PyData} {i : Nat}
def sMk (l : List Nat) : Str := ⟨⟨l⟩⟩
theorem sMk_tl (x : Str) : sMk x.cps.toList = x := by
  cases x with
  | mk c => cases c; rfl
theorem tl_sMk (l : List Nat) : (sMk l).cps.toList = l := rfl
theorem sMk_one {x : Str} {c : Nat} (h : x.cps.toList = [c]) : x = ⟨#[c]⟩ := by
  rw [← sMk_tl x, h]
  rfl
/-! ### a text that a module names -/
theorem de_gstr {x : Str} {s : Str} {t : Tok} {pn : Pos} (hm : X.mg x = some (.str s t)) (hg : Gl X x := by rfl) (hd : (x == ("__debug__" : Str)) = false := by decide) : DE X W (.Name x pn) (ret (.str s)) :=
  de_ret (pe_glob (v := .str s) hg hm ⟨t, rfl⟩ hd) rfl fun _ => .str s
/-! ### a sign in a text -/
def inS (neg : Bool) (a b : PyData) : Option PyData := match a, b with
  | .str x, .str z => match x.cps.toList with
    | [c] => some (.bool (decide (c ∈ z.cps.toList) != neg))
    | _ => none
  | _, _ => none
def rInS (neg : Bool) : R2 := fun x y H Q => ∃ (c : Nat) (z : Str), x = .str ⟨#[c]⟩ ∧ y = .str z ∧ Q (.bl (decide (c ∈ z.cps.toList) != neg)) H
theorem op_ninS : OpR X (compareOp .NotIn) (rInS true) := by
  intro pins s σ H x y v u Q I rx ry h
  obtain ⟨c, z, e1, e2, q⟩ := h
  rw [Bool.bne_true] at q
  exact op_notIn_sign pins s σ H x y v u Q I rx ry ⟨c, z, e1, e2, q⟩
theorem op_inS : OpR X (compareOp .In) (rInS false) := by
  intro pins s σ H x y v u Q I rx ry h
  obtain ⟨c, z, e1, e2, q⟩ := h
  rw [Bool.bne_false] at q
  exact op_in_sign pins s σ H x y v u Q I rx ry ⟨c, z, e1, e2, q⟩
theorem opd_inS {neg : Bool} : OpD X (rInS neg) (inS neg) := by
  intro ph am H x y d e c Q hn dx dy q k
  cases dx <;> cases dy <;> simp only [inS, reduceCtorEq] at q
  split at q
  · rename_i c0 hc
    cases q
    exact ⟨c0, _, by rw [sMk_one hc], rfl, k _ H (Same.refl H) (.bl _)⟩
  · cases q
theorem de_ninS (ha : DE X W e1 f) (hb : DE X W e2 g) (hm : behindInMarks .NotIn e2 = false := by rfl) : DE X W (.Compare e1 [.NotIn] [e2] pos) (xBin (inS true) f g) := de_cmp opd_inS op_ninS hm ha hb
theorem de_inS (ha : DE X W e1 f) (hb : DE X W e2 g) (hm : behindInMarks .In e2 = false := by rfl) : DE X W (.Compare e1 [.In] [e2] pos) (xBin (inS false) f g) := de_cmp opd_inS op_inS hm ha hb
/-! ### the signs of a text, one after another -/
def charsD : PyData → Option (List PyData)
  | .str z => some (z.cps.toList.map fun c => .str (sMk [c]))
  | _ => none
theorem walkD_str {z : Str} : WalkD K ph am H (Its z) (z.cps.toList.map fun c => .str (sMk [c])) := by
  refine ⟨_, _, by rw [List.length_map, Array.length_toList]; exact walk_str, fun _ _ _ _ => trivial, fun i x H2 H3 ph2 am2 hi s hn y => ?_⟩
  obtain ⟨rfl, c, hc, rfl⟩ := y
  refine ⟨.str (sMk [c]), ?_, Same.refl _, .str _⟩
  rw [List.getElem?_map, Array.getElem?_toList, hc]
  rfl
def xChars (f : M PyData) : M (List PyData) := bnd f fun d => lif (charsD d)
theorem di_chars {tg : Expr} (he : DE X W e f) : DI X W tg e (xChars f) := by
  obtain ⟨t, p, q⟩ := he.ex
  refine ⟨⟨_, pi_str p, fun ph am σ H δ R ans δ' s z k kx => ?_⟩⟩
  rcases bnd_some z with ⟨d, δ1, e1, e2⟩ | ⟨c, fs, e1, e2⟩
  · refine q ph am σ H δ _ _ _ s e1 (fun d' ed am1 v H1 st1 s1 d1 => ?_) (fun c fs z => by cases z)
    cases ed
    obtain ⟨ds, e3, rfl, rfl⟩ := lif_some e2
    cases d1 with
    | str x =>
      cases e3
      exact ⟨x, rfl, k _ rfl am1 H1 _ st1 s1 walkD_str⟩
    | _ => cases e3
  · subst e2
    exact q ph am σ H δ _ _ _ s e1 (fun d ed => by cases ed) (fun c' fs' z => by cases z; exact kx _ _ rfl)
/-! ### one sign of a text -/
def ixS (a b : PyData) : Option PyData := match a, b with
  | .str z, .int i => if z.cps.toList.length ≤ 1000000 then (L2.atI z.cps.toList i).map fun c => .str (sMk [c]) else none
  | _, _ => none
theorem len_tl (z : Str) : z.length = z.cps.toList.length := by simp [Str.length]
theorem le_line {n : Nat} (h : n ≤ 1000000) : n ≤ sizeLine := Nat.le_trans h (by rw [sizeLine_eq]; omega)
theorem opd_ixS : OpD X rIxS ixS := by
  intro ph am H x y d e c Q hn dx dy q k
  cases dx <;> cases dy <;> simp only [ixS, reduceCtorEq] at q
  rename_i z i
  split at q
  · rename_i hz
    obtain ⟨c0, h1, rfl⟩ := Option.map_eq_some_iff.mp q
    exact ⟨z, i, c0, rfl, rfl, by rw [len_tl]; exact le_line hz, h1, k _ H (Same.refl H) (.str _)⟩
  · cases q
theorem de_ixS (hs : PlainIx e2) (ha : DE X W e1 f) (hb : DE X W e2 g) : DE X W (.Subscript e1 e2 pos) (xBin ixS f g) := bin_core opd_ixS ha hb fun _ _ pa pb => pe_ix ix_str pa pb hs
/-! ### methods of a text with one argument -/
def xM1 (F : Str → PyData → Option PyData) (f g : M PyData) : M PyData := bnd f fun a => fun δ => match a with
  | .str s => (bnd g fun b => lif (F s b)) δ
  | _ => none
def xM1F (F : Str → PyData → Option (List PyData)) (f g : M PyData) : M (List PyData) := bnd f fun a => fun δ => match a with
  | .str s => (bnd g fun b => lif (F s b)) δ
  | _ => none
theorem m1_read {r : V → List V → Hp → VK → Prop} {F : Str → PyData → Option PyData} {ta tb : TE} (hr : ∀ (ph : Fx) (am : Am) (H : Hp) (x : Str) (y : V) (e c : PyData) (Q : VK), (∀ b, Hid ph am b → ∃ o, H b = some o) → Dq X.K (hid ph am H) y e → F x e = some c →
    (∀ v H', Same H H' → Dq X.K (hid ph am H') v c → Q v H') → r (.str x) [y] H Q) (qa : ReadE X W ta f) (qb : ReadE X W tb g) : ReadE X W (tM1 r ta tb) (xM1 F f g) := by
  intro ph am σ H δ Q ans δ' s q k kx
  rcases bnd_some q with ⟨a, δ1, e1, q1⟩ | ⟨c, fs, e1, q1⟩
  · refine qa ph am σ H δ _ _ _ s e1 (fun d ed am1 x H1 st1 s1 d1 => ?_) (fun c fs z => by cases z)
    cases ed
    cases d1 with
    | str x =>
      refine ⟨⟨x, rfl⟩, ?_⟩
      rcases bnd_some q1 with ⟨b, δ2, e2, q2⟩ | ⟨c, fs, e2, q2⟩
      · refine qb ph am1 σ H1 δ1 _ _ _ s1 e2 (fun d ed am2 y H2 st2 s2 d2 => ?_) (fun c fs z => by cases z)
        cases ed
        obtain ⟨z, e3, rfl, rfl⟩ := lif_some q2
        refine hr ph am2 H2 x y b z _ (fun b h => s2.hidden h) d2 e3 fun v H3 sm dv => ?_
        exact k _ rfl am2 v H3 ((st1.trans st2).trans (Step.of sm)) (s2.same sm) dv
      · subst q2
        exact qb ph am1 σ H1 δ1 _ _ _ s1 e2 (fun d ed => by cases ed) (fun c' fs' z => by cases z; exact (kx _ _ rfl).step st1)
    | _ => cases q1
  · subst q1
    exact qa ph am σ H δ _ _ _ s e1 (fun d ed => by cases ed) (fun c' fs' z => by cases z; exact kx _ _ rfl)
theorem m1_readF {r : V → List V → Hp → VK → Prop} {F : Str → PyData → Option (List PyData)} {ta tb : TE} (hr : ∀ (ph : Fx) (am : Am) (H : Hp) (x : Str) (y : V) (e : PyData) (cs : List PyData) (Q : VK), (∀ b, Hid ph am b → ∃ o, H b = some o) → Dq X.K (hid ph am H) y e → F x e = some cs →
    (∀ p vs, H p = none → DqAll X.K (hid ph am H) vs cs → vs.length ≤ sizeLine → Q (.ref p) (upd H p (.lst vs))) → r (.str x) [y] H Q) (qa : ReadE X W ta f) (qb : ReadE X W tb g) : ReadF X W (tM1 r ta tb) (xM1F F f g) := by
  intro ph am σ H δ Q ans δ' s q k kx
  rcases bnd_some q with ⟨a, δ1, e1, q1⟩ | ⟨c, fs, e1, q1⟩
  · refine qa ph am σ H δ _ _ _ s e1 (fun d ed am1 x H1 st1 s1 d1 => ?_) (fun c fs z => by cases z)
    cases ed
    cases d1 with
    | str x =>
      refine ⟨⟨x, rfl⟩, ?_⟩
      rcases bnd_some q1 with ⟨b, δ2, e2, q2⟩ | ⟨c, fs, e2, q2⟩
      · refine qb ph am1 σ H1 δ1 _ _ _ s1 e2 (fun d ed am2 y H2 st2 s2 d2 => ?_) (fun c fs z => by cases z)
        cases ed
        obtain ⟨z, e3, rfl, rfl⟩ := lif_some q2
        exact hr ph am2 H2 x y b z _ (fun b h => s2.hidden h) d2 e3 fun p vs np dv hz => k _ rfl am2 p vs H2 ((st1.trans st2).none np) np (st1.trans st2) s2 dv hz
      · subst q2
        exact qb ph am1 σ H1 δ1 _ _ _ s1 e2 (fun d ed => by cases ed) (fun c' fs' z => by cases z; exact (kx _ _ rfl).step st1)
    | _ => cases q1
  · subst q1
    exact qa ph am σ H δ _ _ _ s e1 (fun d ed => by cases ed) (fun c' fs' z => by cases z; exact kx _ _ rfl)
/-! ### split by one sign -/
def splitL (c : Nat) : List Nat → List (List Nat)
  | [] => [[]]
  | x :: xs => if x = c then [] :: splitL c xs else match splitL c xs with
    | [] => [[x]]
    | l :: r => (x :: l) :: r
def joinL (s : List Nat) : List (List Nat) → List Nat
  | [] => []
  | l :: r => match r with
    | [] => l
    | _ :: _ => l ++ s ++ joinL s r
theorem splitL_ne (c : Nat) : ∀ l, splitL c l ≠ []
  | [], h => by cases h
  | x :: xs, h => by
    unfold splitL at h
    split at h
    · cases h
    · split at h <;> cases h
theorem splitL_free {c : Nat} : ∀ {l : List Nat}, c ∉ l → splitL c l = [l]
  | [], _ => rfl
  | x :: xs, h => by
    have h1 : x ≠ c := fun e => h (by rw [e]; exact List.mem_cons_self ..)
    unfold splitL
    rw [if_neg h1, splitL_free fun z => h (List.mem_cons_of_mem _ z)]
theorem splitL_app {c : Nat} {r : List Nat} : ∀ {l : List Nat}, c ∉ l → splitL c (l ++ c :: r) = l :: splitL c r
  | [], _ => by
    show splitL c (c :: r) = _
    rw [splitL, if_pos rfl]
  | x :: xs, h => by
    have h1 : x ≠ c := fun e => h (by rw [e]; exact List.mem_cons_self ..)
    show splitL c (x :: (xs ++ c :: r)) = _
    rw [splitL, if_neg h1, splitL_app fun z => h (List.mem_cons_of_mem _ z)]
theorem split_join {c : Nat} : ∀ {ps : List (List Nat)}, (∀ p ∈ ps, c ∉ p) → ps ≠ [] → splitL c (joinL [c] ps) = ps
  | [], _, n => (n rfl).elim
  | [l], h, _ => splitL_free (h l (List.mem_cons_self ..))
  | l :: m :: r, h, _ => by
    show splitL c (l ++ [c] ++ joinL [c] (m :: r)) = _
    rw [List.append_assoc]
    show splitL c (l ++ c :: joinL [c] (m :: r)) = _
    rw [splitL_app (h l (List.mem_cons_self ..)), split_join (fun p hp => h p (List.mem_cons_of_mem _ hp)) (by simp)]
theorem join_tl (s : Str) : ∀ ys : List Str, (Str.join s ys).cps.toList = joinL s.cps.toList (ys.map fun y => y.cps.toList)
  | [] => rfl
  | [x] => rfl
  | x :: y :: r => by
    show (x ++ s ++ Str.join s (y :: r)).cps.toList = _
    rw [Str.cps_append, Str.cps_append, Array.toList_append, Array.toList_append, join_tl s (y :: r)]
    rfl
theorem split_ne (a b : Str) : Txt.split a b ≠ [] := by
  unfold Txt.split
  split
  · simp
  · split
    · simp
    · rw [PySem.StrLaws.partsBetween_eq]
      obtain ⟨p, q, e⟩ := PySem.StrLaws.partsFrom_ne a b.length 0 (Builtin.Str.occurrences a b 0 a.length (a.length + 1))
      rw [e]
      simp
theorem split_eq (a : Str) (c : Nat) : (Txt.split a ⟨#[c]⟩).map (fun y => y.cps.toList) = splitL c a.cps.toList := by
  have h1 := PySem.StrLaws.join_split a ⟨#[c]⟩
  have h2 := join_tl ⟨#[c]⟩ (Txt.split a ⟨#[c]⟩)
  rw [h1] at h2
  rw [h2]
  refine (split_join (fun p hp => ?_) fun z => split_ne a ⟨#[c]⟩ (List.map_eq_nil_iff.mp z)).symm
  obtain ⟨y, hy, rfl⟩ := List.mem_map.mp hp
  exact PySem.StrLaws.split_free a c y hy
def splitD (a : Str) (b : PyData) : Option (List PyData) := match b with
  | .str s => match s.cps.toList with
    | [c] => if a.cps.toList.length ≤ 1000000 then some ((splitL c a.cps.toList).map fun l => .str (sMk l)) else none
    | _ => none
  | _ => none
theorem splitL_len (c : Nat) : ∀ l, (splitL c l).length ≤ l.length + 1
  | [] => by simp [splitL]
  | x :: xs => by
    have := splitL_len c xs
    unfold splitL
    split
    · simp only [List.length_cons]; omega
    · split
      · simp
      · rename_i e; rw [e] at this; simp only [List.length_cons] at this ⊢; omega
theorem dq_strs {H : Hp} : ∀ ys : List Str, DqAll K H (ys.map V.str) (ys.map PyData.str)
  | [] => .nil
  | y :: r => .cons (.str y) (dq_strs r)
theorem df_split {apos : Pos} (ho : DE X W e1 f) (he : DE X W e2 g) (hs : starEach [e2] X.env = [(false, eval e2 X.env)] := by rfl) (hbase : attributeBase e1 "split" X.env (eval e1 X.env) = eval e1 X.env := by rfl) (hline : (apos.endLine == pos.line) = true := by rfl) :
    DF X W (.Call (.Attribute e1 "split" apos) [e2] [] pos) (xM1F splitD f g) := by
  obtain ⟨ta, pa, qa⟩ := ho.ex
  obtain ⟨tb, pb, qb⟩ := he.ex
  refine ⟨⟨_, pe_split pa pb hs hbase hline, m1_readF (fun ph am H x y e cs Q hn dy q k => ?_) qa qb⟩⟩
  cases dy <;> simp only [splitD, reduceCtorEq] at q
  rename_i b
  split at q
  · rename_i c hc
    obtain ⟨hz, rfl⟩ := if_some q
    refine ⟨x, b, rfl, rfl, ?_, ?_, fun p np => ?_⟩
    · rw [len_tl, hc]
      rfl
    · rw [len_tl, sizeLine_eq]
      omega
    · have hb : b = ⟨#[c]⟩ := sMk_one hc
      subst hb
      have e : (splitL c x.cps.toList).map (fun l => PyData.str (sMk l)) = (Txt.split x ⟨#[c]⟩).map PyData.str := by
        rw [← split_eq, List.map_map]
        refine List.map_congr_left fun y _ => ?_
        show PyData.str (sMk y.cps.toList) = _
        rw [sMk_tl]
      refine k p _ np (by rw [e]; exact dq_strs _) ?_
      have l1 : (Txt.split x ⟨#[c]⟩).length = (splitL c x.cps.toList).length := by rw [← split_eq, List.length_map]
      rw [List.length_map, l1]
      exact Nat.le_trans (splitL_len _ _) (by rw [sizeLine_eq]; omega)
  · cases q
/-! ### join -/
def strsD : List PyData → Option (List Str)
  | [] => some []
  | .str s :: r => (strsD r).map (s :: ·)
  | _ => none
theorem strsD_eq : ∀ {ds : List PyData} {ys : List Str}, strsD ds = some ys → ds = ys.map PyData.str
  | [], _, h => by cases h; rfl
  | .str s :: r, _, h => by
    obtain ⟨zs, h1, rfl⟩ := Option.map_eq_some_iff.mp h
    rw [strsD_eq h1]
    rfl
theorem dq_strs_inv {H : Hp} : ∀ {ys : List Str} {vs : List V}, DqAll K H vs (ys.map PyData.str) → vs = ys.map V.str
  | [], _, .nil => rfl
  | y :: r, _, .cons h t => by
    cases h
    rw [dq_strs_inv t]
    rfl
def joinD (a : Str) (b : PyData) : Option PyData := (seqD b).bind fun ds => (strsD ds).bind fun ys => if (ys.map fun y => y.cps.toList.length).sum + ys.length * a.cps.toList.length ≤ 16777216 then some (.str (sMk (joinL a.cps.toList (ys.map fun y => y.cps.toList)))) else none
theorem de_join {apos : Pos} (ho : DE X W e1 f) (he : DE X W e2 g) (hs : starEach [e2] X.env = [(false, eval e2 X.env)] := by rfl) (hbase : attributeBase e1 "join" X.env (eval e1 X.env) = eval e1 X.env := by rfl) (hline : (apos.endLine == pos.line) = true := by rfl) :
    DE X W (.Call (.Attribute e1 "join" apos) [e2] [] pos) (xM1 joinD f g) := by
  obtain ⟨ta, pa, qa⟩ := ho.ex
  obtain ⟨tb, pb, qb⟩ := he.ex
  refine ⟨⟨_, pe_join pa pb hs hbase hline, m1_read (fun ph am H x y e c Q hn dy q k => ?_) qa qb⟩⟩
  unfold joinD at q
  obtain ⟨ds, h1, q⟩ := Option.bind_eq_some_iff.mp q
  obtain ⟨ys, h2, q⟩ := Option.bind_eq_some_iff.mp q
  obtain ⟨hz, rfl⟩ := if_some q
  have e3 : Txt.join x ys = sMk (joinL x.cps.toList (ys.map fun y => y.cps.toList)) := by
    show Builtin.Str.glued x ys = _
    rw [PySem.StrLaws.glued_eq_join, ← sMk_tl (Str.join x ys), join_tl]
  have hz' : (ys.map (·.length)).sum + ys.length * x.length ≤ 16777216 := by
    rw [len_tl x, show (ys.map (·.length)) = ys.map fun y => y.cps.toList.length from List.map_congr_left fun y _ => len_tl y]
    exact hz
  cases dy with
  | lst q1 a1 =>
    cases h1
    rw [strsD_eq h2] at a1
    have ev := dq_strs_inv a1
    subst ev
    exact ⟨x, _, ys, rfl, rfl, .inl (rd_hid q1), hz', by rw [e3]; exact k _ H (Same.refl H) (.str _)⟩
  | tup q1 a1 =>
    cases h1
    rw [strsD_eq h2] at a1
    have ev := dq_strs_inv a1
    subst ev
    exact ⟨x, _, ys, rfl, rfl, .inr (seqT_hid q1), hz', by rw [e3]; exact k _ H (Same.refl H) (.str _)⟩
  | _ => cases h1
/-! ### numbers in figures -/
def figL (n : Nat) : List Nat := (Nat.toDigits 10 n).map Char.toNat
theorem fig_eq (n : Nat) : Str.ofString (toString ((n : Nat) : Int)) = sMk (figL n) := text_ofNat n
def numOk (i : Int) : Bool := decide (0 ≤ i) && decide (i < 10 ^ 300)
theorem numOk_log {i : Int} (h : numOk i = true) : i.natAbs.log2 < 1920 := by
  unfold numOk at h
  rw [Bool.and_eq_true, decide_eq_true_eq, decide_eq_true_eq] at h
  have h1 : i.natAbs < 2 ^ 1920 := by
    have : (10 : Int) ^ 300 < 2 ^ 1920 := by decide +kernel
    omega
  by_cases h0 : i.natAbs = 0
  · rw [h0]; decide
  · exact (Nat.log2_lt h0).mpr h1
def strI : PyData → Option PyData
  | .int i => if numOk i = true then some (.str (sMk (figL i.toNat))) else none
  | .str s => some (.str s)
  | _ => none
theorem fig_int {i : Int} (h : numOk i = true) : Str.ofString (toString i) = sMk (figL i.toNat) := by
  unfold numOk at h
  rw [Bool.and_eq_true, decide_eq_true_eq] at h
  rw [← fig_eq, Int.toNat_of_nonneg h.1]
def strD : List PyData → Option PyData
  | [d] => strI d
  | _ => none
theorem calld_str : CallD X (fun xs H Q => (∃ i : Int, xs = [.int i] ∧ i.natAbs.log2 < 1920 ∧ Q (.str (toString i)) H) ∨ ∃ a, xs = [.str a] ∧ Q (.str a) H) strD := by
  intro ph am H xs ds c Q hn dx q k
  cases dx with
  | nil => cases q
  | cons h t =>
    cases t with
    | cons _ _ => cases h <;> cases q
    | nil =>
      cases h with
      | int i =>
        obtain ⟨h1, rfl⟩ := if_some (show (if numOk i = true then some (PyData.str (sMk (figL i.toNat))) else none) = some c from q)
        refine .inl ⟨i, rfl, numOk_log h1, ?_⟩
        show Q (.str (Str.ofString (toString i))) H
        rw [fig_int h1]
        exact k _ H (Same.refl H) (.str _)
      | str s =>
        cases q
        exact .inr ⟨s, rfl, k _ H (Same.refl H) (.str _)⟩
      | _ => cases q
theorem call_str2 : CallR X (.type "str") (fun xs H Q => (∃ i : Int, xs = [.int i] ∧ i.natAbs.log2 < 1920 ∧ Q (.str (toString i)) H) ∨ ∃ a, xs = [.str a] ∧ Q (.str a) H) := by
  intro pins s σ H xs us Q I r h
  rcases h with h | h
  · exact call_str_int pins s σ H xs us Q I r h
  · obtain ⟨a, rfl, q⟩ := h
    cases r with
    | cons r1 rs =>
      cases rs
      obtain ⟨t, rfl⟩ := r1
      exact PySem.P.str_of_str ⟨.str a, H, I, ⟨t, rfl⟩, q⟩
def isFig (c : Nat) : Bool := decide (48 ≤ c) && decide (c ≤ 57)
def valL (cs : List Nat) : Nat := cs.foldl (fun acc c => acc * 10 + (c - 48)) 0
def intS : List PyData → Option PyData
  | [.str s] => match s.cps.toList with
    | [] => none
    | c :: r => if ((c :: r).all isFig && decide ((c :: r).length ≤ 640)) = true then some (.int (valL (c :: r) : Nat)) else none
  | _ => none
theorem calld_intS : CallD X (fun xs H Q => ∃ a n, xs = [.str a] ∧ PySem.intText? a = some n ∧ a.length ≤ 640 ∧ Q (.int n) H) intS := by
  intro ph am H xs ds c Q hn dx q k
  cases dx with
  | nil => cases q
  | cons h t =>
    cases t with
    | cons _ _ => cases h <;> cases q
    | nil =>
      cases h with
      | str s =>
        unfold intS at q
        simp only at q
        split at q
        · cases q
        · rename_i c0 r hc
          obtain ⟨h1, rfl⟩ := if_some q
          rw [Bool.and_eq_true, List.all_eq_true, decide_eq_true_eq] at h1
          rw [← hc] at h1
          refine ⟨s, _, rfl, PySem.intText_digits (fun c hc => ?_) (by rw [hc]; simp) ?_, ?_, ?_⟩
          · have := h1.1 c hc
            unfold isFig at this
            rw [Bool.and_eq_true, decide_eq_true_eq, decide_eq_true_eq] at this
            exact this
          · rw [len_tl]; omega
          · rw [len_tl]; omega
          · have e9 : NumText.digitsVal s.cps.toList = valL (c0 :: r) := by rw [hc]; rfl
            rw [e9]
            exact k _ H (Same.refl H) (.int _)
      | _ => cases q
section
variable {pf : Pos} (hd : DA X W [e] fs)
include hd
theorem de_str1 (hm : X.mg "str" = none) (hg : Gl X "str" := by rfl) (he : starEach [e] X.env = (false, eval e X.env) :: starEach [] X.env := by rfl) (hpl : (backTo pos (starEach [] X.env)).any (·.1) = false := by rfl) : DE X W (.Call (.Name "str" pf) [e] [] pos) (xCall strD fs) :=
  de_callTy calld_str call_str2 hm bt_str hd hg (by decide) (by decide) he hpl
theorem de_intS (hm : X.mg "int" = none) (hg : Gl X "int" := by rfl) (he : starEach [e] X.env = (false, eval e X.env) :: starEach [] X.env := by rfl) (hpl : (backTo pos (starEach [] X.env)).any (·.1) = false := by rfl) : DE X W (.Call (.Name "int" pf) [e] [] pos) (xCall intS fs) :=
  de_callTy calld_intS call_int_str hm bt_int hd hg (by decide) (by decide) he hpl
end
end PD
end

section
set_option Elab.async false
set_option linter.all false
set_option maxRecDepth 100000
set_option maxHeartbeats 1000000
/-! texts: one behind another, slices, f-strings; < of any alike data; truth of a list of one's own; a sign of a constant of the module; raise of a class that keeps its argument -/
namespace PD
open PySem PySem.Spec PyProof.Rows L2
variable {X : Cx} {W : WX} {pos : Pos} {e e1 e2 e3 : Expr} {es : List Expr} {f g h : M PyData} {fs : M (List PyData)} {fb gb : M Bool}
variable {K : PySem.W.Frag} {ph : Fx} {am am' am1 : Am} {H H' H1 : Hp} {σ σ' : L2.St} {δ δ' δ1 : Sg} {a p p1 p2 : Addr} {v : V} {vs : List V} {d : PyData} {ds : List PyData} {i : Nat}
theorem cat_eq (x y : Str) : x ++ y = sMk (x.cps.toList ++ y.cps.toList) := by
  rw [← Array.toList_append, ← Str.cps_append, sMk_tl]
def catS (a b : PyData) : Option PyData := match a, b with
  | .str x, .str y => if x.cps.toList.length + y.cps.toList.length ≤ 1000000 then some (.str (sMk (x.cps.toList ++ y.cps.toList))) else none
  | _, _ => none
theorem opd_catS : OpD X (fun x y H Q => ∃ i j, x = .str i ∧ y = .str j ∧ i.length + j.length ≤ sizeLine ∧ Q (.str (i ++ j)) H) catS := by
  intro ph am H x y d e c Q hn dx dy q k
  cases dx <;> cases dy <;> simp only [catS, reduceCtorEq] at q
  rename_i x y
  obtain ⟨hz, rfl⟩ := if_some q
  exact ⟨x, y, rfl, rfl, by rw [len_tl, len_tl]; exact le_line hz, by rw [cat_eq]; exact k _ H (Same.refl H) (.str _)⟩
/-- +, texts too -/
def addX : PyData → PyData → Option PyData := fun a b => match addD a b with | some c => some c | none => catS a b
theorem de_addX (ha : DE X W e1 f) (hb : DE X W e2 g) : DE X W (.BinOp e1 .Add e2 pos) (xBin addX f g) :=
  de_bin ((opd_addI.or (opd_catT.or opf_catL.d)).or opd_catS) ((op_add.or (op_catA.or op_catL)).or op_add_str) ha hb
/-! ### slices of a text -/
def cutSD (d : PyData) (l u : Option Int) : Option PyData := match d with
  | .str z => if z.cps.toList.length ≤ 1000000 then some (.str (sMk ((z.cps.toList.drop (HT.sIx z.cps.toList.length 0 l)).take (HT.sIx z.cps.toList.length z.cps.toList.length u - HT.sIx z.cps.toList.length 0 l)))) else none
  | _ => none
def xSlS (f : M PyData) (lo hi : M (Option Int)) : M PyData := bnd f fun d => bnd lo fun l => bnd hi fun u => lif (cutSD d l u)
theorem de_sliceS {lo hi : Option Expr} {fl fh : M (Option Int)} {p2 : Pos} (he : DE X W e f) (hl : DO X W lo fl) (hh : DO X W hi fh) : DE X W (.Subscript e (.Slice lo hi none p2) pos) (xSlS f fl fh) := by
  obtain ⟨te, pe, qe⟩ := he.ex
  obtain ⟨tl, pl, ql⟩ := hl.ex
  obtain ⟨th, pp, qh⟩ := hh.ex
  refine ⟨⟨_, pe_slice sl_str pe pl pp, fun ph am σ H δ Q ans δ' s q k kx => ?_⟩⟩
  rcases bnd_some q with ⟨a, δ1, e1, q1⟩ | ⟨c, fs, e1, q1⟩
  · refine qe ph am σ H δ _ _ _ s e1 (fun d ed am1 x H1 st1 s1 d1 => ?_) (fun c fs z => by cases z)
    cases ed
    rcases bnd_some q1 with ⟨l, δ2, e2, q2⟩ | ⟨c, fs, e2, q2⟩
    · refine ql ph am1 σ H1 δ1 _ _ _ s1 e2 (fun d ed am2 H2 st2 s2 => ?_) (fun c fs z => by cases z)
      cases ed
      rcases bnd_some q2 with ⟨u, δ3, e3, q3⟩ | ⟨c, fs, e3, q3⟩
      · refine qh ph am2 σ H2 δ2 _ _ _ s2 e3 (fun d ed am3 H3 st3 s3 => ?_) (fun c fs z => by cases z)
        cases ed
        obtain ⟨z, e4, rfl, rfl⟩ := lif_some q3
        have stA := (st1.trans st2).trans st3
        cases d1 with
        | str x =>
          obtain ⟨hz, rfl⟩ := if_some (show (if x.cps.toList.length ≤ 1000000 then some (PyData.str (sMk ((x.cps.toList.drop (HT.sIx x.cps.toList.length 0 l)).take (HT.sIx x.cps.toList.length x.cps.toList.length u - HT.sIx x.cps.toList.length 0 l)))) else none) = some z from e4)
          refine ⟨x, rfl, by rw [len_tl]; exact le_line hz, ?_⟩
          have e5 : cutS x l u = sMk ((x.cps.toList.drop (HT.sIx x.cps.toList.length 0 l)).take (HT.sIx x.cps.toList.length x.cps.toList.length u - HT.sIx x.cps.toList.length 0 l)) := by
            unfold cutS
            rw [len_tl]
            rfl
          rw [e5]
          exact k _ rfl am3 _ H3 stA s3 (.str _)
        | _ => cases e4
      · subst q3
        exact qh ph am2 σ H2 δ2 _ _ _ s2 e3 (fun d ed => by cases ed) (fun c' fs' z => by cases z; exact (kx _ _ rfl).step (st1.trans st2))
    · subst q2
      exact ql ph am1 σ H1 δ1 _ _ _ s1 e2 (fun d ed => by cases ed) (fun c' fs' z => by cases z; exact (kx _ _ rfl).step st1)
  · subst q1
    exact qe ph am σ H δ _ _ _ s e1 (fun d ed => by cases ed) (fun c' fs' z => by cases z; exact kx _ _ rfl)
/-! ### f-strings -/
def fmtD : PyData → Option PyData
  | .str s => if s.cps.toList.length ≤ 1000000 then some (.str s) else none
  | .int i => if numOk i = true then some (.str (sMk (figL i.toNat))) else none
  | _ => none
theorem de_fmt (he : DE X W e f) : DE X W (.FormattedValue e (-1) none pos) (xUn fmtD f) := by
  obtain ⟨t, p, q⟩ := he.ex
  refine ⟨⟨_, pe_fmt p, fun ph am σ H δ Q ans δ' s z k kx => ?_⟩⟩
  rcases bnd_some z with ⟨d, δ1, e1, e2⟩ | ⟨c, fs, e1, e2⟩
  · refine q ph am σ H δ _ _ _ s e1 (fun d' ed am1 v H1 st1 s1 d1 => ?_) (fun c fs z => by cases z)
    cases ed
    obtain ⟨y, e3, rfl, rfl⟩ := lif_some e2
    cases d1 with
    | str x =>
      obtain ⟨hz, rfl⟩ := if_some (show (if x.cps.toList.length ≤ 1000000 then some (PyData.str x) else none) = some y from e3)
      exact .inl ⟨x, rfl, by rw [len_tl]; exact le_line hz, k _ rfl am1 _ H1 st1 s1 (.str _)⟩
    | int j =>
      obtain ⟨hz, rfl⟩ := if_some (show (if numOk j = true then some (PyData.str (sMk (figL j.toNat))) else none) = some y from e3)
      refine .inr ⟨j, rfl, numOk_log hz, ?_⟩
      show Q (.str (Str.ofString (toString j))) H1
      rw [fig_int hz]
      exact k _ rfl am1 _ H1 st1 s1 (.str _)
    | _ => cases e3
  · subst e2
    exact q ph am σ H δ _ _ _ s e1 (fun d ed => by cases ed) (fun c' fs' z => by cases z; exact kx _ _ rfl)
/-- the parts of an f-string, behind what stands already -/
structure DJ (X : Cx) (W : WX) (es : List Expr) (F : List Nat → M PyData) : Prop where
  ex : ∃ ts, PJ X es ts ∧ ∀ (acc : List Nat) (ph : Fx) (am : Am) (σ : L2.St) (H : Hp) (δ : Sg) (Q : Str → Hp → Prop) (ans : Ans PyData) (δ' : Sg), SR X.K ph am σ H δ → F acc δ = some (ans, δ') →
    (∀ d, ans = .ok d → ∀ am' s H', Step am H am' H' → SR X.K ph am' σ H' δ' → d = .str s → Q s H') → (∀ c fs, ans = .ex c fs → XP X W ph am σ H δ' c fs) → tJs ts (sMk acc) σ H Q
def xJ0 : List Nat → M PyData := fun acc => ret (.str (sMk acc))
def xJ1 (f : M PyData) (F : List Nat → M PyData) : List Nat → M PyData := fun acc => bnd f fun d => match d with
  | .str y => if (acc ++ y.cps.toList).length ≤ 1000000 then F (acc ++ y.cps.toList) else fun _ => none
  | _ => fun _ => none
theorem dj_nil : DJ X W [] xJ0 := ⟨⟨[], .nil, fun acc ph am σ H δ Q ans δ' s z k kx => by cases z; exact k _ rfl am _ H Step.refl s rfl⟩⟩
theorem dj_cons {F : List Nat → M PyData} (he : DE X W e f) (t : DJ X W es F) : DJ X W (e :: es) (xJ1 f F) := by
  obtain ⟨ta, pa, qa⟩ := he.ex
  obtain ⟨ts, pt, qt⟩ := t.ex
  refine ⟨⟨_, .cons pa pt, fun acc ph am σ H δ Q ans δ' s z k kx => ?_⟩⟩
  rcases bnd_some z with ⟨d, δ1, e1, e2⟩ | ⟨c, fs, e1, e2⟩
  · refine qa ph am σ H δ _ _ _ s e1 (fun d' ed am1 v H1 st1 s1 d1 => ?_) (fun c fs z => by cases z)
    cases ed
    cases d1 with
    | str y =>
      replace e2 : (if (acc ++ y.cps.toList).length ≤ 1000000 then F (acc ++ y.cps.toList) else fun _ => none) δ1 = some (ans, δ') := e2
      split at e2
      · rename_i hz
        refine ⟨y, rfl, ?_, ?_⟩
        · rw [cat_eq, len_tl]
          exact le_line hz
        · rw [cat_eq]
          exact qt _ ph am1 σ H1 δ1 Q ans δ' s1 e2 (fun d ed am2 s' H2 st2 s2 es => k d ed am2 s' H2 (st1.trans st2) s2 es) fun c fs z => (kx c fs z).step st1
      · cases e2
    | _ => cases e2
  · subst e2
    exact qa ph am σ H δ _ _ _ s e1 (fun d ed => by cases ed) (fun c' fs' z => by cases z; exact kx _ _ rfl)
theorem xJ_str : ∀ {es : List Expr} {F : List Nat → M PyData}, DJ X W es F → True := fun _ => trivial
def xJoined (F : List Nat → M PyData) : M PyData := bnd (F []) fun d => match d with
  | .str s => ret (.str s)
  | _ => fun _ => none
theorem de_joined {F : List Nat → M PyData} (h : DJ X W (e1 :: e2 :: es) F) : DE X W (.JoinedStr (e1 :: e2 :: es) pos) (xJoined F) := by
  obtain ⟨ts, pt, qt⟩ := h.ex
  refine ⟨⟨_, pe_joined pt, fun ph am σ H δ Q ans δ' s z k kx => ?_⟩⟩
  rcases bnd_some z with ⟨d, δ1, e1, e2⟩ | ⟨c, fs, e1, e2⟩
  · refine qt [] ph am σ H δ _ _ _ s e1 (fun d' ed am1 s' H1 st1 s1 es => ?_) (fun c fs z => by cases z)
    cases ed
    subst es
    cases e2
    exact k _ rfl am1 _ H1 st1 s1 (.str _)
  · subst e2
    exact qt [] ph am σ H δ _ _ _ s e1 (fun d ed => by cases ed) (fun c' fs' z => by cases z; exact kx _ _ rfl)
/-! ### < of data that are alike -/
def ltN (a b : PyData) : Option PyData := if (PySem.W.alike a b && decide (a.depth ≤ 64) && !(isNone a)) = true then some (.bool (PySem.W.dataLt a b)) else none
def rLtN (K : PySem.W.Frag) : R2 := fun x y H Q => ∃ d e, Dp K H x d ∧ Dp K H y e ∧ PySem.W.alike d e = true ∧ d.depth ≤ 64 ∧ d ≠ .none ∧ Q (.bl (PySem.W.dataLt d e)) H
theorem op_ltN (hu : X.A.units + 64 < cLine) : OpR X (compareOp .Lt) (rLtN X.K) := by
  intro pins s σ H x y v u Q I rx ry h
  obtain ⟨d, e, hd, he, ha, hz, hn, q⟩ := h
  obtain ⟨as, r1⟩ := Dp.reads I d x v hd rx
  obtain ⟨bs, r2⟩ := Dp.reads I e y u he ry
  exact PySem.W.rcLt_alike d e X.A s v u as bs r1 r2 ha hn (by omega) X.prog X.w X.xe _ ⟨.bl _, H, I, rfl, q⟩
theorem opd_ltN : OpD X (rLtN X.K) ltN := by
  intro ph am H x y d e c Q hn dx dy q k
  obtain ⟨h1, rfl⟩ := if_some q
  rw [Bool.and_eq_true, Bool.and_eq_true, decide_eq_true_eq] at h1
  refine ⟨d, e, (dp_mono hid_sub dx).dp, (dp_mono hid_sub dy).dp, h1.1.1, h1.1.2, fun z => ?_, k _ H (Same.refl H) (.bl _)⟩
  subst z
  cases h1.2
theorem de_ltN (hu : X.A.units + 64 < cLine) (ha : DE X W e1 f) (hb : DE X W e2 g) : DE X W (.Compare e1 [.Lt] [e2] pos) (xBin ltN f g) := de_cmp opd_ltN (op_ltN hu) (nomark _) ha hb
theorem dt_ltN (hu : X.A.units + 64 < cLine) (ha : DE X W e1 f) (hb : DE X W e2 g) : DT X W (.Compare e1 [.Lt] [e2] pos) (xBool (xBin ltN f g)) := dt_cmp opd_ltN (op_ltN hu) (nomark _) ha hb
/-! ### truth of a list of one's own -/
def xTruO (i : Nat) : M Bool := fun δ => match δ[i]? with
  | some (.ow _ ds) => some (.ok (!ds.isEmpty), δ)
  | _ => none
theorem dt_truO {x : Str} {pn : Pos} (hN : X.N[i]? = some x := by rfl) (hv : Vis X.env.scope x := by first | exact Or.inl rfl | exact Or.inr (Or.inl rfl) | exact Or.inr (Or.inr rfl)) (hd : (x == ("__debug__" : Str)) = false := by decide) (hcd : (x == ("__classdict__" : Str)) = false := by decide)
    (he : ∀ whole, isTrue (.Name x pn) X.env whole = (do let v ← whole; standAt (Expr.Name x pn).pos; holding [v] (truthy v)) := by intro _; rfl) : DT X W (.Name x pn) (xTruO i) := by
  refine ⟨⟨_, pt_truth (pe_var hN hv hd hcd) he, fun ph am σ H δ Q ans δ' sr z k kx => ?_⟩⟩
  unfold xTruO at z
  split at z
  · rename_i b0 ds0 e3
    cases z
    obtain ⟨a0, vs0, o1, o2, o3, o4, _, _⟩ := sr.ow i b0 ds0 e3
    have dq : Dq X.K (hid ⟨fun _ => False, fun _ => none⟩ (fun _ => none) H) (.ref a0) (.list ds0) := by
      have e : hid ⟨fun _ => False, fun _ => none⟩ (fun _ => none) H = H := by
        funext b
        unfold hid Hid
        simp
      rw [e]
      exact .lst (.inl (.inl o3)) (dps_mono hid_sub o4)
    exact ⟨.ref a0, o2, _, tru_of dq rfl, k _ rfl am H Step.refl sr⟩
  · cases z
/-! ### x not in T, T a constant of the module -/
def ninG (ws : List Str) (d : PyData) : Option PyData := (flatOf d).map fun x => .bool (!(inV x (ws.map V.str)))
theorem dt_ninG {x : Str} {pn : Pos} {a : Addr} {ws : List Str} (hm : X.mg x = some (.ref a)) (hw : GTup X.K a ws) (ha : DE X W e1 f) (hg : Gl X x := by rfl) (hd : (x == ("__debug__" : Str)) = false := by decide) (hmk : behindInMarks .NotIn (.Name x pn) = false := by rfl) :
    DT X W (.Compare e1 [.NotIn] [.Name x pn] pos) (xBool (xUn (ninG ws) f)) := by
  obtain ⟨ta, pa, qa⟩ := ha.ex
  refine ⟨⟨_, pt_cmpR op_notIn_seq pa (pe_glob (v := .ref a) hg hm rfl hd) hmk, bool_read fun ph am σ H δ Q ans δ' s q k kx => ?_⟩⟩
  rcases bnd_some q with ⟨b, δ1, e1, q1⟩ | ⟨c, fs, e1, q1⟩
  · refine qa ph am σ H δ _ _ _ s e1 (fun d ed am1 x H1 st1 s1 d1 => ?_) (fun c fs z => by cases z)
    cases ed
    obtain ⟨z, e3, rfl, rfl⟩ := lif_some q1
    obtain ⟨y, e4, rfl⟩ := Option.map_eq_some_iff.mp e3
    obtain ⟨rfl, hf⟩ := flatOf_eq d1 e4
    exact ⟨a, ws.map V.str, rfl, .inr (.inr hw), hf, flat_strs ws, k _ rfl am1 _ H1 st1 s1 (.bl _)⟩
  · subst q1
    exact qa ph am σ H δ _ _ _ s e1 (fun d ed => by cases ed) (fun c' fs' z => by cases z; exact kx _ _ rfl)
/-! ### a text so many times -/
def repL : Nat → List Nat → List Nat
  | 0, _ => []
  | n + 1, l => l ++ repL n l
def mulS (a b : PyData) : Option PyData := match a, b with
  | .str x, .int n => if (decide (2 ≤ n) && decide (n ≤ 1000) && decide (1 ≤ x.cps.toList.length) && decide (x.cps.toList.length ≤ 1000)) = true then some (.str (sMk (repL n.toNat x.cps.toList))) else none
  | _, _ => none
def rMulS : R2 := fun x y H Q => ∃ z n, x = .str z ∧ y = .int n ∧ 2 ≤ n ∧ n ≤ 1000 ∧ 1 ≤ z.length ∧ z.length ≤ 1000 ∧ Q (.str (sMk (repL n.toNat z.cps.toList))) H
theorem rep_fold (c : Array Nat) : ∀ (n : Nat) (acc : Array Nat), ((List.replicate n c).foldl (· ++ ·) acc).toList = acc.toList ++ repL n c.toList
  | 0, acc => by simp [repL]
  | n + 1, acc => by
    rw [List.replicate_succ, List.foldl_cons, rep_fold c n, Array.toList_append, List.append_assoc]
    rfl
theorem op_mulS : OpR X (binaryOp .Mult) rMulS := by
  intro pins s σ H x y v u Q I rx ry h
  obtain ⟨z, n, rfl, rfl, h1, h2, h3, h4, q⟩ := h
  obtain ⟨t, rfl⟩ := rx
  obtain ⟨t', rfl⟩ := ry
  have hn : ¬ n < 1 := by omega
  have hc : (n == 1 || z.length == 0) = false := by
    rw [Bool.or_eq_false_iff, beq_eq_false_iff_ne, beq_eq_false_iff_ne]
    omega
  have hm : (z.length : Int) * n ≤ 1000 * 1000 := Int.mul_le_mul (by omega) h2 (by omega) (by omega)
  have e : Txt.mul z n = sMk (repL n.toNat z.cps.toList) := by
    unfold Txt.mul
    rw [if_neg hn, if_neg (by rw [hc]; exact Bool.false_ne_true)]
    have := rep_fold z.cps n.toNat #[]
    rw [← sMk_tl ⟨(List.replicate n.toNat z.cps).foldl (· ++ ·) #[]⟩]
    show sMk ((List.replicate n.toNat z.cps).foldl (· ++ ·) #[]).toList = _
    rw [this]
    rfl
  refine PySem.SB.mul ⟨by rw [decide_eq_false (by omega), decide_eq_false (by omega)]; rfl, fun _ _ => ?_, fun _ _ => ?_⟩ fun t' k => ⟨.str (Txt.mul z n), H, I.tok k, ⟨t', rfl⟩, by rw [e]; exact q⟩
  · have : (1000 : Int) ≤ (2 ^ 63 - 1) / n := by
      rw [Int.le_ediv_iff_mul_le (by omega)]
      omega
    omega
  · have hk : z.length * n.toNat ≤ 1000000 := by
      have h5 : ((z.length * n.toNat : Nat) : Int) ≤ 1000 * 1000 := by
        rw [Int.natCast_mul, Int.toNat_of_nonneg (by omega)]
        exact hm
      omega
    unfold Builtin.Str.tooLong
    exact decide_eq_false (Nat.not_lt.mpr (le_line hk))
theorem opd_mulS : OpD X rMulS mulS := by
  intro ph am H x y d e c Q hn dx dy q k
  cases dx <;> cases dy <;> simp only [mulS, reduceCtorEq] at q
  rename_i z n
  obtain ⟨h, rfl⟩ := if_some q
  simp only [Bool.and_eq_true, decide_eq_true_eq] at h
  exact ⟨z, n, rfl, rfl, h.1.1.1, h.1.1.2, by rw [len_tl]; exact h.1.2, by rw [len_tl]; exact h.2, k _ H (Same.refl H) (.str _)⟩
/-- *, texts too -/
def mulX : PyData → PyData → Option PyData := fun a b => match mulD a b with | some c => some c | none => mulS a b
theorem de_mulX (ha : DE X W e1 f) (hb : DE X W e2 g) : DE X W (.BinOp e1 .Mult e2 pos) (xBin mulX f g) :=
  de_bin ((opd_mulI.or opd_repT).or opd_mulS) ((op_mul.or op_repA).or op_mulS) ha hb
/-! ### a or b, by truth -/
def xOrV (f g : M PyData) : M PyData := bnd f fun d => bnd (lif (truthD d)) fun b => if b = true then ret d else g
theorem de_orV (ha : DE X W e1 f) (hb : DE X W (.BoolOp .Or (e2 :: es) pos) g) : DE X W (.BoolOp .Or (e1 :: e2 :: es) pos) (xOrV f g) := by
  obtain ⟨ta, pa, qa⟩ := ha.ex
  obtain ⟨tb, pb, qb⟩ := hb.ex
  refine ⟨⟨_, pe_orT pa pb, fun ph am σ H δ Q ans δ' s q k kx => ?_⟩⟩
  rcases bnd_some q with ⟨a, δ1, e1, q1⟩ | ⟨c, fs, e1, q1⟩
  · refine qa ph am σ H δ _ _ _ s e1 (fun d ed am1 x H1 st1 s1 d1 => ?_) (fun c fs z => by cases z)
    cases ed
    rcases bnd_some q1 with ⟨b, δ2, e2, q2⟩ | ⟨c, fs, e2, q2⟩
    · obtain ⟨b', e3, e4, rfl⟩ := lif_some e2
      cases e4
      refine ⟨b, tru_of d1 e3, ?_⟩
      cases b with
      | false => exact iteF (qb ph am1 σ H1 δ2 _ _ _ s1 q2 (fun d ed am2 v H2 st2 s2 d2 => k d ed am2 v H2 (st1.trans st2) s2 d2) fun c fs z => (kx c fs z).step st1)
      | true =>
        rw [if_pos rfl] at q2
        cases q2
        exact iteT (k _ rfl am1 _ H1 st1 s1 d1)
    · obtain ⟨b', e3, e4, _⟩ := lif_some e2
      cases e4
  · subst q1
    exact qa ph am σ H δ _ _ _ s e1 (fun d ed => by cases ed) (fun c' fs' z => by cases z; exact kx _ _ rfl)
variable {B newId initId : String} {bm : List Value}
abbrev bmVE : List Value := [.type "ValueError", .type "Exception", .type "BaseException", .type "object"]
theorem pmk_leG {x : Str} {C fI : Addr} {k : Nat} {fd : FuncData} {ps : List Str} {fld : Str} {ta : TE} {p : Pos} (T : OexG X.K C B newId initId bm) (iC : PySem.W.findIn X.K (.ref C) "__init__" = some (some (.ref fI))) (tI : PySem.W.typeIn X.K (.ref fI) = some (.type "function"))
    (F1 : FnOk X.prog X.w X.K X.mg X.base (L2.CX X.prog X.w) k fI fd ps (spLe C fld)) (hr : Room (k + 1) X.A) (hb : Binds X.K fd ps []) (hx : Passes (L2.CX X.prog X.w) X (fun _ _ _ => False)) (hg : Gl X x) (hm : X.mg x = some (.ref C)) (ha : PE X e ta)
    (hdb : (x == ("__debug__" : Str)) = false := by decide) (he : starEach [e] X.env = (false, eval e X.env) :: starEach [] X.env := by rfl) (hpl : (backTo pos (starEach [] X.env)).any (·.1) = false := by rfl) :
    PMk X (.Call (.Name x p) [e] [] pos) (tMkLe C fld ta) := by
  intro pins s σ H Q I h
  refine wpAny_Call_Name_kw (ld_glob I hg hm ?_ hdb)
  refine PySem.W.callWith_K (h₀ := X.base) I.ok.mod.kin T.kC (thn ((pa_cons ha pa_nil he).run pos pins s σ H (fun vs H1 => match vs with | [y] => ∀ d, H1 d = none → Q (.ref C) (some d) (upd H1 d (.xd [(fld, y)])) | _ => False) I h) fun us s1 ⟨vs, H1, I1, r1, q1⟩ => ⟨I1.kIn, ?_⟩) he hpl
  show wpAny _ _ (call (.ref C) us) _ _ _
  obtain ⟨hp, g, dr, tk, os⟩ := s1
  obtain ⟨nm, N, qn, bs, bm2, hdct, sn, sub, ab, col, dd, k0, k1, k2, k3, k5, hC, hT⟩ := PySem.W.excInit_of I1.kIn T.q
  match vs, r1, q1 with
  | [y], r1, q1 =>
  have hsz : hp.objs.size ≤ hp.objs.size + 1 := Nat.le_succ _
  have hn : H1 (hp.objs.size + 1) = none := I1.hok.fresh hsz
  have kk : ∀ b o, hp.get? b = some o → ((hp.push (PySem.W.kdv_tup us)).push (PySem.HandSPX.excO C hp.objs.size)).get? b = some o := fun b o e => Heap.get?_push_of_some _ (Heap.get?_push_of_some _ e)
  have hget : ((hp.push (PySem.W.kdv_tup us)).push (PySem.HandSPX.excO C hp.objs.size)).get? (hp.objs.size + 1) = some (PySem.HandSPX.excO C hp.objs.size) := by heap_get
  have I2 : Inv X pins σ (upd H1 (hp.objs.size + 1) (exo (hp.objs.size + 1) C none)) ⟨(hp.push (PySem.W.kdv_tup us)).push (PySem.HandSPX.excO C hp.objs.size), g, dr, tk, os⟩ :=
    I1.laid (t' := tk) (a := hp.objs.size + 1) (o := exo (hp.objs.size + 1) C none) (h' := (hp.push (PySem.W.kdv_tup us)).push (PySem.HandSPX.excO C hp.objs.size)) kk hsz (exo_ok hget)
  have r2 : Vals [V.ref (hp.objs.size + 1), y] (Value.ref (hp.objs.size + 1) :: us) := .cons rfl r1
  have hq : spLe C fld [V.ref (hp.objs.size + 1), y] (upd H1 (hp.objs.size + 1) (exo (hp.objs.size + 1) C none)) (fun v H2 => v = .non ∧ ∃ (d : Addr) (fs : List (Str × V)), H2 (hp.objs.size + 1) = some (exo (hp.objs.size + 1) C (some d)) ∧ H2 d = some (exd d fs) ∧ H1 d = none ∧ Q (.ref C) (some d) (upd (L2.del H2 (hp.objs.size + 1)) d (.xd fs))) (fun _ _ _ => False) := by
    refine ⟨_, y, rfl, upd_same, fun dx n ne => ⟨rfl, dx, [(fld, y)], upd_same, ?_, ?_, ?_⟩⟩
    · rw [upd_ne ne]; exact upd_same
    · rw [upd_ne ne] at n; exact n
    · have n1 : H1 dx = none := by rw [upd_ne ne] at n; exact n
      have eH : upd (L2.del (upd (upd (upd H1 (hp.objs.size + 1) (exo (hp.objs.size + 1) C none)) dx (exd dx [(fld, y)])) (hp.objs.size + 1) (exo (hp.objs.size + 1) C (some dx))) (hp.objs.size + 1)) dx (.xd [(fld, y)]) = upd H1 dx (.xd [(fld, y)]) := by
        funext b
        by_cases hb : b = dx
        · rw [hb, upd_same, upd_same]
        · rw [upd_ne hb, upd_ne hb]
          by_cases hb2 : b = hp.objs.size + 1
          · rw [hb2, L2.del_same, hn]
          · rw [L2.del_ne hb2, upd_ne hb2, upd_ne hb, upd_ne hb2]
      rw [eH]
      exact q1 dx n1
  have hl : (Value.ref (hp.objs.size + 1) :: us).length = ps.length := by
    have e := r2.length
    rw [F1.len _ _ _ _ hq] at e
    exact e.symm
  have hus : us.length ≤ sizeLine := by
    rw [← Paired.length r1, sizeLine_eq]
    simp
  refine wpAny_call (PySem.HandSPX.call_own T.fb hT hC (PySem.W.looks_findIn I1.kIn iC) (fun self => PySem.W.bind_fn I1.kIn self tI) hus
    (codeAny_mono (F1.run _ X.stack _ _ ⟨Value.ref (hp.objs.size + 1) :: us, []⟩ (Value.ref (hp.objs.size + 1) :: us) _ _ (fun _ _ _ => False) (hr.make C us []) (I2.env0.make C us []) (by have := hb _ (Value.ref (hp.objs.size + 1) :: us) I2.kIn (by simpa using hl); simpa using this) r2 hq) fun r s' hq' => ?_))
  cases r with
  | error er => exact hx pins σ _ _ er s' I2 hq'
  | ok fl =>
    cases fl with
    | ret u =>
      obtain ⟨v, H2, os2, bare2, un2, hok2, rv, ev, d, fs, ea, ed, hd1, q2⟩ := hq'
      subst ev
      obtain ⟨h2, g2, d2, t2, os'⟩ := s'
      exact ⟨rv, mk_end (raises_own T.exC T.tyC) I1 hsz kk un2 hok2 os2 bare2 ea ed hd1 q2⟩
    | next => exact False.elim hq'
    | brk => exact False.elim hq'
    | cont => exact False.elim hq'
/-- all that is known of such a class -/
structure ExcB (P : Program) (w : World) (K : PySem.W.Frag) (mg : Str → Option Value) (base : Heap) (x : Str) (C fI : Addr) (fd : FuncData) (ps : List Str) (fld : Str) (B newId initId : String) (bm : List Value) : Prop where
  T : OexG K C B newId initId bm
  g : mg x = some (.ref C)
  i : PySem.W.findIn K (.ref C) "__init__" = some (some (.ref fI))
  t : PySem.W.typeIn K (.ref fI) = some (.type "function")
  F : FnOk P w K mg base (L2.CX P w) 1 fI fd ps (spLe C fld)
  b : Binds K fd ps []
theorem ds_raiseB {x fld : Str} {C fI : Addr} {fd : FuncData} {ps : List Str} {p rp : Pos} (T : ExcB X.prog X.w X.K X.mg X.base x C fI fd ps fld B newId initId bm) (hr : Room 2 X.A) (hc : X.calm = true) (tk : Takes X W) (ha : DE X W e f) (hg : Gl X x := by rfl) (hdb : (x == ("__debug__" : Str)) = false := by decide) (he : starEach [e] X.env = (false, eval e X.env) :: starEach [] X.env := by rfl) (hpl : (backTo pos (starEach [] X.env)).any (·.1) = false := by rfl) :
    DS X W (.Raise (some (.Call (.Name x p) [e] [] pos)) none rp) (sRaiseA x fld f) := by
  obtain ⟨ta, pa, qa⟩ := ha.ex
  refine ⟨⟨_, ps_raise hc tk (pmk_leG T.T T.i T.t T.F hr T.b passes0 hg T.g pa hdb he hpl), fun ph am σ H δ D ans δ' s q _ kx => ?_⟩⟩
  rcases bnd_some q with ⟨b, δ1, e1, q1⟩ | ⟨c, fs, e1, q1⟩
  · refine qa ph am σ H δ _ _ _ s e1 (fun d ed am1 y H1 st1 s1 d1 => ?_) (fun c fs z => by cases z)
    cases ed
    cases q1
    intro dx nx
    have sm : Same H1 (upd H1 dx (.xd [(fld, y)])) := same_new nx
    exact kx _ _ rfl C (some dx) am1 σ _ T.g (st1.trans (Step.of sm)) (s1.same sm) (.inr ⟨dx, [(fld, y)], rfl, by simp, upd_same, rfl, .cons (dp_mono (hid_same sm) d1) .nil⟩)
  · subst q1
    exact qa ph am σ H δ _ _ _ s e1 (fun d ed => by cases ed) (fun c' fs' z => by cases z; exact (kx _ _ rfl).at)
end PD
end

section
set_option linter.all false
set_option maxRecDepth 100000
set_option maxHeartbeats 4000000
namespace PD
open PySem PySem.Spec PyProof.Rows L2
open PySem.W PySem.Calls PySem.NumText PySem.W.KIN
theorem wp_maxDigits {M : Model} {A : Around} {E : Value → Shared → Prop} {s : Shared} {Q : Nat → Shared → Prop} (hn : s.heap.NoDigits) (h : Q 4300 s) : wpAny M A Builtin.intMaxStrDigits Q E s := by
  obtain ⟨mc, hns, hnone⟩ := hn
  unfold Builtin.intMaxStrDigits
  refine wpAny_bind (wpAny_nsGet hns ?_)
  rw [hnone]
  exact wpAny_pure h
theorem wp_text43 {M : Model} {A : Around} {E : Value → Shared → Prop} {s : Shared} {Q : Value → Shared → Prop} {v : Value} {text : List Nat} {n : Int}
    (hs : ¬ (text.takeWhile (· != 0)).length ≤ 640) (hd : s.heap.NoDigits) (hr : (int_private% "readNumeral") 4300 10 (text.takeWhile (· != 0)) = (int_private% "Numeral.value") n)
    (ha : ((text.takeWhile (· != 0)).length == text.length) = true) (h : Q (.int n s.toks) { s with toks := s.toks + 1 }) :
    wpAny M A ((int_private% "intFromText") v text 10) Q E s := by
  repeat (any_goals (first
    | assumption
    | (with_reducible refine wpAny_ite_true (decide_eq_true ha) ?_)
    | (with_reducible refine wpAny_ite_false (decide_eq_false hs) ?_)
    | (with_reducible refine wp_maxDigits hd ?_)
    | wp_step))
  all_goals (try rw [hr])
  all_goals (try dsimp only)
  repeat (any_goals (first
    | assumption
    | (with_reducible refine wpAny_ite_true (decide_eq_true ha) ?_)
    | (with_reducible refine wpAny_ite_false (decide_eq_false hs) ?_)
    | (with_reducible refine wp_maxDigits hd ?_)
    | wp_step))
theorem meets_text43 {x : PySem.Str} {u : Tok} {n : Int} (hs : ¬ (numSeenOf x).length ≤ 640) (hz : x.length ≤ sizeLine) (hn : PySem.intText? x = some n) :
    Meets (Builtin.«int.__new__» ⟨[.type "int", .str x u], []⟩) (fun _ R s => s.heap.NoDigits ∧ R (.ok (.ret (.int n s.toks))) { s with toks := s.toks + 1 }) :=
  Meets.of_wp fun prog w A R s hS => by
    obtain ⟨hd, h⟩ := hS
    obtain ⟨hp, g, d, tk, os⟩ := s
    have f1 := F.conv_sub_int
    have f2 := F.madeHere_int
    have f3 := str_int
    have f4 := str_idx
    have f5 := str_trunc
    have f6 : typeOf (.str x u) = pure (.type "str") := rfl
    have hr : (int_private% "readNumeral") 4300 10 (numSeenOf x) = (int_private% "Numeral.value") n ∧ ((numSeenOf x).length == (numTextOf x).length) = true := by
      rcases read4300 x hz with ⟨m, h1, h2, h3⟩ | ⟨h1, _⟩
      · rw [hn] at h1
        injection h1 with h1
        subst h1
        exact ⟨h3, h2⟩
      · rw [hn] at h1
        cases h1
    have hk := PySem.W.KIN.Hid.mk (And.intro hs (And.intro hr hd))
    clear hs hr hn hd hz
    repeat (any_goals (first
      | assumption
      | ((with_reducible show wpAny _ _ ((int_private% "intFromText") _ _ _) _ _ _); refine wp_text43 hk.out.1 hk.out.2.2 hk.out.2.1.1 hk.out.2.1.2 ?_)
      | wp_step))
    all_goals first | exact ⟨_, rfl, h⟩ | skip
theorem ns_none {K : PySem.W.Frag} {h : Heap} {a : Addr} {mg : Str → Option Value} {n : Str} (X : K.In h) (G : h.Ns a mg) (e : PySem.W.nsIn K a n = some none) : mg n = none := by
  obtain ⟨o, es, ep, ho, hd, _, hf⟩ := G
  unfold PySem.W.nsIn at e
  split at e
  · rename_i c d es' n' sl q
    have := X _ _ q
    rw [ho] at this
    cases this
    cases hd
    split at e
    · cases e
    · rename_i he
      rw [← hf]
      unfold nsFind findBy
      rw [← Array.find?_toList, he]
      rfl
  · cases e
theorem noDig {X : Cx} {pins : List (Addr × Obj)} {σ : List (Option V)} {H : Hp} {s : Shared} (I : Inv X pins σ H s) (z : PySem.W.nsIn X.K cStatics "sys.int_max_str_digits" = some none) : s.heap.NoDigits :=
  let ⟨mc, hns, _⟩ := I.nolimit; ⟨mc, hns, ns_none I.kIn hns z⟩
section
variable {X : Cx} {W : WX}
theorem call_intB (z : PySem.W.nsIn X.K cStatics "sys.int_max_str_digits" = some none) : CallR X (.type "int") (fun xs H Q => ∃ a n, xs = [.str a] ∧ PySem.intText? a = some n ∧ a.length ≤ 4300 ∧ Q (.int n) H) := by
  intro pins s σ H xs us Q I r h
  obtain ⟨a, n, rfl, hn, hl, q⟩ := h
  cases r with
  | cons r1 rs =>
    cases rs
    obtain ⟨t, rfl⟩ := r1
    by_cases hs : (numSeenOf a).length ≤ 640
    · refine PySem.call_int_1 ((?_ : Gives (Builtin.«int.__new__» ⟨[.type "int", .str a t], []⟩) (.int n))).meets (show (Made.int n).post _ s from ⟨rfl, .int n, H, I.tok _, ⟨_, rfl⟩, q⟩)
      refine .of_wp fun M A E s Q h => ?_
      obtain ⟨hp, g, d, tk, os⟩ := s
      have f1 := F.conv_sub_int
      have f2 := F.madeHere_int
      have f3 := str_int
      have f4 := str_idx
      have f5 := str_trunc
      have f6 : typeOf (.str a t) = pure (.type "str") := rfl
      have hr : (int_private% "readNumeral") 0 10 (numSeenOf a) = (int_private% "Numeral.value") n ∧ ((numSeenOf a).length == (numTextOf a).length) = true := by
        rcases read0 a hs with ⟨m, h1, h2, h3⟩ | ⟨h1, _⟩
        · rw [hn] at h1
          injection h1 with h1
          subst h1
          exact ⟨h3, h2⟩
        · rw [hn] at h1
          cases h1
      have hk := PySem.W.KIN.Hid.mk (And.intro hs hr)
      clear hs hr hl hn
      repeat (any_goals (first
        | assumption
        | ((with_reducible show wpAny _ _ ((int_private% "intFromText") _ _ _) _ _ _); refine PySem.W.KIN.wp_text hk.out.1 hk.out.2.1 hk.out.2.2 ?_)
        | wp_step))
      all_goals first | exact ⟨_, rfl, h⟩ | skip
    · exact PySem.call_int_1 (meets_text43 hs (Nat.le_trans hl (by rw [sizeLine_eq]; decide)) hn) ⟨noDig I z, rfl, .int n, H, I.tok _, ⟨_, rfl⟩, q⟩
def numB (i : Int) : Bool := decide (0 ≤ i) && decide (i.toNat < 10 ^ 1100)
theorem numB_lt {i : Int} (h : numB i = true) : i.natAbs < 10 ^ 4300 := by
  unfold numB at h
  rw [Bool.and_eq_true, decide_eq_true_eq, decide_eq_true_eq] at h
  have e : i.natAbs = i.toNat := by omega
  rw [e]
  exact Nat.lt_trans h.2 (Nat.pow_lt_pow_right (by decide) (by decide))
theorem figB_int {i : Int} (h : numB i = true) : Str.ofString (toString i) = sMk (figL i.toNat) := by
  unfold numB at h
  rw [Bool.and_eq_true, decide_eq_true_eq] at h
  rw [← fig_eq, Int.toNat_of_nonneg h.1]
theorem call_strB (hc : X.calm = true) (z : PySem.W.nsIn X.K cStatics "sys.int_max_str_digits" = some none) : CallR X (.type "str") (fun xs H Q => (∃ i : Int, xs = [.int i] ∧ i.natAbs < 10 ^ 4300 ∧ Q (.str (toString i)) H) ∨ ∃ a, xs = [.str a] ∧ Q (.str a) H) := by
  intro pins s σ H xs us Q I r h
  rcases h with ⟨i, rfl, hz, q⟩ | ⟨a, rfl, q⟩
  · cases r with
    | cons r1 rs =>
      cases rs
      obtain ⟨t, rfl⟩ := r1
      exact str_of_int_or (I.ok.hd hc) (noDig I z) (fun _ => ⟨.str _, H, I.tok _, ⟨_, rfl⟩, q⟩) (fun h => absurd hz (Nat.not_lt.mpr h))
  · cases r with
    | cons r1 rs =>
      cases rs
      obtain ⟨t, rfl⟩ := r1
      exact PySem.P.str_of_str ⟨.str a, H, I, ⟨t, rfl⟩, q⟩
def strB : List PyData → Option PyData
  | [.int i] => if numB i = true then some (.str (sMk (figL i.toNat))) else none
  | [.str s] => some (.str s)
  | _ => none
theorem calld_strB : CallD X (fun xs H Q => (∃ i : Int, xs = [.int i] ∧ i.natAbs < 10 ^ 4300 ∧ Q (.str (toString i)) H) ∨ ∃ a, xs = [.str a] ∧ Q (.str a) H) strB := by
  intro ph am H xs ds c Q hn dx q k
  cases dx with
  | nil => cases q
  | cons h t =>
    cases t with
    | cons _ _ => cases h <;> cases q
    | nil =>
      cases h with
      | int i =>
        obtain ⟨h1, rfl⟩ := if_some (show (if numB i = true then some (PyData.str (sMk (figL i.toNat))) else none) = some c from q)
        refine .inl ⟨i, rfl, numB_lt h1, ?_⟩
        show Q (.str (Str.ofString (toString i))) H
        rw [figB_int h1]
        exact k _ H (Same.refl H) (.str _)
      | str s =>
        cases q
        exact .inr ⟨s, rfl, k _ H (Same.refl H) (.str _)⟩
      | _ => cases q
def intB : List PyData → Option PyData
  | [.str s] => match s.cps.toList with
    | [] => none
    | c :: r => if ((c :: r).all isFig && decide ((c :: r).length ≤ 4300)) = true then some (.int (valL (c :: r) : Nat)) else none
  | _ => none
theorem calld_intB : CallD X (fun xs H Q => ∃ a n, xs = [.str a] ∧ PySem.intText? a = some n ∧ a.length ≤ 4300 ∧ Q (.int n) H) intB := by
  intro ph am H xs ds c Q hn dx q k
  cases dx with
  | nil => cases q
  | cons h t =>
    cases t with
    | cons _ _ => cases h <;> cases q
    | nil =>
      cases h with
      | str s =>
        unfold intB at q
        simp only at q
        split at q
        · cases q
        · rename_i c0 r hc
          obtain ⟨h1, rfl⟩ := if_some q
          rw [Bool.and_eq_true, List.all_eq_true, decide_eq_true_eq] at h1
          rw [← hc] at h1
          refine ⟨s, _, rfl, PySem.intText_digits (fun c hc => ?_) (by rw [hc]; simp) ?_, ?_, ?_⟩
          · have := h1.1 c hc
            unfold isFig at this
            rw [Bool.and_eq_true, decide_eq_true_eq, decide_eq_true_eq] at this
            exact this
          · rw [len_tl]; omega
          · rw [len_tl]; omega
          · have e9 : NumText.digitsVal s.cps.toList = valL (c0 :: r) := by rw [hc]; rfl
            rw [e9]
            exact k _ H (Same.refl H) (.int _)
      | _ => cases q
section
variable {pf : Pos} (hd : DA X W [e] fs) (z : PySem.W.nsIn X.K cStatics "sys.int_max_str_digits" = some none)
include hd z
theorem de_strB (hm : X.mg "str" = none) (hc : X.calm = true := by rfl) (hg : Gl X "str" := by rfl) (he : starEach [e] X.env = (false, eval e X.env) :: starEach [] X.env := by rfl) (hpl : (backTo pos (starEach [] X.env)).any (·.1) = false := by rfl) : DE X W (.Call (.Name "str" pf) [e] [] pos) (xCall strB fs) :=
  de_callTy calld_strB (call_strB hc z) hm bt_str hd hg (by decide) (by decide) he hpl
theorem de_intB (hm : X.mg "int" = none) (hg : Gl X "int" := by rfl) (he : starEach [e] X.env = (false, eval e X.env) :: starEach [] X.env := by rfl) (hpl : (backTo pos (starEach [] X.env)).any (·.1) = false := by rfl) : DE X W (.Call (.Name "int" pf) [e] [] pos) (xCall intB fs) :=
  de_callTy calld_intB (call_intB z) hm bt_int hd hg (by decide) (by decide) he hpl
end
def tFmtB (te : TE) : TE := fun σ H Q => te σ H fun x H1 => (∃ y : Str, x = .str y ∧ y.length ≤ sizeLine ∧ Q (.str y) H1) ∨ ∃ i : Int, x = .int i ∧ i.natAbs < 10 ^ 4300 ∧ Q (.str (toString i)) H1
theorem pe_fmtB {e : Expr} {te : TE} {pos : Pos} (hc : X.calm = true) (z : PySem.W.nsIn X.K cStatics "sys.int_max_str_digits" = some none) (he : PE X e te) : PE X (.FormattedValue e (-1) none pos) (tFmtB te) := by
  refine ⟨fun pins s σ H Q I h => ?_⟩
  refine wpAny_FormattedValue_plain (thn (he.run pins s σ H _ I h) fun v s1 hv => ?_)
  obtain ⟨x, H1, I1, r1, q⟩ := hv
  rcases q with ⟨y, rfl, hz, q⟩ | ⟨i, rfl, hz, q⟩
  · obtain ⟨t, rfl⟩ := r1
    exact wpAny_formatField_str ⟨.str y, H1, I1, ⟨t, rfl⟩, q⟩ ⟨.str y, H1, I1.tok _, ⟨_, rfl⟩, q⟩ hz
  · obtain ⟨t, rfl⟩ := r1
    exact formatField_int (I1.ok.hd hc) (noDig I1 z) (fun _ => ⟨.str (toString i), H1, I1.tok _, ⟨_, rfl⟩, q⟩) (fun h => absurd hz (Nat.not_lt.mpr h))
def fmtB : PyData → Option PyData
  | .str s => if s.cps.toList.length ≤ 1000000 then some (.str s) else none
  | .int i => if numB i = true then some (.str (sMk (figL i.toNat))) else none
  | _ => none
theorem de_fmtB (z : PySem.W.nsIn X.K cStatics "sys.int_max_str_digits" = some none) (he : DE X W e f) (hc : X.calm = true := by rfl) : DE X W (.FormattedValue e (-1) none pos) (xUn fmtB f) := by
  obtain ⟨t, p, q⟩ := he.ex
  refine ⟨⟨_, pe_fmtB hc z p, fun ph am σ H δ Q ans δ' s z k kx => ?_⟩⟩
  rcases bnd_some z with ⟨d, δ1, e1, e2⟩ | ⟨c, fs, e1, e2⟩
  · refine q ph am σ H δ _ _ _ s e1 (fun d' ed am1 v H1 st1 s1 d1 => ?_) (fun c fs z => by cases z)
    cases ed
    obtain ⟨y, e3, rfl, rfl⟩ := lif_some e2
    cases d1 with
    | str x =>
      obtain ⟨hz, rfl⟩ := if_some (show (if x.cps.toList.length ≤ 1000000 then some (PyData.str x) else none) = some y from e3)
      exact .inl ⟨x, rfl, by rw [len_tl]; exact le_line hz, k _ rfl am1 _ H1 st1 s1 (.str _)⟩
    | int j =>
      obtain ⟨hz, rfl⟩ := if_some (show (if numB j = true then some (PyData.str (sMk (figL j.toNat))) else none) = some y from e3)
      refine .inr ⟨j, rfl, numB_lt hz, ?_⟩
      show Q (.str (Str.ofString (toString j))) H1
      rw [figB_int hz]
      exact k _ rfl am1 _ H1 st1 s1 (.str _)
    | _ => cases e3
  · subst e2
    exact q ph am σ H δ _ _ _ s e1 (fun d ed => by cases ed) (fun c' fs' z => by cases z; exact kx _ _ rfl)
end
end PD
end

section
set_option linter.all false
set_option maxRecDepth 100000
namespace PD
open PySem PySem.Spec PyProof.Rows L2
/-- list(zip(a, b)) -/
def listZipD (ds : List PyData) : Option (List PyData) := (zipD ds).bind fun l => if l.length ≤ 1000000 then some l else none
section
variable {X : Cx} {W : WX}
def lenX : List PyData → Option PyData
  | [.list xs] => some (.int xs.length)
  | [.tuple xs] => some (.int xs.length)
  | [.str s] => if s.cps.toList.length ≤ 1000000 then some (.int s.cps.toList.length) else none
  | _ => none
theorem calld_lenX : CallD X (fun xs H Q => (∃ p ys, xs = [.ref p] ∧ (SqL X.K H p ys ∨ SqT X.K H p ys) ∧ Q (.int ys.length) H) ∨ ∃ z : Str, xs = [.str z] ∧ z.length ≤ sizeLine ∧ Q (.int z.length) H) lenX := by
  intro ph am H xs ds c Q hn dx q k
  cases dx with
  | nil => cases q
  | cons h t =>
    cases t with
    | cons _ _ => cases h <;> cases q
    | nil =>
      cases h with
      | lst h1 a1 => cases q; exact .inl ⟨_, _, rfl, .inl (rd_hid h1), k _ H (Same.refl H) (by rw [← a1.length]; exact .int _)⟩
      | tup h1 a1 => cases q; exact .inl ⟨_, _, rfl, .inr (seqT_hid h1), k _ H (Same.refl H) (by rw [← a1.length]; exact .int _)⟩
      | str s =>
        obtain ⟨hz, rfl⟩ := if_some (show (if s.cps.toList.length ≤ 1000000 then some (PyData.int s.cps.toList.length) else none) = some c from q)
        exact .inr ⟨s, rfl, by rw [len_tl]; exact le_line hz, by rw [len_tl]; exact k _ H (Same.refl H) (.int _)⟩
      | _ => cases q
theorem de_lenX {pf : Pos} (hd : DA X W [e] fs) (hm : X.mg "len" = none) (hg : Gl X "len" := by rfl) (he : starEach [e] X.env = (false, eval e X.env) :: starEach [] X.env := by rfl) (hpl : (backTo pos (starEach [] X.env)).any (·.1) = false := by rfl) : DE X W (.Call (.Name "len" pf) [e] [] pos) (xCall lenX fs) :=
  de_callB calld_lenX (CallR.or call_len_seq call_len_str) hm PySem.boot_len hd hg (by decide) (by decide) he hpl
end
section
variable {X : Cx}
/-- (a, b) = a tuple or a list of that length -/
def sTupX (n : Nat) (r : Tgs) : Tg := fun d δ => match d with
  | .tuple ds => if ds.length = n then r ds δ else none
  | .list ds => if ds.length = n then r ds δ else none
  | _ => none
theorem pg_either {es : List Expr} {k n : Nat} {pos : Pos} {t : TGs} (hc : X.calm = true) (h : PGs X es t)
    (hn : (assignEach es X.env).length = n := by rfl) (hst : (assignEach es X.env).findIdx? (·.1) = none := by rfl) : PG X (.Tuple es k pos) (fun v σ H Q => gTup X.K n t v σ H Q ∨ gUnl X.K n t v σ H Q) := by
  refine ⟨fun pins s σ H v u Q I r hw => ?_⟩
  rcases hw with hw | hw
  · exact (pg_tup hc h hn hst).run pins s σ H v u Q I r hw
  · exact (pg_unl hc h hn hst).run pins s σ H v u Q I r hw
theorem dgc_tupX {is : List Nat} {ts : List Expr} {k n : Nat} {pos : Pos} {r : Tgs} (hc : X.calm = true) (t : DGsc X ts is r) (hn : (assignEach ts X.env).length = n := by rfl) (hst : (assignEach ts X.env).findIdx? (·.1) = none := by rfl) : DGc X (.Tuple ts k pos) is (sTupX n r) := by
  obtain ⟨t2, p2, q2⟩ := t.ex
  refine ⟨⟨_, pg_either hc p2 hn hst, fun ph am σ H δ δ' v d Q s dv q k => ?_⟩⟩
  cases dv with
  | tup h1 a1 =>
    unfold sTupX at q
    simp only at q
    split at q
    · rename_i hl
      exact .inl ⟨_, _, rfl, seqT_hid h1, by rw [a1.length]; exact hl, q2 ph am σ H δ δ' _ _ Q s a1 q k⟩
    · cases q
  | lst h1 a1 =>
    unfold sTupX at q
    simp only at q
    split at q
    · rename_i hl
      exact .inr ⟨_, _, rfl, rd_hid h1, by rw [a1.length]; exact hl, q2 ph am σ H δ δ' _ _ Q s a1 q k⟩
    · cases q
  | _ => cases q
end
end PD
end

section
set_option linter.all false
set_option maxRecDepth 100000
set_option maxHeartbeats 2000000
namespace LZ
open PySem
open Sem (wp)
abbrev ZipG (h : Heap) (z TI TO T : Addr) (f : Bool) : Prop := h.get? z = some { cls := .type "zip", data := .fields #[rawInt T, .bool f, .bool false, .ref TI, .ref TO] }
example {h : Heap} {z TI TO T : Addr} (x : IsZip h z TI TO (rawInt T)) : ZipG h z TI TO T false := x
section
variable {prog : Program} {w : World} {A : Around} {E : Value → Shared → Prop} {s : Shared} {z TI TO T i1 i2 : Addr} {fp1 fp2 : List Addr} {n1 n2 i : Nat} {P1 P2 : Nat → Value → Prop} {St1 St2 : Nat → Heap → Prop} {a1 a2 : Value} {f : Bool} {oT : Obj}
theorem free_out {Q : Bool → Shared → Prop} (hz : ZipG s.heap z TI TO T f) (hT : s.heap.get? T = some oT) (h : ∀ h', ZipG h' z TI TO T true → Heap.SameBut z s.heap h' → Q false { s with heap := h' }) :
    wpAny (model prog w) A (Builtin.SmallTypes.ownedTupleIsFree (.ref z)) Q E s := by
  unfold Builtin.SmallTypes.ownedTupleIsFree
  refine wpAny_bind (wpAny_field hz rfl (x := rawInt T) rfl ?_)
  show wpAny _ _ (loadIfAlive ((T : Int).toNat) >>= _) _ _ _
  rw [Int.toNat_natCast]
  refine wpAny_bind (PySem.W.kdx_alive hT ?_)
  simp only [Option.isNone_some, Bool.false_eq_true, if_false]
  refine wpAny_bind (wpAny_field hz rfl (x := .bool f) rfl ?_)
  cases f with
  | true =>
    rw [if_neg (show ¬ ((Value.bool true != Value.bool true) = true) from Bool.false_ne_true)]
    exact wpAny_pure (h _ hz (Heap.SameBut.refl _ _))
  | false =>
    rw [if_pos (show (Value.bool false != Value.bool true) = true from rfl)]
    refine wpAny_bind (wpAny_setField_rec hz (by simp) fun h₃ he₃ hs₃ => ?_)
    exact wpAny_pure (h h₃ he₃ hs₃)
theorem out_item {Q : Value → Shared → Prop} (S : ZipSep2 z TI TO i1 i2 fp1 fp2) (D1 : Draws prog w A i1 fp1 n1 P1 St1) (D2 : Draws prog w A i2 fp2 n2 P2 St2)
    (hz : ZipG s.heap z TI TO T f) (hT : s.heap.get? T = some oT) (hTI : IsTupOf2 s.heap TI (.ref i1) (.ref i2)) (st1 : St1 i s.heap) (st2 : St2 i s.heap) (hlt1 : i < n1) (hlt2 : i < n2)
    (hQ : ∀ x1 x2 h' tk, P1 i x1 → P2 i x2 → ZipG h' z TI TO T true → St1 (i + 1) h' → St2 (i + 1) h' → IsTupOf2 h' s.heap.objs.size x1 x2 → h'.objs.size = s.heap.objs.size + 1 →
      (∀ c o, c ≠ z → c ≠ i1 → c ≠ i2 → s.heap.get? c = some o → h'.get? c = some o) → Q (.ref s.heap.objs.size) { s with heap := h', toks := tk }) :
    wpAny (model prog w) A (Builtin.«zip.__next__» ⟨[.ref z], []⟩) (fun fin s' => ∃ v, fin = .done (.ret v) ∧ Q v s') E s := by
  obtain ⟨hp, g, d, tk0, os⟩ := s
  show wpAny _ _ (field (.ref z) 2 >>= _) _ _ _
  refine wpAny_bind (wpAny_field hz rfl (x := .bool false) rfl ?_)
  show wpAny _ _ (field (.ref z) 3 >>= _) _ _ _
  refine wpAny_bind (wpAny_field hz rfl (x := .ref TI) rfl ?_)
  refine wpAny_bind (wpAny_seqItems hTI rfl ?_)
  show wpAny _ _ (Builtin.SmallTypes.ownedTupleIsFree (.ref z) >>= _) _ _ _
  refine wpAny_bind (free_out hz hT fun g0 hz0 hs0 => ?_)
  replace hs0 : Heap.SameBut z hp g0 := hs0
  rw [if_neg (show ¬ ((false : Bool) = true) from Bool.false_ne_true)]
  refine wpAny_bind ?_
  simp only [← Array.forIn_toList, List.forIn_cons, List.forIn_nil]
  refine wpAny_bind (wpAny_bind (wpAny_holding ?_))
  show wpAny _ _ (Builtin.SmallTypes.nextOf (.ref i1) >>= _) _ _ ⟨g0, g, d, tk0, os⟩
  refine wpAny_bind (D1.item i _ _ _ hlt1 (D1.over st1 hs0 S.zf1) fun x1 p1 tk1 hx1 sn1 hp1 => wpAny_pure ?_)
  replace hp1 : Heap.SameBut i1 g0 p1 := hp1
  refine wpAny_pure ?_
  refine wpAny_bind (wpAny_bind (wpAny_holding ?_))
  show wpAny _ _ (Builtin.SmallTypes.nextOf (.ref i2) >>= _) _ _ ⟨p1, g, d, tk1, os⟩
  refine wpAny_bind (D2.item i _ _ _ hlt2 (D2.over (D2.over st2 hs0 S.zf2) hp1 S.sep1_2) fun x2 p2 tk2 hx2 sn2 hp2 => wpAny_pure ?_)
  replace hp2 : Heap.SameBut i2 p1 p2 := hp2
  refine wpAny_pure (wpAny_pure ?_)
  refine wpAny_bind (wpAny_newTuple (hsz := by rw [sizeLine_eq]; simp) ?_)
  have hsz : p2.objs.size = hp.objs.size := by rw [hp2.1, hp1.1, hs0.1]
  have hzz : ZipG p2 z TI TO T true := hp2.extBut _ _ S.zi2 (hp1.extBut _ _ S.zi1 hz0)
  have hkk : ∀ c o, c ≠ z → c ≠ i1 → c ≠ i2 → hp.get? c = some o → p2.get? c = some o := fun c o c1 c2 c3 e => hp2.extBut _ _ c3 (hp1.extBut _ _ c2 (hs0.extBut _ _ c1 e))
  have hj1 : St1 (i + 1) p2 := D1.over sn1 hp2 S.sep2_1
  have up : ∀ c o, p2.get? c = some o → (p2.push { cls := .type "tuple", data := .seq #[x1, x2] }).get? c = some o := fun c o e => Heap.get?_push_of_some _ e
  refine wpAny_pure ⟨_, rfl, ?_⟩
  show Q (.ref p2.objs.size) ⟨p2.push { cls := .type "tuple", data := .seq #[x1, x2] }, g, d, tk2, os⟩
  rw [hsz]
  exact hQ x1 x2 _ tk2 hx1 hx2 (up _ _ hzz) (D1.frame _ _ _ hj1 fun b hb o e => up b o e) (D2.frame _ _ _ sn2 fun b hb o e => up b o e) (by rw [← hsz]; exact Heap.get?_push_size _ rfl) (by rw [Heap.size_push, hsz]) fun c o cz c1 c2 e => up c o (hkk c o cz c1 c2 e)
theorem out_end {Q : Fin → Shared → Prop} (S : ZipSep2 z TI TO i1 i2 fp1 fp2) (D1 : Draws prog w A i1 fp1 n1 P1 St1) (D2 : Draws prog w A i2 fp2 n2 P2 St2)
    (hz : ZipG s.heap z TI TO T f) (hT : s.heap.get? T = some oT) (hTI : IsTupOf2 s.heap TI (.ref i1) (.ref i2)) (st1 : St1 i s.heap) (st2 : St2 i s.heap) (hle1 : i ≤ n1) (hle2 : i ≤ n2) (hend : i = n1 ∨ i = n2)
    (hE : ∀ h' tk e, (∀ c o, c ≠ z → c ≠ i1 → c ≠ i2 → s.heap.get? c = some o → h'.get? c = some o) → (∃ o, h'.get? e = some o ∧ o.cls = .type "StopIteration") → E (.ref e) { s with heap := h', toks := tk }) :
    wpAny (model prog w) A (Builtin.«zip.__next__» ⟨[.ref z], []⟩) Q E s := by
  obtain ⟨hp, g, d, tk0, os⟩ := s
  show wpAny _ _ (field (.ref z) 2 >>= _) _ _ _
  refine wpAny_bind (wpAny_field hz rfl (x := .bool false) rfl ?_)
  show wpAny _ _ (field (.ref z) 3 >>= _) _ _ _
  refine wpAny_bind (wpAny_field hz rfl (x := .ref TI) rfl ?_)
  refine wpAny_bind (wpAny_seqItems hTI rfl ?_)
  show wpAny _ _ (Builtin.SmallTypes.ownedTupleIsFree (.ref z) >>= _) _ _ _
  refine wpAny_bind (free_out hz hT fun g0 hz0 hs0 => ?_)
  replace hs0 : Heap.SameBut z hp g0 := hs0
  rw [if_neg (show ¬ ((false : Bool) = true) from Bool.false_ne_true)]
  refine wpAny_bind ?_
  simp only [← Array.forIn_toList, List.forIn_cons, List.forIn_nil]
  refine wpAny_bind (wpAny_bind (wpAny_holding ?_))
  show wpAny _ _ (Builtin.SmallTypes.nextOf (.ref i1) >>= _) _ _ ⟨g0, g, d, tk0, os⟩
  by_cases hlt1 : i < n1
  · refine wpAny_bind (D1.item i _ _ _ hlt1 (D1.over st1 hs0 S.zf1) fun x1 p1 tk1 hx1 sn1 hp1 => wpAny_pure ?_)
    replace hp1 : Heap.SameBut i1 g0 p1 := hp1
    refine wpAny_pure ?_
    have hi2 : i = n2 := by omega
    refine wpAny_bind (wpAny_bind (wpAny_holding ?_))
    show wpAny _ _ (Builtin.SmallTypes.nextOf (.ref i2) >>= _) _ _ ⟨p1, g, d, tk1, os⟩
    refine wpAny_bind (D2.done ⟨p1, g, d, tk1, os⟩ _ _ (by rw [← hi2]; exact D2.over (D2.over st2 hs0 S.zf2) hp1 S.sep1_2) fun q e hq he => ?_)
    replace hq : Heap.ExtBut i2 p1 q := hq
    exact hE q tk1 e (fun c o cz c1 c2 x => hq _ _ c2 (hp1.extBut _ _ c1 (hs0.extBut _ _ cz x))) he
  · have hi1 : i = n1 := by omega
    refine wpAny_bind (D1.done ⟨g0, g, d, tk0, os⟩ _ _ (by rw [← hi1]; exact (D1.over st1 hs0 S.zf1)) fun q e hq he => ?_)
    replace hq : Heap.ExtBut i1 g0 q := hq
    exact hE q tk0 e (fun c o cz c1 c2 x => hq _ _ c1 (hs0.extBut _ _ cz x)) he
theorem next_out_item {Q : Option Value → Shared → Prop} (S : ZipSep2 z TI TO i1 i2 fp1 fp2) (D1 : Draws prog w A.in1 i1 fp1 n1 P1 St1) (D2 : Draws prog w A.in1 i2 fp2 n2 P2 St2)
    (hz : ZipG s.heap z TI TO T f) (hT : s.heap.get? T = some oT) (hTI : IsTupOf2 s.heap TI (.ref i1) (.ref i2)) (st1 : St1 i s.heap) (st2 : St2 i s.heap) (hlt1 : i < n1) (hlt2 : i < n2)
    (hQ : ∀ x1 x2 h' tk, P1 i x1 → P2 i x2 → ZipG h' z TI TO T true → St1 (i + 1) h' → St2 (i + 1) h' → IsTupOf2 h' s.heap.objs.size x1 x2 → h'.objs.size = s.heap.objs.size + 1 →
      (∀ c o, c ≠ z → c ≠ i1 → c ≠ i2 → s.heap.get? c = some o → h'.get? c = some o) → Q (some (.ref s.heap.objs.size)) { s with heap := h', toks := tk }) :
    wpAny (model prog w) A (pyNext (.ref z)) Q E s := by
  have hTy : s.TypeIs (.ref z) "zip" := ⟨_, hz, rfl⟩
  unfold pyNext
  exact wpAny_bind (wpAny_attempt (wpAny_callSpecial?_slot (name := Str.ofString "__next__") hTy F.slot_zip_next
    (wpAny_call_entry F.slot_zip_next hTy F.entry_zip_next
      (out_item S D1 D2 hz hT hTI st1 st2 hlt1 hlt2 fun x1 x2 h' tk y1 y2 b1 d1 d2 b5 b6 b7 => wpAny_pure (hQ x1 x2 h' tk y1 y2 b1 d1 d2 b5 b6 b7)) (F.args_zip_next_1 _))))
theorem next_out_end {Q : Option Value → Shared → Prop} (S : ZipSep2 z TI TO i1 i2 fp1 fp2) (D1 : Draws prog w A.in1 i1 fp1 n1 P1 St1) (D2 : Draws prog w A.in1 i2 fp2 n2 P2 St2)
    (hz : ZipG s.heap z TI TO T f) (hT : s.heap.get? T = some oT) (hTI : IsTupOf2 s.heap TI (.ref i1) (.ref i2)) (st1 : St1 i s.heap) (st2 : St2 i s.heap) (hle1 : i ≤ n1) (hle2 : i ≤ n2) (hend : i = n1 ∨ i = n2)
    (hQ : ∀ h' tk, (∀ c o, c ≠ z → c ≠ i1 → c ≠ i2 → s.heap.get? c = some o → h'.get? c = some o) → Q none { s with heap := h', toks := tk }) : wpAny (model prog w) A (pyNext (.ref z)) Q E s := by
  have hTy : s.TypeIs (.ref z) "zip" := ⟨_, hz, rfl⟩
  unfold pyNext
  refine wpAny_bind (wpAny_attempt (wpAny_callSpecial?_slot (name := Str.ofString "__next__") hTy F.slot_zip_next
    (wpAny_call_entry F.slot_zip_next hTy F.entry_zip_next (out_end S D1 D2 hz hT hTI st1 st2 hle1 hle2 hend fun h' tk e hk he => ?_) (F.args_zip_next_1 _))))
  obtain ⟨o, ho, hc⟩ := he
  refine wpAny_bind (wpAny_isInstance (T := "StopIteration") (b := true) ⟨o, ho, hc⟩ isSubtype_stop ?_)
  exact wpAny_pure (hQ _ _ hk)
/-- where a zip stands whose tuples are kept by the one who draws; what is made in the walk lies above L -/
def ZSt (z TI TO i1 i2 L : Addr) (St1 St2 : Nat → Heap → Prop) (i : Nat) (h : Heap) : Prop :=
  IsTupOf2 h TI (.ref i1) (.ref i2) ∧ St1 i h ∧ St2 i h ∧ ((i = 0 ∧ IsZip h z TI TO .none ∧ ∃ a1 a2, IsTupOf2 h TO a1 a2) ∨ ∃ T f oT, ZipG h z TI TO T f ∧ h.get? T = some oT ∧ L < T)
/-- all cells of the zip lie below L -/
structure Low (z TI TO i1 i2 L : Addr) (fp1 fp2 : List Addr) : Prop where
  z : z < L
  TI : TI < L
  TO : TO < L
  f1 : ∀ b ∈ fp1, b < L
  f2 : ∀ b ∈ fp2, b < L
theorem ZSt.keep {L : Addr} {h h' : Heap} (S : ZipSep2 z TI TO i1 i2 fp1 fp2) (lo : Low z TI TO i1 i2 L fp1 fp2) (D1 : Draws prog w A i1 fp1 n1 P1 St1) (D2 : Draws prog w A i2 fp2 n2 P2 St2) (x : ZSt z TI TO i1 i2 L St1 St2 i h)
    (hk : ∀ b o, b ≠ L → h.get? b = some o → h'.get? b = some o) : ZSt z TI TO i1 i2 L St1 St2 i h' := by
  obtain ⟨q1, q2, q3, q4⟩ := x
  refine ⟨hk _ _ (Nat.ne_of_lt lo.TI) q1, D1.frame _ _ _ q2 fun b hb o e => hk b o (Nat.ne_of_lt (lo.f1 b hb)) e, D2.frame _ _ _ q3 fun b hb o e => hk b o (Nat.ne_of_lt (lo.f2 b hb)) e, ?_⟩
  rcases q4 with ⟨e, hz, a1, a2, hTO⟩ | ⟨T, f, oT, hz, hT, hl⟩
  · exact .inl ⟨e, hk _ _ (Nat.ne_of_lt lo.z) hz, a1, a2, hk _ _ (Nat.ne_of_lt lo.TO) hTO⟩
  · exact .inr ⟨T, f, oT, hk _ _ (Nat.ne_of_lt lo.z) hz, hk _ _ (Nat.ne_of_gt hl) hT, hl⟩
theorem zs_item {L : Addr} {Q : Option Value → Shared → Prop} (S : ZipSep2 z TI TO i1 i2 fp1 fp2) (lo : Low z TI TO i1 i2 L fp1 fp2) (D1 : Draws prog w A.in1 i1 fp1 n1 P1 St1) (D2 : Draws prog w A.in1 i2 fp2 n2 P2 St2)
    (st : ZSt z TI TO i1 i2 L St1 St2 i s.heap) (hL : L < s.heap.objs.size) (hlt1 : i < n1) (hlt2 : i < n2)
    (hQ : ∀ x1 x2 h' tk, P1 i x1 → P2 i x2 → ZSt z TI TO i1 i2 L St1 St2 (i + 1) h' → IsTupOf2 h' s.heap.objs.size x1 x2 → h'.objs.size = s.heap.objs.size + 1 →
      (∀ c o, L ≤ c ∨ (c ≠ z ∧ c ≠ TO ∧ c ≠ i1 ∧ c ≠ i2) → s.heap.get? c = some o → h'.get? c = some o) → Q (some (.ref s.heap.objs.size)) { s with heap := h', toks := tk }) :
    wpAny (model prog w) A (pyNext (.ref z)) Q E s := by
  obtain ⟨hTI, st1, st2, q4⟩ := st
  have l1 := lo.f1 _ S.mem1
  have l2 := lo.f2 _ S.mem2
  have lz := lo.z
  have lT := lo.TO
  have sep : ∀ {c : Addr}, L ≤ c ∨ (c ≠ z ∧ c ≠ TO ∧ c ≠ i1 ∧ c ≠ i2) → c ≠ z ∧ c ≠ TO ∧ c ≠ i1 ∧ c ≠ i2 := fun {c} h => by
    rcases h with h | h
    · exact ⟨Nat.ne_of_gt (Nat.lt_of_lt_of_le lz h), Nat.ne_of_gt (Nat.lt_of_lt_of_le lT h), Nat.ne_of_gt (Nat.lt_of_lt_of_le l1 h), Nat.ne_of_gt (Nat.lt_of_lt_of_le l2 h)⟩
    · exact h
  rcases q4 with ⟨rfl, hz, a1, a2, hTO⟩ | ⟨T, f, oT, hz, hT, hl⟩
  · refine wpAny_pyNext_zipD2_item S D1 D2 hz hTI hTO st1 st2 hlt1 hlt2 fun x1 x2 h' tk y1 y2 b1 b2 d1 d2 b5 b6 b7 => hQ x1 x2 h' tk y1 y2 ⟨b7 _ _ S.TIz S.TITO S.TIi1 S.TIi2 hTI, d1, d2, .inr ⟨_, false, _, b1, b5, hL⟩⟩ b5 b6 fun c o h e => ?_
    obtain ⟨c1, c2, c3, c4⟩ := sep h
    exact b7 c o c1 c2 c3 c4 e
  · refine next_out_item S D1 D2 hz hT hTI st1 st2 hlt1 hlt2 fun x1 x2 h' tk y1 y2 b1 d1 d2 b5 b6 b7 => hQ x1 x2 h' tk y1 y2 ⟨b7 _ _ S.TIz S.TIi1 S.TIi2 hTI, d1, d2, .inr ⟨T, true, oT, b1, ?_, hl⟩⟩ b5 b6 fun c o h e => ?_
    · obtain ⟨c1, c2, c3, c4⟩ := sep (.inl (Nat.le_of_lt hl))
      exact b7 T oT c1 c3 c4 hT
    · obtain ⟨c1, c2, c3, c4⟩ := sep h
      exact b7 c o c1 c3 c4 e
theorem zs_end {L : Addr} {Q : Option Value → Shared → Prop} (S : ZipSep2 z TI TO i1 i2 fp1 fp2) (D1 : Draws prog w A.in1 i1 fp1 n1 P1 St1) (D2 : Draws prog w A.in1 i2 fp2 n2 P2 St2)
    (st : ZSt z TI TO i1 i2 L St1 St2 i s.heap) (hle1 : i ≤ n1) (hle2 : i ≤ n2) (hend : i = n1 ∨ i = n2)
    (hQ : ∀ h' tk, (∀ c o, c ≠ z → c ≠ TO → c ≠ i1 → c ≠ i2 → s.heap.get? c = some o → h'.get? c = some o) → Q none { s with heap := h', toks := tk }) : wpAny (model prog w) A (pyNext (.ref z)) Q E s := by
  obtain ⟨hTI, st1, st2, q4⟩ := st
  rcases q4 with ⟨rfl, hz, a1, a2, hTO⟩ | ⟨T, f, oT, hz, hT, hl⟩
  · exact wpAny_pyNext_zipD2_end S D1 D2 hz hTI hTO st1 st2 hle1 hle2 hend hQ
  · exact next_out_end S D1 D2 hz hT hTI st1 st2 hle1 hle2 hend fun h' tk hk => hQ h' tk fun c o c1 _ c3 c4 e => hk c o c1 c3 c4 e
/-- the pairs made, one behind the other -/
structure ZG (P1 P2 : Nat → Value → Prop) (L : Addr) (h : Heap) (as : List Addr) : Prop where
  rise : as.Pairwise (· < ·)
  above : ∀ a ∈ as, L < a
  pairs : ∀ (j : Nat) (a : Addr), as[j]? = some a → ∃ x y, P1 j x ∧ P2 j y ∧ IsTupOf2 h a x y
theorem ZG.there {L : Addr} {h : Heap} {as : List Addr} (g : ZG P1 P2 L h as) {a : Addr} (ha : a ∈ as) : a < h.objs.size := by
  obtain ⟨j, hj⟩ := List.mem_iff_getElem?.mp ha
  obtain ⟨_, _, _, _, e⟩ := g.pairs j a hj
  exact Heap.lt_size e
end
section
variable {prog : Program} {w : World} {A : Around} {s : Shared} {R : Result → Shared → Prop} {z TI TO i1 i2 : Addr} {fp1 fp2 : List Addr} {n1 n2 : Nat} {P1 P2 : Nat → Value → Prop} {St1 St2 : Nat → Heap → Prop}
theorem zs_loop {L : Addr} (S : ZipSep2 z TI TO i1 i2 fp1 fp2) (lo : Low z TI TO i1 i2 L fp1 fp2) (D1 : Draws prog w A.in1.in1 i1 fp1 n1 P1 St1) (D2 : Draws prog w A.in1.in1 i2 fp2 n2 P2 St2) (hn : min n1 n2 ≤ sizeLine) (res : Value) {h₁ : Heap}
    (hR : ∀ h' tk acc c as, (∀ b o, b ≠ L → b ≠ z → b ≠ TO → b ≠ i1 → b ≠ i2 → h₁.get? b = some o → h'.get? b = some o) → h'.get? L = some { cls := .type "list", dict := none, data := .seq acc c, slots := #[] } → as.length = min n1 n2 → ZG P1 P2 L h' as →
      acc.toList = as.map Value.ref → R (.ok (.ret res)) { s with heap := h', toks := tk }) :
    ∀ (k i : Nat) (h : Heap) (tk c : Nat) (acc : Array Value) (as : List Addr), min n1 n2 - i = k → i ≤ min n1 n2 → ZSt z TI TO i1 i2 L St1 St2 i h → (∀ b o, b ≠ L → b ≠ z → b ≠ TO → b ≠ i1 → b ≠ i2 → h₁.get? b = some o → h.get? b = some o) →
      h.get? L = some { cls := .type "list", dict := none, data := .seq acc c, slots := #[] } → acc.toList = as.map Value.ref → as.length = i → ZG P1 P2 L h as →
      codeAny (model prog w) A (.builtin "list.extend.loop" ⟨[.ref L, .ref z, res], []⟩) R { s with heap := h, toks := tk } := by
  have l1 := lo.f1 _ S.mem1
  have l2 := lo.f2 _ S.mem2
  have lz := lo.z
  have lT := lo.TO
  intro k
  induction k with
  | zero =>
    intro i h tk c acc as hk hi hst hkeep hL hacc hal hG
    have hin : i = min n1 n2 := by omega
    refine codeAny_builtin PySem.F.entry_extend_loop ?_
    rw [Around.under_plainId PySem.F.plain_extend_loop _]
    show wpAny _ A.in1 (pyNext (.ref z) >>= _) _ _ _
    refine wpAny_bind (zs_end (s := { s with heap := h, toks := tk }) (A := A.in1) S D1 D2 hst (by omega) (by omega) (by omega) fun h' tk' he => ?_)
    refine wpAny_pure (hR h' tk' acc c as (fun b o h0 h1 h2 h3 h4 e => he b o h1 h2 h3 h4 (hkeep b o h0 h1 h2 h3 h4 e)) (he L _ (Nat.ne_of_gt lz) (Nat.ne_of_gt lT) (Nat.ne_of_gt l1) (Nat.ne_of_gt l2) hL) (by omega) ⟨hG.rise, hG.above, fun j a hj => ?_⟩ hacc)
    obtain ⟨x, y, e1, e2, e3⟩ := hG.pairs j a hj
    have ha := hG.above a (List.mem_of_getElem? hj)
    exact ⟨x, y, e1, e2, he a _ (Nat.ne_of_gt (Nat.lt_trans lz ha)) (Nat.ne_of_gt (Nat.lt_trans lT ha)) (Nat.ne_of_gt (Nat.lt_trans l1 ha)) (Nat.ne_of_gt (Nat.lt_trans l2 ha)) e3⟩
  | succ k ih =>
    intro i h tk c acc as hk hi hst hkeep hL hacc hal hG
    have hlt1 : i < n1 := by omega
    have hlt2 : i < n2 := by omega
    have hsz : acc.size = i := by rw [← Array.length_toList, hacc, List.length_map, hal]
    refine codeAny_builtin PySem.F.entry_extend_loop ?_
    rw [Around.under_plainId PySem.F.plain_extend_loop _]
    show wpAny _ A.in1 (pyNext (.ref z) >>= _) _ _ _
    refine wpAny_bind (zs_item (s := { s with heap := h, toks := tk }) (A := A.in1) S lo D1 D2 hst (Heap.lt_size hL) hlt1 hlt2 fun x1 x2 h' tk' y1 y2 hst' ht hz hkp => ?_)
    dsimp only at ht hz hkp ⊢
    have hL' := hkp L _ (.inl (Nat.le_refl _)) hL
    have up : ∀ b o, b ≠ L → h'.get? b = some o → (h'.update L (Obj.mapSeq (·.push (Value.ref h.objs.size)))).get? b = some o := fun b o hb e => (Heap.get?_update_other _ _ (Ne.symm hb)).trans e
    have hLl : L < h.objs.size := Heap.lt_size hL
    show wpAny _ A.in1 (updateSeq L (·.push (Value.ref h.objs.size)) >>= _) _ _ _
    refine wpAny_bind ?_
    refine wpAny_updateSeq hL' rfl (wpAny_pure ⟨plainId_quiet PySem.F.plain_extend_loop _, ih (i + 1) _ tk' _ (acc.push (Value.ref h.objs.size)) (as ++ [h.objs.size]) (by omega) (by omega) (hst'.keep S lo D1 D2 up)
      (fun b o h0 h1 h2 h3 h4 e => up b o h0 (hkp b o (.inr ⟨h1, h2, h3, h4⟩) (hkeep b o h0 h1 h2 h3 h4 e))) (Heap.get?_update_self _ hL' rfl) (by rw [Array.toList_push, hacc, List.map_append]; rfl) (by rw [List.length_append, hal]; rfl) ⟨?_, ?_, ?_⟩⟩) (by rw [hsz]; omega) (by show (acc.push (Value.ref h.objs.size)).size ≤ sizeLine + 1; rw [Array.size_push, hsz]; omega)
    · refine List.pairwise_append.mpr ⟨hG.rise, List.pairwise_singleton _ _, fun a ha b hb => ?_⟩
      rw [List.mem_singleton.mp hb]
      exact hG.there ha
    · intro a ha
      rcases List.mem_append.mp ha with ha | ha
      · exact hG.above a ha
      · rw [List.mem_singleton.mp ha]; exact hLl
    · intro j b hj
      rcases Nat.lt_trichotomy j as.length with h1 | h1 | h1
      · rw [List.getElem?_append_left h1] at hj
        obtain ⟨x, y, e1, e2, e3⟩ := hG.pairs j b hj
        have hb := hG.above b (List.mem_of_getElem? hj)
        exact ⟨x, y, e1, e2, up b _ (Nat.ne_of_gt hb) (hkp b _ (.inl (Nat.le_of_lt hb)) e3)⟩
      · subst h1
        have hb : h.objs.size = b := by simpa using hj
        subst hb
        exact ⟨x1, x2, by rw [hal]; exact y1, by rw [hal]; exact y2, up _ _ (Nat.ne_of_gt hLl) ht⟩
      · have hnone : (as ++ [h.objs.size])[j]? = none := List.getElem?_eq_none (by rw [List.length_append, List.length_singleton]; omega)
        rw [hnone] at hj; cases hj
end
end LZ
end

section
set_option linter.all false
set_option maxRecDepth 100000
set_option maxHeartbeats 2000000
namespace LZ
open PySem PySem.Spec PySem.Calls PyProof.Rows L2
theorem zip_no_len : typeLookup (.type "zip") "__len__" = pure none := by rw [typeLookup_type, builtinLookup_eq_fast]; kernel_rfl
theorem zip_no_hint : typeLookup (.type "zip") "__length_hint__" = pure none := by rw [typeLookup_type, builtinLookup_eq_fast]; kernel_rfl
section
variable {prog : Program} {w : World} {A : Around} {E : Value → Shared → Prop} {s : Shared} {z TI TO i1 i2 : Addr} {fp1 fp2 : List Addr} {n1 n2 : Nat} {P1 P2 : Nat → Value → Prop} {St1 St2 : Nat → Heap → Prop}
theorem zs_extend {L : Addr} {R : Result → Shared → Prop} (S : ZipSep2 z TI TO i1 i2 fp1 fp2) (lo : Low z TI TO i1 i2 L fp1 fp2) (D1 : Draws prog w A.in1.in1 i1 fp1 n1 P1 St1) (D2 : Draws prog w A.in1.in1 i2 fp2 n2 P2 St2) (hn : min n1 n2 ≤ sizeLine) (res : Value) (c₀ : Nat)
    (hz : IsZip s.heap z TI TO .none) (st : ZSt z TI TO i1 i2 L St1 St2 0 s.heap) (hL : s.heap.get? L = some { cls := .type "list", data := .seq #[] c₀ })
    (hR : ∀ h' tk acc c as, (∀ b o, b ≠ L → b ≠ z → b ≠ TO → b ≠ i1 → b ≠ i2 → s.heap.get? b = some o → h'.get? b = some o) → h'.get? L = some { cls := .type "list", dict := none, data := .seq acc c, slots := #[] } → as.length = min n1 n2 → ZG P1 P2 L h' as →
      acc.toList = as.map Value.ref → R (.ok (.ret res)) { s with heap := h', toks := tk }) :
    wpAny (model prog w) A.in1 (Builtin.List.listExtendWith (.ref L) (.ref z) res)
      (fun fin s' => match fin with | .done f => R (.ok f) s' | .again c' => c'.quiet = true ∧ codeAny (model prog w) A c' R s') (fun e s' => R (.error e) s') s := by
  have hLz : L ≠ z := Nat.ne_of_gt lo.z
  have key : ∀ (h : Heap) (c₁ tk : Nat), (∀ b o, b ≠ L → s.heap.get? b = some o → h.get? b = some o) → h.get? L = some { cls := .type "list", data := .seq #[] c₁ } →
      codeAny (model prog w) A (.builtin "list.extend.loop" ⟨[.ref L, .ref z, res], []⟩) R { s with heap := h, toks := tk } := by
    intro h c₁ tk hk hS₁
    exact zs_loop (s := s) (h₁ := s.heap) S lo D1 D2 hn res hR (min n1 n2) 0 h tk c₁ #[] [] (Nat.sub_zero _) (Nat.zero_le _) (st.keep S lo D1 D2 hk) (fun b o hb _ _ _ _ e => hk b o hb e) hS₁ rfl rfl
      ⟨List.Pairwise.nil, (fun _ ha => nomatch ha), (fun j a hj => by simp at hj)⟩
  have hT : ∀ h : Heap, IsZip h z TI TO .none → ∀ tk, Shared.TypeIs { s with heap := h, toks := tk } (.ref z) "zip" := fun h e tk => ⟨_, e, rfl⟩
  unfold Builtin.List.listExtendWith
  refine wpAny_bind (wpAny_typeOf (T := "zip") ⟨_, hz, rfl⟩ ?_)
  have h1 : Builtin.List.listSameRef (.ref L) (.ref z) = false := by simp [Builtin.List.listSameRef, hLz]
  have h2 : (Value.type "zip" == Value.type "list") = false := by decide
  have h3 : (Value.type "zip" == Value.type "tuple") = false := by decide
  simp only [h1, h2, h3, Bool.or_false, Bool.false_eq_true, if_false]
  refine wpAny_bind (wpAny_pyIter_zip hz ?_)
  refine wpAny_bind (wpAny_holding ?_)
  unfold Builtin.List.listLengthHint
  refine wpAny_bind (wpAny_specialOf (T := "zip") ⟨_, hz, rfl⟩ zip_no_len ?_)
  show wpAny _ _ (specialOf (Value.ref z) (Str.ofString "__length_hint__") >>= _) _ _ _
  refine wpAny_bind (wpAny_specialOf (T := "zip") ⟨_, hz, rfl⟩ zip_no_hint ?_)
  refine wpAny_pure ?_
  show wpAny _ _ (rule "list.extend.makes-room" >>= fun _ => Builtin.List.listTouch (.ref L) >>= fun _ =>
    again (.builtin "list.extend.loop" ⟨[.ref L, .ref z, res], []⟩)) _ _ _
  refine wpAny_bind (wpAny_rule ?_)
  refine wpAny_bind ?_
  show wpAny _ _ (updateSeq L (·.push .none) >>= fun _ => updateSeq L (·.pop)) _ _ _
  refine wpAny_bind (wpAny_updateSeq hL rfl ?_)
  have hS₂ := Heap.get?_update_self (Obj.mapSeq (·.push Value.none)) hL rfl
  refine wpAny_updateSeq (hz := by seq_fits) hS₂ rfl ?_
  have hS₃ := Heap.get?_update_self (Obj.mapSeq (·.pop)) hS₂ rfl
  refine wpAny_pure ⟨plainId_quiet PySem.F.plain_extend_loop _, key _ _ _ (fun b o hb e => ?_) hS₃⟩
  exact (Heap.get?_update_other _ _ (Ne.symm hb)).trans ((Heap.get?_update_other _ _ (Ne.symm hb)).trans e)
theorem zs_init {L : Addr} {R : Result → Shared → Prop} (S : ZipSep2 z TI TO i1 i2 fp1 fp2) (lo : Low z TI TO i1 i2 L fp1 fp2) (D1 : Draws prog w A.in1.in1 i1 fp1 n1 P1 St1) (D2 : Draws prog w A.in1.in1 i2 fp2 n2 P2 St2) (hn : min n1 n2 ≤ sizeLine)
    (hz : IsZip s.heap z TI TO .none) (st : ZSt z TI TO i1 i2 L St1 St2 0 s.heap) (hL : s.heap.get? L = some { cls := .type "list", data := .seq #[] })
    (hR : ∀ h' tk acc c as, (∀ b o, b ≠ L → b ≠ z → b ≠ TO → b ≠ i1 → b ≠ i2 → s.heap.get? b = some o → h'.get? b = some o) → h'.get? L = some { cls := .type "list", dict := none, data := .seq acc c, slots := #[] } → as.length = min n1 n2 → ZG P1 P2 L h' as →
      acc.toList = as.map Value.ref → R (.ok (.ret .none)) { s with heap := h', toks := tk }) :
    wpAny (model prog w) A.in1 (Builtin.«list.__init__» ⟨[.ref L, .ref z], []⟩)
      (fun fin s' => match fin with | .done f => R (.ok f) s' | .again c' => c'.quiet = true ∧ codeAny (model prog w) A c' R s') (fun e s' => R (.error e) s') s := by
  show wpAny _ _ (do let old ← Builtin.List.listItems (.ref L); Builtin.List.listUpdate (.ref L) (fun _ => #[]); letGo old.toList.reverse; Builtin.List.listExtendWith (.ref L) (.ref z) .none) _ _ s
  refine wpAny_bind ?_
  unfold Builtin.List.listItems
  refine wpAny_bind (wpAny_seqItems hL rfl (wpAny_pure ?_))
  show wpAny _ _ (updateSeq L (fun _ => #[]) >>= fun _ => letGo (#[] : Array Value).toList.reverse >>= fun _ => Builtin.List.listExtendWith (.ref L) (.ref z) .none) _ _ s
  refine wpAny_bind (wpAny_updateSeq hL rfl ?_)
  have hS₂ := Heap.get?_update_self (Obj.mapSeq (fun _ => (#[] : Array Value))) hL rfl
  have oth : ∀ b o, b ≠ L → s.heap.get? b = some o → (s.heap.update L (Obj.mapSeq (fun _ => (#[] : Array Value)))).get? b = some o :=
    fun b o hb e => (Heap.get?_update_other _ _ (Ne.symm hb)).trans e
  refine wpAny_bind (wpAny_letGo ?_)
  exact zs_extend (s := { s with heap := _ }) S lo D1 D2 hn .none _ (oth _ _ (Nat.ne_of_lt lo.z) hz) (st.keep S lo D1 D2 oth) hS₂ fun h' tk acc c as hk hS' hl hG hacc =>
    hR h' tk acc c as (fun b o hb b1 b2 b3 b4 e => hk b o hb b1 b2 b3 b4 (oth b o hb e)) hS' hl hG hacc
theorem zs_call {Q : Value → Shared → Prop} (S : ZipSep2 z TI TO i1 i2 fp1 fp2) (lo : Low z TI TO i1 i2 s.heap.objs.size fp1 fp2) (D1 : Draws prog w A.in1.in1.in1 i1 fp1 n1 P1 St1) (D2 : Draws prog w A.in1.in1.in1 i2 fp2 n2 P2 St2) (hn : min n1 n2 ≤ sizeLine)
    (hz : IsZip s.heap z TI TO .none) (st : ZSt z TI TO i1 i2 s.heap.objs.size St1 St2 0 s.heap)
    (hQ : ∀ h' tk acc c as, (∀ b o, b ≠ z → b ≠ TO → b ≠ i1 → b ≠ i2 → s.heap.get? b = some o → h'.get? b = some o) → h'.get? s.heap.objs.size = some { cls := .type "list", dict := none, data := .seq acc c, slots := #[] } → as.length = min n1 n2 → ZG P1 P2 s.heap.objs.size h' as →
      acc.toList = as.map Value.ref → Q (.ref s.heap.objs.size) { s with heap := h', toks := tk }) :
    wpAny (model prog w) A (call (.type "list") [.ref z]) Q E s := by
  refine callType_codes (Q₁ := fun obj s₁ => obj = .ref s.heap.objs.size ∧ s₁ = { s with heap := s.heap.push { cls := .type "list", data := .seq #[] } }) PySem.F.called_list (PySem.F.typeCall_list_1 _) PySem.F.entry_list_init
    (code_list_new _ ⟨rfl, rfl⟩) fun obj s₁ h₁ => ?_
  obtain ⟨rfl, rfl⟩ := h₁
  have hS : (s.heap.push { cls := .type "list", data := .seq #[] }).get? s.heap.objs.size = some { cls := .type "list", data := .seq #[] } := Heap.get?_push_size _ rfl
  refine ⟨⟨_, hS, rfl⟩, PySem.F.args_list_init_2 _ _, zs_init (s := { s with heap := _ }) (A := A.in1) S lo D1 D2 hn (Heap.get?_push_of_some _ hz) (st.keep S lo D1 D2 fun b o hb e => Heap.get?_push_of_some _ e) hS (fun h' tk acc c as hk hS' hl hG hacc => ?_)⟩
  exact ⟨rfl, hQ h' tk acc c as (fun b o b1 b2 b3 b4 e => hk b o (Nat.ne_of_lt (Heap.lt_size e)) b1 b2 b3 b4 (Heap.get?_push_of_some _ e)) hS' hl hG hacc⟩
end
end LZ
end

section
set_option linter.all false
set_option maxRecDepth 100000
set_option maxHeartbeats 2000000
namespace LZ
open PySem PySem.Spec PyProof.Rows L2 PD
/-- the pairs tracked at their addresses -/
def putP : Hp → List Addr → List (V × V) → Hp
  | H, a :: as, p :: kvs => putP (upd H a (.tup [p.1, p.2])) as kvs
  | H, _, _ => H
theorem putP_off {b : Addr} : ∀ (as : List Addr) (kvs : List (V × V)) (H : Hp), b ∉ as → putP H as kvs b = H b
  | [], _, _, _ => rfl
  | _ :: _, [], _, _ => rfl
  | a :: as, p :: kvs, H, h => by
    show putP (upd H a (.tup [p.1, p.2])) as kvs b = H b
    rw [putP_off as kvs _ (fun z => h (List.mem_cons_of_mem _ z)), upd_ne (fun z => h (by rw [z]; exact List.mem_cons_self))]
theorem putP_at : ∀ (as : List Addr) (kvs : List (V × V)) (H : Hp), as.length = kvs.length → as.Nodup → ∀ (j : Nat) (a : Addr), as[j]? = some a → ∃ p, kvs[j]? = some p ∧ putP H as kvs a = some (.tup [p.1, p.2])
  | [], _, _, _, _, j, a, h => by simp at h
  | _ :: _, [], _, h, _, _, _, _ => by cases h
  | a :: as, p :: kvs, H, h, hn, 0, b, e => by
    have e' : a = b := by simpa using e
    subst e'
    refine ⟨p, rfl, ?_⟩
    show putP (upd H a (.tup [p.1, p.2])) as kvs a = some (.tup [p.1, p.2])
    rw [putP_off as kvs _ (List.nodup_cons.mp hn).1, upd_same]
  | a :: as, p :: kvs, H, h, hn, j + 1, b, e => putP_at as kvs (upd H a (.tup [p.1, p.2])) (Nat.succ.inj h) (List.nodup_cons.mp hn).2 j b (by simpa using e)
section
variable {X : Cx}
theorem zip_laid {pins : List (Addr × Obj)} {σ : L2.St} {H : Hp} {s : Shared} {h' : Heap} {tk : Nat} {xs ys : List V} {us ws : List Value} {acc : Array Value} {c : Nat} {as : List Addr} {L : Addr} (I : Inv X pins σ H s) (hz : min xs.length ys.length ≤ sizeLine) (rx : Vals xs us) (ry : Vals ys ws) (hL : s.heap.objs.size ≤ L)
    (hk : ∀ b o, s.heap.get? b = some o → h'.get? b = some o) (hS : h'.get? L = some { cls := .type "list", dict := none, data := .seq acc c, slots := #[] }) (hl : as.length = min xs.length ys.length)
    (hG : ZG (fun j v => us.toArray[j]? = some v) (fun j v => ws.toArray[j]? = some v) L h' as) (hacc : acc.toList = as.map Value.ref) :
    H L = none ∧ (∀ t ∈ as, H t = none) ∧ L ∉ as ∧ as.Nodup ∧ Inv X pins σ (upd (putP H as (xs.zip ys)) L (.lst (as.map V.ref))) { s with heap := h', toks := tk } := by
  have hSn : L ∉ as := fun z => Nat.lt_irrefl _ (hG.above _ z)
  have nd : as.Nodup := List.Pairwise.imp (fun {a b} (h : a < b) => Nat.ne_of_lt h) hG.rise
  have new : ∀ t ∈ as, H t = none := fun t ht => I.hok.fresh (Nat.le_of_lt (Nat.lt_of_le_of_lt hL (hG.above t ht)))
  have newS : H L = none := I.hok.fresh hL
  have hzl : as.length = (xs.zip ys).length := by rw [List.length_zip]; exact hl
  have atP := putP_at as (xs.zip ys) H hzl nd
  have off : ∀ b, b ∉ as → b ≠ L → (upd (putP H as (xs.zip ys)) L (.lst (as.map V.ref))) b = H b := fun b h1 h2 => by rw [upd_ne h2, putP_off as _ _ h1]
  have low : ∀ b o, s.heap.get? b = some o → b ∉ as ∧ b ≠ L := fun b o e => ⟨fun z => absurd (Nat.lt_of_lt_of_le (Heap.lt_size e) hL) (Nat.not_lt.mpr (Nat.le_of_lt (hG.above b z))), Nat.ne_of_lt (Nat.lt_of_lt_of_le (Heap.lt_size e) hL)⟩
  have kp : ∀ b u, H b = some u → (upd (putP H as (xs.zip ys)) L (.lst (as.map V.ref))) b = some u := fun b u e => by
    rw [off b (fun z => by rw [new b z] at e; cases e) (fun z => by rw [z, newS] at e; cases e)]
    exact e
  refine ⟨newS, new, hSn, nd, ?_⟩
  refine I.call' (ch := []) rfl ⟨fun b o q _ _ _ => hk b o q, fun b o q _ _ _ => ⟨o.slots, hk b o q⟩, fun b o q n _ => ?_, fun b o q _ => ⟨o, hk b o q⟩, fun b xs q => kp b _ q, fun b o u q => kp b _ q, fun b ps q => ⟨#[], by rw [kp b _ q]; simp⟩⟩ (fun b u q => ?_) I.bare fun b z => by simp at z
  · obtain ⟨z1, z2⟩ := low b o q
    rw [off b z1 z2]
    exact n
  · by_cases hb2 : b = L
    · rw [hb2] at q ⊢
      rw [upd_same] at q
      cases q
      refine ⟨by rw [List.length_map]; omega, acc.toList, c, by rw [hacc]; exact L2.vals_refs as, ?_⟩
      rw [Array.toArray_toList]
      exact hS
    · by_cases hb : b ∈ as
      · obtain ⟨j, e1⟩ := List.mem_iff_getElem?.mp hb
        obtain ⟨p, e2, e3⟩ := atP j b e1
        rw [upd_ne hb2, e3] at q
        cases q
        obtain ⟨x, y, f1, f2, f3⟩ := hG.pairs j b e1
        have e2' : (xs.zip ys)[j]? = some p := e2
        rw [List.getElem?_zip_eq_some] at e2'
        obtain ⟨g1, hu, r1⟩ := rx.get e2'.1
        obtain ⟨g2, hw, r2⟩ := ry.get e2'.2
        have c1 : x = g1 := by
          have : us.toArray[j]? = some g1 := by simpa using hu
          rw [this] at f1
          exact (Option.some.inj f1).symm
        have c2 : y = g2 := by
          have : ws.toArray[j]? = some g2 := by simpa using hw
          rw [this] at f2
          exact (Option.some.inj f2).symm
        subst c1 c2
        exact ⟨by show 2 ≤ sizeLine; decide, [x, y], .cons r1 (.cons r2 .nil), ⟨_, f3, rfl, _, rfl⟩⟩
      · rw [off b hb hb2] at q
        exact (I.hok b u q).stay (fun d v _ y => hk d v y) (fun d y => kp d _ y) fun d xs y => kp d _ y
def tListZip (K : PySem.W.Frag) (ta : TA) : TE := fun σ H Q => ta σ H fun vs H1 => ∃ k1 k2 a b xs ys, vs = [.ref a, .ref b] ∧ SqK k1 K H1 a xs ∧ SqK k2 K H1 b ys ∧ min xs.length ys.length ≤ sizeLine ∧
  ∀ (p : Addr) (ts : List Addr), H1 p = none → (∀ t ∈ ts, H1 t = none) → p ∉ ts → ts.Nodup → ts.length = min xs.length ys.length → Q (.ref p) (upd (putP H1 ts (xs.zip ys)) p (.lst (ts.map V.ref)))
theorem pe_listZip {e e2 : Expr} {ta : TA} {p p2 pos pos2 : Pos} (hc : X.calm = true) (ha : PA X [e, e2] ta) (hg : Gl X "list") (hm : X.mg "list" = none) (hg2 : Gl X "zip") (hm2 : X.mg "zip" = none)
    (hs : starEach [e, e2] X.env = (false, eval e X.env) :: starEach [e2] X.env := by rfl) (hpl : (backTo pos2 (starEach [e2] X.env)).any (·.1) = false := by rfl)
    (hs1 : starEach [.Call (.Name "zip" p2) [e, e2] [] pos2] X.env = (false, eval (.Call (.Name "zip" p2) [e, e2] [] pos2) X.env) :: starEach [] X.env := by rfl) :
    PE X (.Call (.Name "list" p) [.Call (.Name "zip" p2) [e, e2] [] pos2] [] pos) (tListZip X.K ta) := by
  refine ⟨fun pins s σ H Q I h => ?_⟩
  refine wpAny_Call_Name_kw (ld_blt I hg hm bt_list ?_)
  refine PyProof.Rows.callWith_type1 ?_ hs1 rfl
  rw [hs1]
  show wpAny _ _ (spliced ((false, eval (.Call (.Name "zip" p2) [e, e2] [] pos2) X.env) :: backTo pos (starEach [] X.env))) _ _ s
  refine Calls.spliced_cons ?_
  refine wpAny_Call_Name_kw (ld_blt I hg2 hm2 PyProof.Rows.boot_zip (PyProof.Rows.callWith_type1 (thn (ha.run pos2 pins s σ H _ I h) fun us s1 ⟨vs, H1, I1, r1, q1⟩ => ?_) hs hpl))
  obtain ⟨k1, k2, a, b, xs, ys, ex, hqx, hqy, hmin, q⟩ := q1
  subst ex
  cases r1 with
  | cons r rr =>
    cases rr with
    | cons r' rr =>
      cases rr
      cases r
      cases r'
      obtain ⟨its, rv, c1, _⟩ := seq_of I1 hqx
      obtain ⟨its2, rv2, c2, _⟩ := seq_of I1 hqy
      have la : a < s1.heap.objs.size := isK_lt c1
      have lb : b < s1.heap.objs.size := isK_lt c2
      refine zip_begins2 (begins_k k1 a its.toArray) (begins_k k2 b its2.toArray) c1 c2 fun h' hz hTI hTO h1 h2 hsz hk => ?_
      refine Calls.spliced_nil ?_
      have sep : ZipSep2 (s1.heap.objs.size + 4) (s1.heap.objs.size + 2) (s1.heap.objs.size + 3) s1.heap.objs.size (s1.heap.objs.size + 1) (s1.heap.objs.size :: [a]) ((s1.heap.objs.size + 1) :: [b]) :=
        zip_sep2 (fun c hc => by rw [List.mem_singleton.mp hc]; exact la) (fun c hc => by rw [List.mem_singleton.mp hc]; exact lb)
      have D1 := draws_k (prog := X.prog) (w := X.w) (A := X.A.in1.in1.in1) k1 (I1.ok.hd hc) s1.heap.objs.size a (Nat.ne_of_lt la) its.toArray
      have D2 := draws_k (prog := X.prog) (w := X.w) (A := X.A.in1.in1.in1) k2 (I1.ok.hd hc) (s1.heap.objs.size + 1) b (Nat.ne_of_lt (Nat.lt_succ_of_lt lb)) its2.toArray
      have e5 : ∀ n : Nat, n < 5 → s1.heap.objs.size + n < h'.objs.size := fun n hn => by rw [hsz]; exact Nat.add_lt_add_left hn _
      have lo : Low (s1.heap.objs.size + 4) (s1.heap.objs.size + 2) (s1.heap.objs.size + 3) s1.heap.objs.size (s1.heap.objs.size + 1) h'.objs.size (s1.heap.objs.size :: [a]) ((s1.heap.objs.size + 1) :: [b]) :=
        ⟨e5 4 (by decide), e5 2 (by decide), e5 3 (by decide), fun c hc => by
          rcases List.mem_cons.mp hc with e | hc
          · rw [e]; exact e5 0 (by decide)
          · rw [List.mem_singleton.mp hc]; exact Nat.lt_trans la (e5 0 (by decide)), fun c hc => by
          rcases List.mem_cons.mp hc with e | hc
          · rw [e]; exact e5 1 (by decide)
          · rw [List.mem_singleton.mp hc]; exact Nat.lt_trans lb (e5 0 (by decide))⟩
      have lx : its.toArray.size = xs.length := by rw [List.size_toArray, rv.length]
      have ly : its2.toArray.size = ys.length := by rw [List.size_toArray, rv2.length]
      have kA : ∀ (k : Bool) (c : Addr) (l : Array Value), IsK k s1.heap c l → IsK k h' c l := fun k c l x => (begins_k k c l).keeps _ _ x hk
      refine zs_call (s := { s1 with heap := h' }) sep lo D1 D2 (by rw [lx, ly]; exact hmin) hz ⟨hTI, ⟨itK_new h1, kA _ _ _ c1⟩, ⟨itK_new h2, kA _ _ _ c2⟩, .inl ⟨rfl, hz, _, _, hTO⟩⟩ fun h'' tk acc c as hk2 hS hl hG hacc => ?_
      have low : ∀ (c : Addr) (n : Nat), c < s1.heap.objs.size → c ≠ s1.heap.objs.size + n := fun c n h => Nat.ne_of_lt (Nat.lt_of_lt_of_le h (Nat.le_add_right _ _))
      obtain ⟨f1, f2, f3, f4, J⟩ := zip_laid (tk := tk) (L := h'.objs.size) I1 hmin rv rv2 (by rw [hsz]; exact Nat.le_add_right _ _)
        (fun c o e => hk2 c o (low c 4 (Heap.lt_size e)) (low c 3 (Heap.lt_size e)) (low c 0 (Heap.lt_size e)) (low c 1 (Heap.lt_size e)) (hk c o e)) hS (by rw [hl, lx, ly]) hG hacc
      exact ⟨.ref _, _, J, rfl, q _ as f1 f2 f3 f4 (by rw [hl, lx, ly])⟩
end
end LZ
namespace PD
open PySem PySem.Spec PyProof.Rows L2 LZ
variable {X : Cx} {W : WX}
theorem putP_dq {K : PySem.W.Frag} {ph : Fx} {am : Am} : ∀ {xs ys : List V} {ds es : List PyData} {ts : List Addr} {H : Hp}, DqAll K (hid ph am H) xs ds → DqAll K (hid ph am H) ys es → (∀ b, Hid ph am b → ∃ o, H b = some o) → (∀ t ∈ ts, H t = none) → ts.Nodup → ts.length = min xs.length ys.length →
    Same H (putP H ts (xs.zip ys)) ∧ DqAll K (hid ph am (putP H ts (xs.zip ys))) (ts.map V.ref) (pairL ds es)
  | [], ys, ds, es, ts, H, hx, hy, _, _, _, hl => by
    cases hx
    have e : ts = [] := List.length_eq_zero_iff.mp (by simpa using hl)
    subst e
    exact ⟨Same.refl H, .nil⟩
  | x :: xs, [], ds, es, ts, H, hx, hy, _, _, _, hl => by
    cases hy
    have e : ts = [] := List.length_eq_zero_iff.mp (by simpa using hl)
    subst e
    cases hx
    exact ⟨Same.refl H, .nil⟩
  | x :: xs, y :: ys, ds, es, [], H, hx, hy, _, _, _, hl => by simp at hl
  | x :: xs, y :: ys, ds, es, t :: ts, H, hx, hy, hn, ht, nd, hl => by
    cases hx with
    | cons hx1 hx2 =>
      cases hy with
      | cons hy1 hy2 =>
        have nt : H t = none := ht t (List.mem_cons_self ..)
        have s1 : Same H (upd H t (.tup [x, y])) := same_new nt
        have nd' := List.nodup_cons.mp nd
        obtain ⟨s2, d2⟩ := putP_dq (ts := ts) (H := upd H t (.tup [x, y])) (dps_mono (hid_same s1) hx2) (dps_mono (hid_same s1) hy2) (fun b h => let ⟨o, e⟩ := hn b h; ⟨o, s1 _ _ e⟩)
          (fun u hu => by rw [upd_ne (fun z => nd'.1 (by rw [← z]; exact hu))]; exact ht u (List.mem_cons_of_mem _ hu)) nd'.2 (by simpa using hl)
        refine ⟨fun b o e => s2 _ _ (s1 _ _ e), .cons ?_ d2⟩
        exact dp_mono (hid_same s2) (new_tup hn nt (.cons hx1 (.cons hy1 .nil)))
theorem df_listZip {e e2 : Expr} {fs : M (List PyData)} {p p2 pos pos2 : Pos} (h : DA X W [e, e2] fs) (hm : X.mg "list" = none) (hm2 : X.mg "zip" = none) (hc : X.calm = true := by rfl) (hg : Gl X "list" := by rfl) (hg2 : Gl X "zip" := by rfl)
    (hs : starEach [e, e2] X.env = (false, eval e X.env) :: starEach [e2] X.env := by rfl) (hpl : (backTo pos2 (starEach [e2] X.env)).any (·.1) = false := by rfl)
    (hs1 : starEach [.Call (.Name "zip" p2) [e, e2] [] pos2] X.env = (false, eval (.Call (.Name "zip" p2) [e, e2] [] pos2) X.env) :: starEach [] X.env := by rfl) :
    DF X W (.Call (.Name "list" p) [.Call (.Name "zip" p2) [e, e2] [] pos2] [] pos) (xCallF listZipD fs) := by
  obtain ⟨ta, pa, qa⟩ := h.ex
  refine ⟨⟨_, pe_listZip hc pa hg hm hg2 hm2 hs hpl hs1, fun ph am σ H δ Q ans δ' s q k kx => ?_⟩⟩
  rcases bnd_some q with ⟨a, δ1, e1, q1⟩ | ⟨c, fs, e1, q1⟩
  · refine qa ph am σ H δ _ _ _ s e1 (fun d ed am1 v H1 st1 s1 d1 => ?_) (fun c fs z => by cases z)
    cases ed
    obtain ⟨z, e3, rfl, rfl⟩ := lif_some q1
    unfold listZipD at e3
    obtain ⟨l, e4, e5⟩ := Option.bind_eq_some_iff.mp e3
    obtain ⟨hz, rfl⟩ := if_some e5
    cases d1 with
    | nil => cases e4
    | cons h1 t1 =>
      cases t1 with
      | nil => cases e4
      | cons h2 t2 =>
        cases t2 with
        | cons _ _ => cases e4
        | nil =>
          unfold zipD at e4
          simp only at e4
          split at e4
          · rename_i xs ys r1 r2
            cases e4
            obtain ⟨k1, a, us, rfl, q1, z1⟩ := seq_rd h1 r1
            obtain ⟨k2, b, ws, rfl, q2, z2⟩ := seq_rd h2 r2
            have hl : min us.length ws.length ≤ sizeLine := by
              rw [pairL_length] at hz
              rw [z1.length, z2.length]
              exact le_line hz
            refine ⟨k1, k2, a, b, us, ws, rfl, sqK_hid q1, sqK_hid q2, hl, fun p ts np nts npt nd hlen => ?_⟩
            obtain ⟨sm, dq⟩ := putP_dq (ts := ts) (H := H1) z1 z2 (fun b h => s1.hidden h) nts nd hlen
            refine k _ rfl am1 p (ts.map V.ref) (putP H1 ts (us.zip ws)) (st1.none np) ?_ (st1.trans (Step.of sm)) (s1.same sm) dq (by rw [List.length_map, hlen]; exact hl)
            rw [putP_off ts _ _ npt]
            exact np
          · cases e4
  · subst q1
    exact qa ph am σ H δ _ _ _ s e1 (fun d ed => by cases ed) (fun c' fs' z => by cases z; exact kx _ _ rfl)
end PD
end

section
set_option Elab.async false
set_option linter.all false
set_option maxRecDepth 100000
namespace PD
open PySem
/-! ### loops and comprehensions by what holds behind j turns -/
theorem loop_inv {set : Tg} {b : MS} {ds : List PyData} {δ : Sg} (I : Nat → Sg → Prop) (h0 : I 0 δ)
    (step : ∀ (j : Nat) (d : PyData), ds[j]? = some d → ∀ δ, I j δ → ∃ δ1 δ2, set d δ = some δ1 ∧ b δ1 = some (.ok .nx, δ2) ∧ I (j + 1) δ2) :
    ∃ δ', loopD set b ds δ = some (.ok .nx, δ') ∧ I ds.length δ' := by
  induction ds generalizing δ I with
  | nil => exact ⟨δ, rfl, h0⟩
  | cons d ds ih =>
    obtain ⟨δ1, δ2, e1, e2, h1⟩ := step 0 d rfl δ h0
    obtain ⟨δ', e3, h2⟩ := ih (δ := δ2) (fun j => I (j + 1)) h1 fun j d' q δ hi => step (j + 1) d' q δ hi
    exact ⟨δ', by unfold loopD; rw [e1]; show (match b δ1 with | some (.ok .nx, δ2) => loopD set b ds δ2 | some (.ok .ct, δ2) => loopD set b ds δ2 | some (.ok .bk, δ2) => some (.ok .nx, δ2) | r => r) = _; rw [e2]; exact e3, h2⟩
/-- .. of a comprehension without tests: the j-th element is made in a state with I j -/
theorem comp_inv {is : List Nat} {set : Tg} {el : M PyData} {ds : List PyData} {acc : List PyData} {δ : Sg} (I : Nat → List PyData → Sg → Prop) (h0 : I 0 acc δ) (hl : acc.length + ds.length ≤ 1000000)
    (step : ∀ (j : Nat) (d : PyData), ds[j]? = some d → ∀ acc δ, I j acc δ → ∃ δ1 y δ3, set d δ = some δ1 ∧ el δ1 = some (.ok y, δ3) ∧ noOw δ3 is = true ∧ I (j + 1) (acc ++ [y]) (wipeD δ3 is)) :
    ∃ acc' δ', compD is set (PD.ret true) el ds acc δ = some (acc', δ') ∧ I ds.length acc' δ' := by
  induction ds generalizing δ acc I with
  | nil => exact ⟨acc, δ, rfl, h0⟩
  | cons d ds ih =>
    obtain ⟨δ1, y, δ3, e1, e2, n, h1⟩ := step 0 d rfl acc δ h0
    have hl' : (acc ++ [y]).length + ds.length ≤ 1000000 := by simp at hl ⊢; omega
    obtain ⟨acc', δ', e3, h2⟩ := ih (δ := wipeD δ3 is) (acc := acc ++ [y]) (fun j => I (j + 1)) h1 hl' fun j d' q a δ hi => step (j + 1) d' q a δ hi
    refine ⟨acc', δ', ?_, h2⟩
    have hs : acc.length < sizeLine := by rw [sizeLine_eq]; simp at hl; omega
    unfold compD
    simp only [e1, e2, PD.ret, hs, n, and_self, if_true, e3]
/-- .. whose elements leave the state as it was -/
theorem comp_map {is : List Nat} {set : Tg} {el : M PyData} {ds : List PyData} {acc : List PyData} {δ : Sg} (f : PyData → PyData) (hl : acc.length + ds.length ≤ 1000000)
    (step : ∀ d, d ∈ ds → ∃ δ1 δ3, set d δ = some δ1 ∧ el δ1 = some (.ok (f d), δ3) ∧ noOw δ3 is = true ∧ wipeD δ3 is = δ) :
    compD is set (PD.ret true) el ds acc δ = some (acc ++ ds.map f, δ) := by
  induction ds generalizing acc with
  | nil => simp [compD]
  | cons d ds ih =>
    obtain ⟨δ1, δ3, e1, e2, n, h1⟩ := step d (List.mem_cons_self ..)
    have hs : acc.length < sizeLine := by rw [sizeLine_eq]; simp at hl; omega
    unfold compD
    simp only [e1, e2, PD.ret, hs, n, and_self, if_true, h1]
    have q := ih (acc := acc ++ [f d]) (by simp at hl ⊢; omega) fun d' h => step d' (List.mem_cons_of_mem _ h)
    unfold PD.ret at q
    rw [q]
    simp
theorem pairL_ints : ∀ l m : List Int, pairL (l.map .int) (m.map .int) = List.zipWith (fun x y => PyData.tuple [.int x, .int y]) l m
  | [], _ => by simp [pairL]
  | _ :: _, [] => by simp [pairL]
  | x :: l, y :: m => by simp [pairL, pairL_ints l m]
theorem xComp_eq {it : M (List PyData)} {is : List Nat} {set : Tg} {t : M Bool} {el : M PyData} {δ δ1 δ' : Sg} {ds acc : List PyData} (h : it δ = some (.ok ds, δ1)) (n : noOw δ1 is = true) (hc : compD is set t el ds [] (wipeD δ1 is) = some (acc, δ')) :
    xComp it is set t el δ = some (.ok acc, backD δ1 δ' is) := by
  unfold xComp bnd
  rw [h]
  simp only [n, if_true, hc]
theorem bnd_eq {α β : Type} {f : M α} {g : α → M β} {δ δ1 : Sg} {a : α} (h : f δ = some (.ok a, δ1)) : bnd f g δ = g a δ1 := by
  unfold bnd
  rw [h]
theorem sSeq_eq {f g : MS} {δ δ1 : Sg} (h : f δ = some (.ok .nx, δ1)) : sSeq f g δ = g δ1 := by
  unfold sSeq
  rw [h]
end PD
end

section
set_option Elab.async false
set_option linter.all false
set_option maxRecDepth 100000
namespace PD
open PySem
/-! ### what holds behind a run of a plain function: rules by the head of the term -/
def Gd {α : Type} (f : M α) (δ : Sg) (Q : α → Sg → Prop) : Prop := ∃ a δ', f δ = some (.ok a, δ') ∧ Q a δ'
inductive At : Sg → Nat → Cell → Prop
  | z {c : Cell} {δ : Sg} : At (c :: δ) 0 c
  | s {c d : Cell} {δ : Sg} {i : Nat} : At δ i c → At (d :: δ) (i + 1) c
inductive Put : Sg → Nat → Cell → Sg → Prop
  | z {c d : Cell} {δ : Sg} : Put (d :: δ) 0 c (c :: δ)
  | s {c d : Cell} {δ δ' : Sg} {i : Nat} : Put δ i c δ' → Put (d :: δ) (i + 1) c (d :: δ')
theorem At.get {δ : Sg} {i : Nat} {c : Cell} (h : At δ i c) : δ[i]? = some c := by
  induction h with
  | z => rfl
  | s _ ih => simpa using ih
theorem Put.set {δ δ' : Sg} {i : Nat} {c : Cell} (h : Put δ i c δ') : δ.set i c = δ' := by
  induction h with
  | z => rfl
  | s _ ih => simp [ih]
variable {α β : Type} {δ δ' δ1 : Sg} {i : Nat} {d : PyData} {ds os : List PyData}
theorem Gd.imp {f : M α} {Q R : α → Sg → Prop} (h : Gd f δ Q) (q : ∀ a δ', Q a δ' → R a δ') : Gd f δ R :=
  let ⟨a, δ', e, h⟩ := h
  ⟨a, δ', e, q a δ' h⟩
theorem w_eq {f : M α} {Q : α → Sg → Prop} {a : α} (e : f δ = some (.ok a, δ')) (h : Q a δ') : Gd f δ Q := ⟨a, δ', e, h⟩
theorem Gd.eq {f : M α} {a : α} (h : Gd f δ fun x y => x = a ∧ y = δ') : f δ = some (.ok a, δ') := by
  obtain ⟨x, y, e, rfl, rfl⟩ := h
  exact e
theorem w_ret {a : α} {Q : α → Sg → Prop} (h : Q a δ) : Gd (ret a) δ Q := ⟨a, δ, rfl, h⟩
theorem w_bnd {f : M α} {g : α → M β} {Q : β → Sg → Prop} (h : Gd f δ fun a δ1 => Gd (g a) δ1 Q) : Gd (bnd f g) δ Q := by
  obtain ⟨a, δ1, e, b, δ2, e2, h⟩ := h
  exact ⟨b, δ2, by rw [bnd_eq e, e2], h⟩
theorem w_lif {o : Option α} {a : α} {Q : α → Sg → Prop} (e : o = some a) (h : Q a δ) : Gd (lif o) δ Q := ⟨a, δ, by rw [e]; rfl, h⟩
theorem w_var {Q : PyData → Sg → Prop} (a : At δ i (.fz d)) (h : Q d δ) : Gd (xVar i) δ Q := ⟨d, δ, by unfold xVar; rw [a.get], h⟩
theorem w_varO {Q : PyData → Sg → Prop} (a : At δ i (.ow false ds)) (p : Put δ i (.fz (.list ds)) δ') (h : Q (.list ds) δ') : Gd (xVar i) δ Q := ⟨.list ds, δ', by unfold xVar; rw [a.get]; dsimp only; rw [p.set], h⟩
theorem w_bin {F : PyData → PyData → Option PyData} {f g : M PyData} {Q : PyData → Sg → Prop} (h : Gd f δ fun a δ1 => Gd g δ1 fun b δ2 => Gd (lif (F a b)) δ2 Q) : Gd (xBin F f g) δ Q := w_bnd (h.imp fun _ _ h => w_bnd h)
theorem w_un {F : PyData → Option PyData} {f : M PyData} {Q : PyData → Sg → Prop} (h : Gd f δ fun a δ1 => Gd (lif (F a)) δ1 Q) : Gd (xUn F f) δ Q := w_bnd h
theorem w_binF {F : PyData → PyData → Option (List PyData)} {f g : M PyData} {Q : List PyData → Sg → Prop} (h : Gd f δ fun a δ1 => Gd g δ1 fun b δ2 => Gd (lif (F a b)) δ2 Q) : Gd (xBinF F f g) δ Q := w_bnd (h.imp fun _ _ h => w_bnd h)
theorem w_tup {fs : M (List PyData)} {Q : PyData → Sg → Prop} (h : Gd fs δ fun ds δ1 => ds.length ≤ 1000000 ∧ Q (.tuple ds) δ1) : Gd (xTup fs) δ Q :=
  w_bnd (h.imp fun ds _ h => w_lif (if_pos (Nat.le_trans h.1 (by rw [sizeLine_eq]; decide))) h.2)
theorem w_lst {fs : M (List PyData)} {Q : List PyData → Sg → Prop} (h : Gd fs δ fun ds δ1 => ds.length ≤ 1000000 ∧ Q ds δ1) : Gd (xLst fs) δ Q :=
  w_bnd (h.imp fun ds _ h => w_lif (if_pos (Nat.le_trans h.1 (by rw [sizeLine_eq]; decide))) h.2)
theorem w_call {F : List PyData → Option PyData} {fs : M (List PyData)} {Q : PyData → Sg → Prop} (h : Gd fs δ fun ds δ1 => Gd (lif (F ds)) δ1 Q) : Gd (xCall F fs) δ Q := w_bnd h
theorem w_callF {F : List PyData → Option (List PyData)} {fs : M (List PyData)} {Q : List PyData → Sg → Prop} (h : Gd fs δ fun ds δ1 => Gd (lif (F ds)) δ1 Q) : Gd (xCallF F fs) δ Q := w_bnd h
theorem w_callF' {F : List PyData → Option (List PyData)} {fs : M (List PyData)} {Q : List PyData → Sg → Prop} (h : Gd fs δ fun ds δ1 => Gd (lif (F ds)) δ1 Q) : Gd (xCallF' F fs) δ Q := w_bnd h
theorem w_seqv {f : M PyData} {Q : List PyData → Sg → Prop} (h : Gd f δ fun d δ1 => Gd (lif (seqD d)) δ1 Q) : Gd (xSeq f) δ Q := w_bnd h
theorem w_tru {f : M PyData} {Q : Bool → Sg → Prop} (h : Gd f δ fun d δ1 => Gd (lif (truthD d)) δ1 Q) : Gd (xTru f) δ Q := w_bnd h
theorem w_bool {f : M PyData} {Q : Bool → Sg → Prop} (h : Gd f δ fun d δ1 => Gd (lif (boolD d)) δ1 Q) : Gd (xBool f) δ Q := w_bnd h
theorem w_cond {b : Bool} {f g : M α} {Q : α → Sg → Prop} (h : Gd (cond b f g) δ Q) : Gd (if b = true then f else g) δ Q := by cases b <;> exact h
theorem w_andT {f g : M Bool} {Q : Bool → Sg → Prop} (h : Gd f δ fun b δ1 => Gd (cond b g (ret false)) δ1 Q) : Gd (xAndT f g) δ Q := w_bnd (h.imp fun _ _ h => w_cond h)
theorem w_orT {f g : M Bool} {Q : Bool → Sg → Prop} (h : Gd f δ fun b δ1 => Gd (cond b (ret true) g) δ1 Q) : Gd (xOrT f g) δ Q := w_bnd (h.imp fun _ _ h => w_cond h)
theorem w_notT {f : M Bool} {Q : Bool → Sg → Prop} (h : Gd f δ fun b δ1 => Q (!b) δ1) : Gd (xNotT f) δ Q := w_bnd (h.imp fun _ _ h => w_ret h)
/-- `and` by what the left side is -/
theorem w_and {f g : M PyData} {Q : PyData → Sg → Prop} (h : Gd f δ fun d δ1 => ∃ b, d = .bool b ∧ Gd (cond b g (ret (.bool false))) δ1 Q) : Gd (xAnd f g) δ Q :=
  w_bnd (h.imp fun d _ h => by
    obtain ⟨b, rfl, h⟩ := h
    cases b
    · exact h
    · exact h)
theorem w_or {f g : M PyData} {Q : PyData → Sg → Prop} (h : Gd f δ fun d δ1 => ∃ b, d = .bool b ∧ Gd (cond b (ret (.bool true)) g) δ1 Q) : Gd (xOr f g) δ Q :=
  w_bnd (h.imp fun d _ h => by
    obtain ⟨b, rfl, h⟩ := h
    cases b
    · exact h
    · exact h)
theorem w_not {f : M PyData} {Q : PyData → Sg → Prop} (h : Gd f δ fun d δ1 => ∃ b, d = .bool b ∧ Q (.bool (!b)) δ1) : Gd (xNot f) δ Q :=
  w_bnd (h.imp fun d _ h => by
    obtain ⟨b, rfl, h⟩ := h
    exact w_ret h)
theorem w_if {c : M Bool} {f g : M α} {Q : α → Sg → Prop} (h : Gd c δ fun b δ1 => Gd (cond b f g) δ1 Q) : Gd (xIf c f g) δ Q := w_bnd (h.imp fun _ _ h => w_cond h)
theorem w_it {f g : M α} {Q : α → Sg → Prop} (h : Gd f δ Q) : Gd (cond true f g) δ Q := h
theorem w_ie {f g : M α} {Q : α → Sg → Prop} (h : Gd g δ Q) : Gd (cond false f g) δ Q := h
theorem w_by {b : Bool} {f g : M α} {Q : α → Sg → Prop} (h : b = true → Gd f δ Q) (k : b = false → Gd g δ Q) : Gd (cond b f g) δ Q := by
  cases b
  · exact k rfl
  · exact h rfl
theorem w_chain {F G : PyData → PyData → Option PyData} {f g h : M PyData} {Q : PyData → Sg → Prop} (q : Gd f δ fun a δ1 => Gd g δ1 fun b δ2 => ∃ z, F a b = some (.bool z) ∧ Gd (cond z (bnd h fun c => lif (G b c)) (ret (.bool false))) δ2 Q) : Gd (xChain F G f g h) δ Q :=
  w_bnd (q.imp fun a _ q => w_bnd (q.imp fun b δ2 q => by
    obtain ⟨z, e, q⟩ := q
    refine w_bnd (w_lif e ?_)
    cases z
    · exact q
    · exact q))
/-! statements -/
def Nx (h : MS) (Q : Flo → Sg → Prop) (fl : Flo) (δ : Sg) : Prop := match fl with
  | .nx => Gd h δ Q
  | fl => Q fl δ
theorem nx_nx {h : MS} {Q : Flo → Sg → Prop} (q : Gd h δ Q) : Nx h Q .nx δ := q
theorem nx_rt {h : MS} {Q : Flo → Sg → Prop} (q : Q (.rt d) δ) : Nx h Q (.rt d) δ := q
theorem nx_rf {h : MS} {Q : Flo → Sg → Prop} (q : Q (.rf ds) δ) : Nx h Q (.rf ds) δ := q
theorem nx_bk {h : MS} {Q : Flo → Sg → Prop} (q : Q .bk δ) : Nx h Q .bk δ := q
theorem nx_ct {h : MS} {Q : Flo → Sg → Prop} (q : Q .ct δ) : Nx h Q .ct δ := q
theorem w_seq {g h : MS} {Q : Flo → Sg → Prop} (q : Gd g δ (Nx h Q)) : Gd (sSeq g h) δ Q := by
  obtain ⟨fl, δ1, e, q⟩ := q
  cases fl with
  | nx =>
    obtain ⟨a, δ2, e2, q⟩ := (q : Gd h δ1 Q)
    exact ⟨a, δ2, by rw [sSeq_eq e, e2], q⟩
  | bk => exact ⟨_, _, by unfold sSeq; rw [e], q⟩
  | ct => exact ⟨_, _, by unfold sSeq; rw [e], q⟩
  | rt d => exact ⟨_, _, by unfold sSeq; rw [e], q⟩
  | rf d => exact ⟨_, _, by unfold sSeq; rw [e], q⟩
  | ro d => exact ⟨_, _, by unfold sSeq; rw [e], q⟩
theorem w_skip {Q : Flo → Sg → Prop} (h : Q .nx δ) : Gd sSkip δ Q := w_ret h
theorem w_sret {f : M PyData} {Q : Flo → Sg → Prop} (h : Gd f δ fun d δ1 => Q (.rt d) δ1) : Gd (sRet f) δ Q := w_bnd (h.imp fun _ _ h => w_ret h)
theorem w_sretF {f : M (List PyData)} {Q : Flo → Sg → Prop} (h : Gd f δ fun d δ1 => Q (.rf d) δ1) : Gd (sRetF f) δ Q := w_bnd (h.imp fun _ _ h => w_ret h)
theorem w_sif {c : M Bool} {g h : MS} {Q : Flo → Sg → Prop} (q : Gd c δ fun b δ1 => Gd (cond b g h) δ1 Q) : Gd (sIf c g h) δ Q := w_bnd (q.imp fun _ _ h => w_cond h)
def Gs (s : Tg) (d : PyData) (δ : Sg) (Q : Sg → Prop) : Prop := ∃ δ', s d δ = some δ' ∧ Q δ'
def Gss (s : Tgs) (ds : List PyData) (δ : Sg) (Q : Sg → Prop) : Prop := ∃ δ', s ds δ = some δ' ∧ Q δ'
theorem w_name {Q : Sg → Prop} {c : Cell} (a : At δ i c) (f : c.free = true) (p : Put δ i (.fz d) δ') (h : Q δ') : Gs (sName i) d δ Q := ⟨δ', by unfold sName; rw [a.get]; dsimp only; rw [if_pos f, p.set], h⟩
theorem w_snil {Q : Sg → Prop} (h : Q δ) : Gss sNil [] δ Q := ⟨δ, rfl, h⟩
theorem w_scons {s : Tg} {r : Tgs} {Q : Sg → Prop} (h : Gs s d δ fun δ1 => Gss r ds δ1 Q) : Gss (sCons s r) (d :: ds) δ Q := by
  obtain ⟨δ1, e, δ2, e2, h⟩ := h
  exact ⟨δ2, by unfold sCons; dsimp only; rw [e]; exact e2, h⟩
theorem w_stup {n : Nat} {r : Tgs} {Q : Sg → Prop} (l : ds.length = n) (h : Gss r ds δ Q) : Gs (sTup n r) (.tuple ds) δ Q := by
  obtain ⟨δ1, e, h⟩ := h
  exact ⟨δ1, by unfold sTup; dsimp only; rw [if_pos l]; exact e, h⟩
theorem w_asg {f : M PyData} {s : Tg} {Q : Flo → Sg → Prop} (h : Gd f δ fun d δ1 => Gs s d δ1 (Q .nx)) : Gd (sAsg f s) δ Q := w_bnd (h.imp fun d δ1 h => by
  obtain ⟨δ2, e, h⟩ := h
  exact ⟨.nx, δ2, by dsimp only; rw [e], h⟩)
theorem w_own {f : M (List PyData)} {Q : Flo → Sg → Prop} (h : Gd f δ fun ds δ1 => ∃ c δ2, At δ1 i c ∧ c.free = true ∧ Put δ1 i (.ow false ds) δ2 ∧ Q .nx δ2) : Gd (sOwn f i) δ Q := w_bnd (h.imp fun ds δ1 h => by
  obtain ⟨c, δ2, a, f, p, h⟩ := h
  exact ⟨.nx, δ2, by dsimp only; rw [a.get]; dsimp only; rw [if_pos f, p.set], h⟩)
theorem w_ixO {g : M PyData} {b : Bool} {Q : PyData → Sg → Prop} (a : At δ i (.ow b ds)) (h : Gd g δ fun k δ1 => ∃ b' ds', At δ1 i (.ow b' ds') ∧ Gd (lif (ixD (.list ds') k)) δ1 Q) : Gd (xIxO i g) δ Q := by
  obtain ⟨k, δ1, e, b', ds', a', h⟩ := h
  obtain ⟨v, δ2, e2, h⟩ := h
  exact ⟨v, δ2, by unfold xIxO; rw [a.get]; try dsimp only; rw [bnd_eq e]; (try dsimp only); rw [a'.get]; exact e2, h⟩
theorem w_lenO {b : Bool} {Q : PyData → Sg → Prop} (a : At δ i (.ow b ds)) (h : Q (.int ds.length) δ) : Gd (xLenO i) δ Q := ⟨_, _, by unfold xLenO; rw [a.get], h⟩
theorem w_app {f : M PyData} {b : Bool} {Q : Flo → Sg → Prop} (a : At δ i (.ow b ds)) (h : Gd f δ fun d δ1 => ∃ b' ds' δ2, At δ1 i (.ow b' ds') ∧ ds'.length < 1000000 ∧ Put δ1 i (.ow b' (ds' ++ [d])) δ2 ∧ Q .nx δ2) : Gd (sApp i f) δ Q := by
  obtain ⟨k, δ1, e, b', ds', δ2, a', l, p, h⟩ := h
  exact ⟨.nx, δ2, by unfold sApp; rw [a.get]; dsimp only; rw [bnd_eq e]; (try dsimp only); rw [a'.get]; dsimp only; rw [if_pos (Nat.lt_of_lt_of_le l (by rw [sizeLine_eq]; decide)), p.set], h⟩
theorem w_sub {f g : M PyData} {Q : Flo → Sg → Prop} (h : Gd f δ fun d δ1 => ∃ b ds, At δ1 i (.ow b ds) ∧ Gd g δ1 fun k δ2 => ∃ b' ds' n j δ3, k = .int n ∧ At δ2 i (.ow b' ds') ∧ L2.ixN ds'.length n = some j ∧ Put δ2 i (.ow b' (ds'.set j d)) δ3 ∧ Q .nx δ3) : Gd (sSub f i g) δ Q := w_bnd (h.imp fun d δ1 h => by
  obtain ⟨b, ds, a, k, δ2, e, b', ds', n, j, δ3, rfl, a', ej, p, h⟩ := h
  exact ⟨.nx, δ3, by dsimp only; rw [a.get]; dsimp only; rw [bnd_eq e]; (try dsimp only); rw [a'.get]; dsimp only; rw [ej]; dsimp only; rw [p.set], h⟩)
theorem w_cmpO {F : PyData → PyData → Option PyData} {g : M PyData} {b : Bool} {Q : PyData → Sg → Prop} (a : At δ i (.ow b ds)) (h : Gd g δ fun k δ1 => ∃ b' ds' c, At δ1 i (.ow b' ds') ∧ F (.list ds') k = some (.bool c) ∧ Q (.bool c) δ1) : Gd (xCmpO F i g) δ Q := by
  obtain ⟨k, δ1, e, b', ds', c, a', e2, h⟩ := h
  exact ⟨_, δ1, by unfold xCmpO; rw [a.get]; dsimp only; rw [bnd_eq e]; (try dsimp only); rw [a'.get]; dsimp only; rw [e2], h⟩
/-! calls -/
theorem w_def {G : Sg → Option (Ans PyData × Sg)} {fs : M (List PyData)} {Q : PyData → Sg → Prop} (h : Gd fs δ fun ds δ1 => ∃ d o, G (ds.map .fz) = some (.ok d, o) ∧ Q d δ1) : Gd (xDef G fs) δ Q := w_bnd (h.imp fun ds δ1 h => by
  obtain ⟨d, o, e, h⟩ := h
  exact ⟨d, δ1, by dsimp only; rw [e], h⟩)
theorem w_defF {G : Sg → Option (Ans (List PyData) × Sg)} {fs : M (List PyData)} {Q : List PyData → Sg → Prop} (h : Gd fs δ fun ds δ1 => ∃ d o, G (ds.map .fz) = some (.ok d, o) ∧ Q d δ1) : Gd (xDefF G fs) δ Q := w_bnd (h.imp fun ds δ1 h => by
  obtain ⟨d, o, e, h⟩ := h
  exact ⟨d, δ1, by dsimp only; rw [e], h⟩)
theorem w_defT {G : Sg → Option (Ans PyData × Sg)} {fs : M (List PyData)} {Q : PyData → Sg → Prop} (h : Gd fs δ fun ds δ1 => ∃ d o, G [.ow true ds] = some (.ok d, o) ∧ Q d δ1) : Gd (xDefT G fs) δ Q := w_bnd (h.imp fun ds δ1 h => by
  obtain ⟨d, o, e, h⟩ := h
  exact ⟨d, δ1, by dsimp only; rw [e], h⟩)
theorem w_defO {G : Sg → Option (Ans PyData × Sg)} {fs : M (List PyData)} {b : Bool} {Q : PyData → Sg → Prop} (a : At δ i (.ow b os)) (h : Gd fs δ fun ds δ1 => ∃ b' os' b'' os'' d o δ2, At δ1 i (.ow b' os') ∧ G (.ow true os' :: ds.map .fz) = some (.ok d, .ow b'' os'' :: o) ∧ Put δ1 i (.ow b' os'') δ2 ∧ Q d δ2) : Gd (xDefO G i fs) δ Q := by
  obtain ⟨ds, δ1, e, b', os', b'', os'', d, o, δ2, a', e2, p, h⟩ := h
  exact ⟨d, δ2, by unfold xDefO; rw [a.get]; dsimp only; rw [bnd_eq e]; (try dsimp only); rw [a'.get]; dsimp only; rw [e2]; dsimp only; rw [p.set], h⟩
theorem w_def2 {G : Sg → Option (Ans PyData × Sg)} {j : Nat} {b c b1 b2 : Bool} {os us os' us' : List PyData} {δ1 δ2 : Sg} {Q : PyData → Sg → Prop} (a : At δ i (.ow b os)) (a2 : At δ j (.ow c us)) (n : i ≠ j)
    (e : G [.ow true os, .ow true us] = some (.ok d, [.ow b1 os', .ow b2 us'])) (p : Put δ i (.ow b os') δ1) (p2 : Put δ1 j (.ow c us') δ2) (h : Q d δ2) : Gd (xDef2 G i j) δ Q :=
  ⟨d, δ2, by unfold xDef2; rw [a.get, a2.get]; dsimp only; rw [if_pos n, e]; dsimp only; rw [p.set, p2.set], h⟩
theorem w_orF {f g : M (List PyData)} {Q : List PyData → Sg → Prop} (h : Gd f δ fun ds δ1 => Gd (cond ds.isEmpty g (ret ds)) δ1 Q) : Gd (xOrF f g) δ Q := w_bnd (h.imp fun _ _ h => w_cond h)
theorem w_part {f : M PyData} {Q : Option Int → Sg → Prop} (h : Gd f δ fun d δ1 => ∃ n, d = .int n ∧ Q (some n) δ1) : Gd (xPart f) δ Q := w_bnd (h.imp fun d δ1 h => by
  obtain ⟨n, rfl, h⟩ := h
  exact w_lif rfl h)
theorem w_sl {f : M PyData} {lo hi : M (Option Int)} {Q : PyData → Sg → Prop} (h : Gd f δ fun d δ1 => Gd lo δ1 fun l δ2 => Gd hi δ2 fun u δ3 => Gd (lif (sliceD d l u)) δ3 Q) : Gd (xSl f lo hi) δ Q := w_bnd (h.imp fun _ _ h => w_bnd (h.imp fun _ _ h => w_bnd h))
theorem w_repF {fs : M (List PyData)} {g : M PyData} {Q : List PyData → Sg → Prop} (h : Gd fs δ fun ds δ1 => Gd g δ1 fun b δ2 => ∃ n : Nat, b = .int n ∧ ds.length * n ≤ 1000000 ∧ n ≤ 1000000 ∧ Q (List.replicate n ds).flatten δ2) : Gd (xRepF fs g) δ Q := w_bnd (h.imp fun ds _ h => w_bnd (h.imp fun b _ h => by
  obtain ⟨n, rfl, l, l2, h⟩ := h
  refine w_lif ?_ h
  dsimp only
  rw [if_pos ⟨by omega, by omega, Nat.le_trans (by simpa using l) (by rw [sizeLine_eq]; decide)⟩]
  simp))
/-! loops and comprehensions -/
theorem w_loop {set : Tg} {b : MS} {Q : Flo → Sg → Prop} (I : Nat → Sg → Prop) (h0 : I 0 δ)
    (step : ∀ (j : Nat) (d : PyData), ds[j]? = some d → ∀ δ, I j δ → Gs set d δ fun δ1 => Gd b δ1 fun fl δ2 => fl = .nx ∧ I (j + 1) δ2) (h : ∀ δ', I ds.length δ' → Q .nx δ') : Gd (loopD set b ds) δ Q := by
  obtain ⟨δ', e, q⟩ := loop_inv (set := set) (b := b) I h0 fun j d e δ hi => by
    obtain ⟨δ1, e1, fl, δ2, e2, rfl, h⟩ := step j d e δ hi
    exact ⟨δ1, δ2, e1, e2, h⟩
  exact ⟨.nx, δ', e, h δ' q⟩
theorem w_for {it : M (List PyData)} {set : Tg} {b : MS} {Q : Flo → Sg → Prop} (h : Gd it δ fun ds δ1 => Gd (loopD set b ds) δ1 Q) : Gd (sFor it set b) δ Q := w_bnd h
/-- the names of a comprehension: wiped and given back -/
theorem w_comp {it : M (List PyData)} {is : List Nat} {set : Tg} {t : M Bool} {el : M PyData} {Q : List PyData → Sg → Prop}
    (h : Gd it δ fun ds δ1 => noOw δ1 is = true ∧ ∃ acc δ2, compD is set t el ds [] (wipeD δ1 is) = some (acc, δ2) ∧ Q acc (backD δ1 δ2 is)) : Gd (xComp it is set t el) δ Q := by
  obtain ⟨ds, δ1, e, n, acc, δ2, e2, h⟩ := h
  exact ⟨acc, _, xComp_eq e n e2, h⟩
/-- a comprehension whose elements are made by a plain function and leave the state -/
theorem comp_fun {is : List Nat} {set : Tg} {el : M PyData} (f : PyData → PyData) (hl : ds.length ≤ 1000000)
    (step : ∀ d, d ∈ ds → Gs set d δ fun δ1 => Gd el δ1 fun y δ3 => y = f d ∧ noOw δ3 is = true ∧ wipeD δ3 is = δ) : compD is set (ret true) el ds [] δ = some (ds.map f, δ) := by
  have q := comp_map (is := is) (set := set) (el := el) (ds := ds) (acc := []) (δ := δ) f (by simpa using hl) fun d hd => by
    obtain ⟨δ1, e1, y, δ3, e2, rfl, n, w⟩ := step d hd
    exact ⟨δ1, δ3, e1, e2, n, w⟩
  simpa using q
theorem w_runD {m : Nat} {g : MS} {cells out : Sg} (h : Gd g (cells ++ List.replicate (m - cells.length) .un) fun fl δ' => fl = .rt d ∧ keepO cells δ' = some out) : runD m g cells = some (.ok d, out) := by
  obtain ⟨fl, δ', e, rfl, k⟩ := h
  unfold runD
  rw [e]
  dsimp only
  rw [k]
  rfl
theorem w_runDF {m : Nat} {g : MS} {cells out : Sg} (h : Gd g (cells ++ List.replicate (m - cells.length) .un) fun fl δ' => fl = .rf ds ∧ keepO cells δ' = some out) : runD m g cells = some (.ok (.list ds), out) := by
  obtain ⟨fl, δ', e, rfl, k⟩ := h
  unfold runD
  rw [e]
  dsimp only
  rw [k]
  rfl
theorem w_runF {m : Nat} {g : MS} {cells out : Sg} (h : Gd g (cells ++ List.replicate (m - cells.length) .un) fun fl δ' => fl = .rf ds ∧ keepO cells δ' = some out) : runF m g cells = some (.ok ds, out) := by
  obtain ⟨fl, δ', e, rfl, k⟩ := h
  unfold runF
  rw [e]
  dsimp only
  rw [k]
  rfl
/-! operations at numbers -/
theorem o_add (x y : Int) : addD (.int x) (.int y) = some (.int (x + y)) := rfl
theorem o_sub (x y : Int) : subD (.int x) (.int y) = some (.int (x - y)) := rfl
theorem o_mul {x y : Int} (h : mulOk x y = true) : mulD (.int x) (.int y) = some (.int (x * y)) := by unfold mulD mulI intsD; dsimp only; rw [if_pos h]
theorem o_mod {x y : Int} (h : y ≠ 0) : modD (.int x) (.int y) = some (.int (x.fmod y)) := by unfold modD intsD; dsimp only; rw [if_pos (by simpa using h)]
theorem o_div {x y : Int} (h : divOk y = true) : fdivD (.int x) (.int y) = some (.int (x.fdiv y)) := by unfold fdivD intsD; dsimp only; rw [if_pos h]
theorem o_lt (x y : Int) : ltD (.int x) (.int y) = some (.bool (decide (x < y))) := rfl
theorem o_le (x y : Int) : leD (.int x) (.int y) = some (.bool (decide (x ≤ y))) := rfl
theorem o_gt (x y : Int) : gtD (.int x) (.int y) = some (.bool (decide (y < x))) := rfl
theorem o_ge (x y : Int) : geD (.int x) (.int y) = some (.bool (decide (y ≤ x))) := rfl
theorem o_eqI (x y : Int) : eqD (.int x) (.int y) = some (.bool (decide (x = y))) := by simp [eqD, SeqAt.shaped, PyData.eqv, PyData.canLay0, PyData.depth]; rfl
theorem o_zip {a b : PyData} {xs ys : List PyData} (h : seqD a = some xs) (h2 : seqD b = some ys) : zipD [a, b] = some (pairL xs ys) := by unfold zipD; dsimp only; rw [h, h2]
theorem o_bools (bs : List Bool) : bools? (bs.map .bool) = some bs := by
  induction bs with
  | nil => rfl
  | cons b bs ih => simp [bools?, ih]
theorem o_all (bs : List Bool) : allD [.list (bs.map .bool)] = some (.bool (bs.all id)) := by unfold allD; dsimp only; rw [o_bools]; rfl
theorem o_tup0 (n : Nat) (h : n ≤ 1000) : mulD (.tuple [.int 0]) (.int (n : Int)) = some (.tuple ((List.replicate n (0 : Int)).map .int)) := by
  simp [mulD, mulI, intsD, repT]
  omega
theorem noOw_nil : noOw δ [] = true := rfl
theorem free_un : Cell.free .un = true := rfl
theorem free_fz {d : PyData} : Cell.free (.fz d) = true := rfl
theorem free_ow {ds : List PyData} : Cell.free (.ow false ds) = true := rfl
theorem len1 {a : PyData} : [a].length = 1 := rfl
theorem len2 {a b : PyData} : [a, b].length = 2 := rfl
theorem len3 {a b c : PyData} : [a, b, c].length = 3 := rfl
theorem len_and {ds : List PyData} {R : Prop} (l : ds.length ≤ 1000000) (h : R) : ds.length ≤ 1000000 ∧ R := ⟨l, h⟩
end PD
end

local macro_rules | `(tactic| walk_at "wp") => `(tactic| (repeat' (with_reducible first | apply PD.w_bnd | apply PD.w_ret | (apply PD.w_var; (focus ((repeat (first | exact PD.At.z | apply PD.At.s)); done))) | apply PD.w_bin | apply PD.w_un | apply PD.w_binF | apply PD.w_tup | apply PD.w_lst | apply PD.w_call | apply PD.w_callF' | apply PD.w_callF | apply PD.w_seqv | apply PD.w_tru | apply PD.w_bool | apply PD.w_andT | apply PD.w_orT | apply PD.w_notT | apply PD.w_and | apply PD.w_or | apply PD.w_not | apply PD.w_if | apply PD.w_it | apply PD.w_ie | apply PD.w_chain | apply PD.w_seq | apply PD.nx_nx | apply PD.nx_rt | apply PD.nx_rf | apply PD.w_skip | apply PD.w_sret | apply PD.w_sretF | apply PD.w_sif | apply PD.w_asg | apply PD.w_for | apply PD.w_own | (apply PD.w_name; (focus ((repeat (first | exact PD.At.z | apply PD.At.s)); done)); (first | exact PD.free_fz | exact PD.free_un | exact PD.free_ow | assumption); (focus ((repeat (first | exact PD.Put.z | apply PD.Put.s)); done))) | apply PD.w_snil | apply PD.w_scons | (apply PD.w_stup; first | exact PD.len2 | exact PD.len3 | exact PD.len1) | apply PD.w_def | apply PD.w_defF | apply PD.w_defT | apply PD.w_orF | apply PD.w_part | apply PD.w_sl | apply PD.w_repF | apply PD.w_comp | (apply PD.len_and; (focus (simp only [List.length_cons, List.length_nil, Nat.zero_add, Nat.reduceAdd, Nat.reduceLeDiff]; done))))))
local macro_rules | `(tactic| walk_at "w_run") => `(tactic| ((first | refine PD.w_runD ?_ | refine PD.w_runF ?_) <;> simp only [List.length_cons, List.length_nil, List.replicate, List.cons_append, List.nil_append, Nat.reduceAdd, Nat.reduceSub, List.map_cons, List.map_nil]))
local macro_rules | `(tactic| walk_at "w_at") => `(tactic| (focus ((repeat (first | exact PD.At.z | apply PD.At.s)); done)))
local macro_rules | `(tactic| walk_at "w_put") => `(tactic| (focus ((repeat (first | exact PD.Put.z | apply PD.Put.s)); done)))

section
set_option linter.all false
set_option maxRecDepth 100000
namespace K01
open PySem PD

def B_is_figures : MS :=
  (sSeq (sIf (xOrT (xBool (xBin eqD (xVar 0) (ret (.str (PySem.Str.ofString ""))))) (xTru (xCall any2D (bnd (bnd (xComp (xChars (xVar 0)) [1] (sName 1) (ret true) (xBin (inS true) (xVar 1) (ret (.str (PySem.Str.ofString "0123456789"))))) fun ds => ret (.list ds)) fun d => bnd (ret []) fun ds => ret (d :: ds))))) (sRet (ret (.bool false))) sSkip)
  (sRet (xOr (xBin eqD (xVar 0) (ret (.str (PySem.Str.ofString "0")))) (xBin neD (xBin ixS (xVar 0) (ret (.int 0))) (ret (.str (PySem.Str.ofString "0")))))))
def g_is_figures : Sg → Option (Ans PyData × Sg) := runD 2 B_is_figures
def B_figures_ascend : MS :=
  (sSeq (sAsg (bnd (xComp (xSeq (xVar 0)) [2] (sName 2) (ret true) (xTup (bnd (xCall lenX (bnd (xVar 2) fun d => bnd (ret []) fun ds => ret (d :: ds))) fun d => bnd (bnd (xVar 2) fun d => bnd (ret []) fun ds => ret (d :: ds)) fun ds => ret (d :: ds)))) fun ds => ret (.list ds)) (sName 1))
  (sRet (xCall allD (bnd (bnd (xComp (xCallF' range1D (bnd (xBin subD (xCall lenX (bnd (xVar 1) fun d => bnd (ret []) fun ds => ret (d :: ds))) (ret (.int 1))) fun d => bnd (ret []) fun ds => ret (d :: ds))) [3] (sName 3) (ret true) (xBin ltN (xBin ixD (xVar 1) (xVar 3)) (xBin ixD (xVar 1) (xBin addD (xVar 3) (ret (.int 1)))))) fun ds => ret (.list ds)) fun d => bnd (ret []) fun ds => ret (d :: ds)))))
def g_figures_ascend : Sg → Option (Ans PyData × Sg) := runD 4 B_figures_ascend
def B_numbers_of : MS :=
  (sRet (xCall tupleD (bnd (bnd (xComp (xSeq (xVar 0)) [1] (sName 1) (ret true) (xCall intB (bnd (xVar 1) fun d => bnd (ret []) fun ds => ret (d :: ds)))) fun ds => ret (.list ds)) fun d => bnd (ret []) fun ds => ret (d :: ds))))
def g_numbers_of : Sg → Option (Ans PyData × Sg) := runD 2 B_numbers_of
def B_numbers_of_pairs : MS :=
  (sRet (xCall tupleD (bnd (bnd (xComp (xSeq (xVar 0)) [1, 2] (sTup 2 (sCons (sName 1) (sCons (sName 2) sNil))) (ret true) (xTup (bnd (xCall intB (bnd (xVar 1) fun d => bnd (ret []) fun ds => ret (d :: ds))) fun d => bnd (bnd (xCall intB (bnd (xVar 2) fun d => bnd (ret []) fun ds => ret (d :: ds))) fun d => bnd (ret []) fun ds => ret (d :: ds)) fun ds => ret (d :: ds)))) fun ds => ret (.list ds)) fun d => bnd (ret []) fun ds => ret (d :: ds))))
def g_numbers_of_pairs : Sg → Option (Ans PyData × Sg) := runD 3 B_numbers_of_pairs
def B_word_of : MS :=
  (sRet (xOrV (xM1 joinD (ret (.str (PySem.Str.ofString ","))) (bnd (xComp (xSeq (xVar 0)) [1] (sName 1) (ret true) (xCall strB (bnd (xVar 1) fun d => bnd (ret []) fun ds => ret (d :: ds)))) fun ds => ret (.list ds))) (ret (.str (PySem.Str.ofString "-")))))
def g_word_of : Sg → Option (Ans PyData × Sg) := runD 2 B_word_of
def B_word_of_sum : MS :=
  (sRet (xOrV (xM1 joinD (ret (.str (PySem.Str.ofString "+"))) (bnd (xComp (xSeq (xVar 0)) [1, 2] (sTupX 2 (sCons (sName 1) (sCons (sName 2) sNil))) (ret true) (xJoined (xJ1 (xUn fmtB (xVar 1)) (xJ1 (ret (.str (PySem.Str.ofString ":"))) (xJ1 (xUn fmtB (xVar 2)) xJ0))))) fun ds => ret (.list ds))) (ret (.str (PySem.Str.ofString "-")))))
def g_word_of_sum : Sg → Option (Ans PyData × Sg) := runD 3 B_word_of_sum
def B__law_box : MS :=
  (sSeq (sAsg (xIf (xBool (xBin ltD (xVar 1) (xCall lenX (bnd (xVar 0) fun d => bnd (ret []) fun ds => ret (d :: ds))))) (xBin ixD (xVar 0) (xVar 1)) (ret (.int 0))) (sName 2))
  (sRetF (xLst (bnd (xBin mulD (xCall absD (bnd (xVar 2) fun d => bnd (ret []) fun ds => ret (d :: ds))) (xCall intD (bnd (xBin geD (xCall absD (bnd (xVar 2) fun d => bnd (ret []) fun ds => ret (d :: ds))) (xBin powD (ret (.int 10)) (ret (.int 18)))) fun d => bnd (ret []) fun ds => ret (d :: ds)))) fun d => bnd (bnd (xBin addD (xBin addD (xBin modD (xCall intD (bnd (xVar 2) fun d => bnd (ret []) fun ds => ret (d :: ds))) (ret (.int 2305843009213693951))) (xBin mulD (ret (.int 39373)) (xVar 1))) (ret (.int 3155001))) fun d => bnd (bnd (ret (.int 0)) fun d => bnd (ret []) fun ds => ret (d :: ds)) fun ds => ret (d :: ds)) fun ds => ret (d :: ds)))))
def g__law_box : Sg → Option (Ans (List PyData) × Sg) := runF 3 B__law_box
def B__law_take : MS :=
  (sSeq (sIf (xBool (xBin gtD (xIxO 0 (ret (.int 0))) (ret (.int 0)))) (sSeq (sAsg (xBin modD (xCall intD (bnd (xIxO 0 (ret (.int 0))) fun d => bnd (ret []) fun ds => ret (d :: ds))) (xVar 1)) (sName 2))
  (sSeq (sSub (xBin fdivD (xIxO 0 (ret (.int 0))) (xVar 1)) 0 (ret (.int 0)))
  (sRet (xVar 2)))) sSkip)
  (sSeq (sSub (xBin addD (xIxO 0 (ret (.int 2))) (ret (.int 1))) 0 (ret (.int 2)))
  (sSeq (sAsg (xBin modD (xCall intD (bnd (xBin mulD (xBin addD (xIxO 0 (ret (.int 1))) (xBin mulD (ret (.int 48271)) (xIxO 0 (ret (.int 2))))) (xBin addD (ret (.int 39373)) (xIxO 0 (ret (.int 2))))) fun d => bnd (ret []) fun ds => ret (d :: ds))) (ret (.int 2147483647))) (sName 3))
  (sSeq (sAsg (xBin addD (xBin modD (xCall intD (bnd (xVar 3) fun d => bnd (ret []) fun ds => ret (d :: ds))) (ret (.int 40009))) (ret (.int 7))) (sName 4))
  (sSeq (sAsg (xBin modD (xCall intD (bnd (xBin mulD (xBin addD (xBin addD (xVar 3) (xIxO 0 (ret (.int 2)))) (xBin fdivD (xIxO 0 (ret (.int 1))) (ret (.int 1000003)))) (xVar 4)) fun d => bnd (ret []) fun ds => ret (d :: ds))) (ret (.int 2147483629))) (sName 5))
  (sRet (xBin modD (xCall intD (bnd (xBin fdivD (xBin modD (xCall intD (bnd (xBin addD (xBin mulD (xVar 5) (ret (.int 48271))) (xVar 3)) fun d => bnd (ret []) fun ds => ret (d :: ds))) (ret (.int 2147483587))) (ret (.int 64))) fun d => bnd (ret []) fun ds => ret (d :: ds))) (xVar 1))))))))
def g__law_take : Sg → Option (Ans PyData × Sg) := runD 6 B__law_take
def B__law_cells : MS :=
  (sSeq (sOwn (xOrF (xCallF listD (bnd (xSl (xVar 0) (ret none) (xPart (xVar 1))) fun d => bnd (ret []) fun ds => ret (d :: ds))) (xLst (bnd (ret (.int 0)) fun d => bnd (ret []) fun ds => ret (d :: ds)))) 2)
  (sSeq (sFor (xCallF' enumD (bnd (xSl (xVar 0) (xPart (xVar 1)) (xPart (ret (.int 63)))) fun d => bnd (ret []) fun ds => ret (d :: ds))) (sTup 2 (sCons (sName 3) (sCons (sName 4) sNil))) (sSeq (sAsg (xBin modD (xCall intD (bnd (xVar 3) fun d => bnd (ret []) fun ds => ret (d :: ds))) (xVar 1)) (sName 5))
  (sSub (xBin addD (xIxO 2 (xVar 5)) (xBin mulD (xVar 4) (xBin addD (xVar 3) (ret (.int 2))))) 2 (xVar 5))))
  (sRet (xVar 2))))
def g__law_cells : Sg → Option (Ans PyData × Sg) := runD 6 B__law_cells
def B__law_row_word : MS :=
  (sRet (xIf (xBool (xBin neD (xVar 0) (xTup (ret [])))) (xM1 joinD (ret (.str (PySem.Str.ofString ","))) (bnd (xComp (xSeq (xVar 0)) [1] (sName 1) (ret true) (xCall strB (bnd (xVar 1) fun d => bnd (ret []) fun ds => ret (d :: ds)))) fun ds => ret (.list ds))) (ret (.str (PySem.Str.ofString "-")))))
def g__law_row_word : Sg → Option (Ans PyData × Sg) := runD 2 B__law_row_word
def B__law_mix_word : MS :=
  (sRet (xIf (xBool (xBin neD (xVar 0) (xTup (ret [])))) (xM1 joinD (ret (.str (PySem.Str.ofString "+"))) (bnd (xComp (xSeq (xVar 0)) [1] (sName 1) (ret true) (xBin addX (xBin addX (xCall strB (bnd (xBin ixD (xVar 1) (ret (.int 0))) fun d => bnd (ret []) fun ds => ret (d :: ds))) (ret (.str (PySem.Str.ofString ":")))) (xCall strB (bnd (xBin ixD (xVar 1) (ret (.int 1))) fun d => bnd (ret []) fun ds => ret (d :: ds))))) fun ds => ret (.list ds))) (ret (.str (PySem.Str.ofString "-")))))
def g__law_mix_word : Sg → Option (Ans PyData × Sg) := runD 2 B__law_mix_word
def B_figures_in : MS :=
  (sSeq (sIf (xBool (xBin eqD (xVar 0) (ret (.str (PySem.Str.ofString "-"))))) (sRet (bnd (xLst (ret [])) fun ds => ret (.list ds))) sSkip)
  (sSeq (sAsg (bnd (xM1F splitD (xVar 0) (ret (.str (PySem.Str.ofString ",")))) fun ds => ret (.list ds)) (sName 1))
  (sRet (xIf (xTru (xCall allD (bnd (bnd (xComp (xSeq (xVar 1)) [2] (sName 2) (ret true) (xDef g_is_figures (bnd (xVar 2) fun d => bnd (ret []) fun ds => ret (d :: ds)))) fun ds => ret (.list ds)) fun d => bnd (ret []) fun ds => ret (d :: ds)))) (xVar 1) (ret .none)))))
def g_figures_in : Sg → Option (Ans PyData × Sg) := runD 3 B_figures_in
def B_pairs_in : MS :=
  (sSeq (sIf (xBool (xBin eqD (xVar 0) (ret (.str (PySem.Str.ofString "-"))))) (sRet (bnd (xLst (ret [])) fun ds => ret (.list ds))) sSkip)
  (sSeq (sAsg (bnd (xComp (xSeq (bnd (xM1F splitD (xVar 0) (ret (.str (PySem.Str.ofString "+")))) fun ds => ret (.list ds))) [2] (sName 2) (ret true) (bnd (xM1F splitD (xVar 2) (ret (.str (PySem.Str.ofString ":")))) fun ds => ret (.list ds))) fun ds => ret (.list ds)) (sName 1))
  (sSeq (sIf (xNotT (xTru (xCall allD (bnd (bnd (xComp (xSeq (xVar 1)) [2] (sName 2) (ret true) (xAnd (xBin eqD (xCall lenX (bnd (xVar 2) fun d => bnd (ret []) fun ds => ret (d :: ds))) (ret (.int 2))) (xAnd (xDef g_is_figures (bnd (xBin ixD (xVar 2) (ret (.int 0))) fun d => bnd (ret []) fun ds => ret (d :: ds))) (xAnd (xDef g_is_figures (bnd (xBin ixD (xVar 2) (ret (.int 1))) fun d => bnd (ret []) fun ds => ret (d :: ds))) (xBin neD (xBin ixD (xVar 2) (ret (.int 1))) (ret (.str (PySem.Str.ofString "0")))))))) fun ds => ret (.list ds)) fun d => bnd (ret []) fun ds => ret (d :: ds))))) (sRet (ret .none)) sSkip)
  (sRet (xIf (xTru (xDef g_figures_ascend (bnd (bnd (xComp (xSeq (xVar 1)) [2] (sName 2) (ret true) (xBin ixD (xVar 2) (ret (.int 0)))) fun ds => ret (.list ds)) fun d => bnd (ret []) fun ds => ret (d :: ds)))) (bnd (xComp (xSeq (xVar 1)) [2] (sName 2) (ret true) (xTup (bnd (xBin ixD (xVar 2) (ret (.int 0))) fun d => bnd (bnd (xBin ixD (xVar 2) (ret (.int 1))) fun d => bnd (ret []) fun ds => ret (d :: ds)) fun ds => ret (d :: ds)))) fun ds => ret (.list ds)) (ret .none))))))
def g_pairs_in : Sg → Option (Ans PyData × Sg) := runD 3 B_pairs_in
def B_run_word : MS :=
  (sRet (xDef g_word_of (bnd (xVar 0) fun d => bnd (ret []) fun ds => ret (d :: ds))))
def g_run_word : Sg → Option (Ans PyData × Sg) := runD 1 B_run_word
def B_sum_word : MS :=
  (sRet (xDef g_word_of_sum (bnd (xVar 0) fun d => bnd (ret []) fun ds => ret (d :: ds))))
def g_sum_word : Sg → Option (Ans PyData × Sg) := runD 1 B_sum_word
def B__law_of : MS :=
  (sRet (xBin ixD (xVar 1) (xDefO g__law_take 0 (bnd (xCall lenX (bnd (xVar 1) fun d => bnd (ret []) fun ds => ret (d :: ds))) fun d => bnd (ret []) fun ds => ret (d :: ds)))))
def g__law_of : Sg → Option (Ans PyData × Sg) := runD 2 B__law_of
def B_run_read : MS :=
  (sSeq (sAsg (xDef g_figures_in (bnd (xVar 0) fun d => bnd (ret []) fun ds => ret (d :: ds))) (sName 1))
  (sRet (xIf (xBool (xBin isD (xVar 1) (ret .none))) (ret .none) (xDef g_numbers_of (bnd (xVar 1) fun d => bnd (ret []) fun ds => ret (d :: ds))))))
def g_run_read : Sg → Option (Ans PyData × Sg) := runD 2 B_run_read
def B_sum_read : MS :=
  (sSeq (sAsg (xDef g_pairs_in (bnd (xVar 0) fun d => bnd (ret []) fun ds => ret (d :: ds))) (sName 1))
  (sRet (xIf (xBool (xBin isD (xVar 1) (ret .none))) (ret .none) (xDef g_numbers_of_pairs (bnd (xVar 1) fun d => bnd (ret []) fun ds => ret (d :: ds))))))
def g_sum_read : Sg → Option (Ans PyData × Sg) := runD 2 B_sum_read
def B__law_lists (G : Sg → Option (Ans PyData × Sg)) : MS :=
  (sRet (xIf (xTru (xUn (isiD ["list", "tuple"]) (xVar 0))) (bnd (xComp (xSeq (xVar 0)) [1] (sName 1) (ret true) (xDef G (bnd (xVar 1) fun d => bnd (ret []) fun ds => ret (d :: ds)))) fun ds => ret (.list ds)) (xVar 0)))
def gr__law_lists : Nat → Sg → Option (Ans PyData × Sg)
  | 0 => fun _ => none
  | n + 1 => runD 2 (B__law_lists (gr__law_lists n))
def g__law_lists : Sg → Option (Ans PyData × Sg) := gr__law_lists 16
def B__law_same (G : Sg → Option (Ans PyData × Sg)) : MS :=
  (sSeq (sIf (xTru (xUn (isiD ["list", "tuple"]) (xVar 1))) (sSeq (sIf (xOrT (xBool (xBin neD (xUn (isiD ["list"]) (xVar 0)) (xUn (isiD ["list"]) (xVar 1)))) (xBool (xBin neD (xUn (isiD ["tuple"]) (xVar 0)) (xUn (isiD ["tuple"]) (xVar 1))))) (sRet (ret (.bool false))) sSkip)
  (sRet (xAnd (xBin eqD (xCall lenX (bnd (xVar 0) fun d => bnd (ret []) fun ds => ret (d :: ds))) (xCall lenX (bnd (xVar 1) fun d => bnd (ret []) fun ds => ret (d :: ds)))) (xCall allD (bnd (bnd (xComp (xCallF' zipD (bnd (xVar 0) fun d => bnd (bnd (xVar 1) fun d => bnd (ret []) fun ds => ret (d :: ds)) fun ds => ret (d :: ds))) [2, 3] (sTup 2 (sCons (sName 2) (sCons (sName 3) sNil))) (ret true) (xDef G (bnd (xVar 2) fun d => bnd (bnd (xVar 3) fun d => bnd (ret []) fun ds => ret (d :: ds)) fun ds => ret (d :: ds)))) fun ds => ret (.list ds)) fun d => bnd (ret []) fun ds => ret (d :: ds)))))) sSkip)
  (sSeq (sIf (xOrT (xBool (xBin isD (xVar 1) (ret .none))) (xTru (xUn (isiD ["bool", "str"]) (xVar 1)))) (sRet (xAnd (xBin eqD (xVar 0) (xVar 1)) (xAnd (xBin eqD (xUn (isiD ["bool"]) (xVar 0)) (xUn (isiD ["bool"]) (xVar 1))) (xBin eqD (xBin isD (xVar 0) (ret .none)) (xBin isD (xVar 1) (ret .none)))))) sSkip)
  (sRet (xAnd (xUn (isiD ["int"]) (xVar 0)) (xAnd (xNot (xUn (isiD ["bool"]) (xVar 0))) (xBin eqD (xVar 0) (xVar 1)))))))
def gr__law_same : Nat → Sg → Option (Ans PyData × Sg)
  | 0 => fun _ => none
  | n + 1 => runD 4 (B__law_same (gr__law_same n))
def g__law_same : Sg → Option (Ans PyData × Sg) := gr__law_same 16
def B__law_odd_right : MS :=
  (sSeq (sAsg (bnd (xLst (bnd (ret (.str (PySem.Str.ofString ""))) fun d => bnd (bnd (ret (.str (PySem.Str.ofString " "))) fun d => bnd (bnd (ret (.str (PySem.Str.ofString ","))) fun d => bnd (bnd (ret (.str (PySem.Str.ofString "1,"))) fun d => bnd (bnd (ret (.str (PySem.Str.ofString ",1"))) fun d => bnd (bnd (ret (.str (PySem.Str.ofString "01"))) fun d => bnd (bnd (ret (.str (PySem.Str.ofString "1,01"))) fun d => bnd (bnd (ret (.str (PySem.Str.ofString "-1"))) fun d => bnd (bnd (ret (.str (PySem.Str.ofString "1,-"))) fun d => bnd (bnd (ret (.str (PySem.Str.ofString "--"))) fun d => bnd (bnd (ret (.str (PySem.Str.ofString "a"))) fun d => bnd (bnd (ret (.str (PySem.Str.ofString "1 ,2"))) fun d => bnd (bnd (ret (.str (PySem.Str.ofString "1, 2"))) fun d => bnd (bnd (ret (.str (PySem.Str.ofString "1;2"))) fun d => bnd (bnd (ret (.str (PySem.Str.ofString "+1"))) fun d => bnd (bnd (ret (.str (PySem.Str.ofString "1.0"))) fun d => bnd (bnd (ret (.str (PySem.Str.ofString "1\n"))) fun d => bnd (bnd (ret (.str (PySem.Str.ofString "-\n"))) fun d => bnd (bnd (ret (.str (PySem.Str.ofString "1,,2"))) fun d => bnd (ret []) fun ds => ret (d :: ds)) fun ds => ret (d :: ds)) fun ds => ret (d :: ds)) fun ds => ret (d :: ds)) fun ds => ret (d :: ds)) fun ds => ret (d :: ds)) fun ds => ret (d :: ds)) fun ds => ret (d :: ds)) fun ds => ret (d :: ds)) fun ds => ret (d :: ds)) fun ds => ret (d :: ds)) fun ds => ret (d :: ds)) fun ds => ret (d :: ds)) fun ds => ret (d :: ds)) fun ds => ret (d :: ds)) fun ds => ret (d :: ds)) fun ds => ret (d :: ds)) fun ds => ret (d :: ds)) fun ds => ret (d :: ds))) fun ds => ret (.list ds)) (sName 0))
  (sSeq (sAsg (bnd (xComp (xSeq (xVar 0)) [2] (sName 2) (ret true) (xDefK g_run_read [0] (bnd (xVar 2) fun d => bnd (ret []) fun ds => ret (d :: ds)))) fun ds => ret (.list ds)) (sName 1))
  (sSeq (sAsg (bnd (xLst (bnd (ret (.str (PySem.Str.ofString ""))) fun d => bnd (bnd (ret (.str (PySem.Str.ofString " "))) fun d => bnd (bnd (ret (.str (PySem.Str.ofString "0"))) fun d => bnd (bnd (ret (.str (PySem.Str.ofString "0:"))) fun d => bnd (bnd (ret (.str (PySem.Str.ofString ":1"))) fun d => bnd (bnd (ret (.str (PySem.Str.ofString "0:0"))) fun d => bnd (bnd (ret (.str (PySem.Str.ofString "0:01"))) fun d => bnd (bnd (ret (.str (PySem.Str.ofString "00:1"))) fun d => bnd (bnd (ret (.str (PySem.Str.ofString "0:1+"))) fun d => bnd (bnd (ret (.str (PySem.Str.ofString "+0:1"))) fun d => bnd (bnd (ret (.str (PySem.Str.ofString "0:1+0:2"))) fun d => bnd (bnd (ret (.str (PySem.Str.ofString "1:1+0:1"))) fun d => bnd (bnd (ret (.str (PySem.Str.ofString "0:1,1:1"))) fun d => bnd (bnd (ret (.str (PySem.Str.ofString "0:1+1"))) fun d => bnd (bnd (ret (.str (PySem.Str.ofString "0:-1"))) fun d => bnd (ret []) fun ds => ret (d :: ds)) fun ds => ret (d :: ds)) fun ds => ret (d :: ds)) fun ds => ret (d :: ds)) fun ds => ret (d :: ds)) fun ds => ret (d :: ds)) fun ds => ret (d :: ds)) fun ds => ret (d :: ds)) fun ds => ret (d :: ds)) fun ds => ret (d :: ds)) fun ds => ret (d :: ds)) fun ds => ret (d :: ds)) fun ds => ret (d :: ds)) fun ds => ret (d :: ds)) fun ds => ret (d :: ds))) fun ds => ret (.list ds)) (sName 0))
  (sSeq (sAsg (bnd (xBinF catL (xVar 0) (bnd (xLst (bnd (ret (.str (PySem.Str.ofString "0:1+1:0"))) fun d => bnd (bnd (ret (.str (PySem.Str.ofString "a:1"))) fun d => bnd (bnd (ret (.str (PySem.Str.ofString "0:a"))) fun d => bnd (bnd (ret (.str (PySem.Str.ofString "0:1:1"))) fun d => bnd (bnd (ret (.str (PySem.Str.ofString "0 :1"))) fun d => bnd (bnd (ret (.str (PySem.Str.ofString "0:1 "))) fun d => bnd (bnd (ret (.str (PySem.Str.ofString "--"))) fun d => bnd (bnd (ret (.str (PySem.Str.ofString "0:1\n"))) fun d => bnd (bnd (ret (.str (PySem.Str.ofString "10:1+9:1"))) fun d => bnd (bnd (ret (.str (PySem.Str.ofString "0:1++1:1"))) fun d => bnd (bnd (ret (.str (PySem.Str.ofString "-+0:1"))) fun d => bnd (ret []) fun ds => ret (d :: ds)) fun ds => ret (d :: ds)) fun ds => ret (d :: ds)) fun ds => ret (d :: ds)) fun ds => ret (d :: ds)) fun ds => ret (d :: ds)) fun ds => ret (d :: ds)) fun ds => ret (d :: ds)) fun ds => ret (d :: ds)) fun ds => ret (d :: ds)) fun ds => ret (d :: ds))) fun ds => ret (.list ds))) fun ds => ret (.list ds)) (sName 0))
  (sSeq (sAsg (bnd (xBinF catL (xVar 1) (bnd (xComp (xSeq (xVar 0)) [2] (sName 2) (ret true) (xDefK g_sum_read [0] (bnd (xVar 2) fun d => bnd (ret []) fun ds => ret (d :: ds)))) fun ds => ret (.list ds))) fun ds => ret (.list ds)) (sName 1))
  (sRet (xDef g__law_same (bnd (xVar 1) fun d => bnd (bnd (bnd (xRepF (xLst (bnd (ret .none) fun d => bnd (ret []) fun ds => ret (d :: ds))) (ret (.int 45))) fun ds => ret (.list ds)) fun d => bnd (ret []) fun ds => ret (d :: ds)) fun ds => ret (d :: ds)))))))))
def g__law_odd_right : Sg → Option (Ans PyData × Sg) := runD 3 B__law_odd_right
def B__law_case_right : MS :=
  (sSeq (sAsg (bnd (xLst (bnd (xDef g__law_row_word (bnd (xVar 1) fun d => bnd (ret []) fun ds => ret (d :: ds))) fun d => bnd (bnd (xDef g__law_mix_word (bnd (xVar 2) fun d => bnd (ret []) fun ds => ret (d :: ds))) fun d => bnd (ret []) fun ds => ret (d :: ds)) fun ds => ret (d :: ds))) fun ds => ret (.list ds)) (sName 3))
  (sSeq (sAsg (bnd (xLst (bnd (xDef g_run_word (bnd (xVar 1) fun d => bnd (ret []) fun ds => ret (d :: ds))) fun d => bnd (bnd (xDefK g_run_word [0] (bnd (xDef g__law_lists (bnd (xVar 1) fun d => bnd (ret []) fun ds => ret (d :: ds))) fun d => bnd (ret []) fun ds => ret (d :: ds))) fun d => bnd (bnd (xDef g_sum_word (bnd (xVar 2) fun d => bnd (ret []) fun ds => ret (d :: ds))) fun d => bnd (bnd (xDefK g_sum_word [0] (bnd (xDef g__law_lists (bnd (xVar 2) fun d => bnd (ret []) fun ds => ret (d :: ds))) fun d => bnd (ret []) fun ds => ret (d :: ds))) fun d => bnd (ret []) fun ds => ret (d :: ds)) fun ds => ret (d :: ds)) fun ds => ret (d :: ds)) fun ds => ret (d :: ds))) fun ds => ret (.list ds)) (sName 4))
  (sSeq (sAsg (bnd (xBinF catL (xVar 4) (bnd (xLst (bnd (xDef g_run_read (bnd (xBin ixD (xVar 3) (ret (.int 0))) fun d => bnd (ret []) fun ds => ret (d :: ds))) fun d => bnd (bnd (xDef g_sum_read (bnd (xBin ixD (xVar 3) (ret (.int 1))) fun d => bnd (ret []) fun ds => ret (d :: ds))) fun d => bnd (ret []) fun ds => ret (d :: ds)) fun ds => ret (d :: ds))) fun ds => ret (.list ds))) fun ds => ret (.list ds)) (sName 4))
  (sSeq (sIf (xNotT (xTru (xDef g__law_same (bnd (xVar 4) fun d => bnd (bnd (bnd (xLst (bnd (xBin ixD (xVar 3) (ret (.int 0))) fun d => bnd (bnd (xBin ixD (xVar 3) (ret (.int 0))) fun d => bnd (bnd (xBin ixD (xVar 3) (ret (.int 1))) fun d => bnd (bnd (xBin ixD (xVar 3) (ret (.int 1))) fun d => bnd (bnd (xVar 1) fun d => bnd (bnd (xVar 2) fun d => bnd (ret []) fun ds => ret (d :: ds)) fun ds => ret (d :: ds)) fun ds => ret (d :: ds)) fun ds => ret (d :: ds)) fun ds => ret (d :: ds)) fun ds => ret (d :: ds))) fun ds => ret (.list ds)) fun d => bnd (ret []) fun ds => ret (d :: ds)) fun ds => ret (d :: ds))))) (sRet (ret (.bool false))) sSkip)
  (sSeq (sAsg (bnd (xComp (xSeq (xVar 3)) [8] (sName 8) (ret true) (xDefO g__law_take 0 (bnd (xBin addX (xCall lenX (bnd (xVar 8) fun d => bnd (ret []) fun ds => ret (d :: ds))) (ret (.int 1))) fun d => bnd (ret []) fun ds => ret (d :: ds)))) fun ds => ret (.list ds)) (sName 5))
  (sSeq (sAsg (xDefO g__law_of 0 (bnd (bnd (xLst (bnd (ret (.str (PySem.Str.ofString " "))) fun d => bnd (bnd (ret (.str (PySem.Str.ofString "-"))) fun d => bnd (bnd (ret (.str (PySem.Str.ofString "a"))) fun d => bnd (bnd (ret (.str (PySem.Str.ofString "_"))) fun d => bnd (bnd (ret (.str (PySem.Str.ofString "."))) fun d => bnd (bnd (ret (.str (PySem.Str.ofString ";"))) fun d => bnd (bnd (ret (.str (PySem.Str.ofString "\n"))) fun d => bnd (ret []) fun ds => ret (d :: ds)) fun ds => ret (d :: ds)) fun ds => ret (d :: ds)) fun ds => ret (d :: ds)) fun ds => ret (d :: ds)) fun ds => ret (d :: ds)) fun ds => ret (d :: ds))) fun ds => ret (.list ds)) fun d => bnd (ret []) fun ds => ret (d :: ds))) (sName 6))
  (sSeq (sAsg (bnd (xComp (xSeq (bnd (xCallF listZipD (bnd (xVar 3) fun d => bnd (bnd (xVar 5) fun d => bnd (ret []) fun ds => ret (d :: ds)) fun ds => ret (d :: ds))) fun ds => ret (.list ds))) [8, 9] (sTup 2 (sCons (sName 8) (sCons (sName 9) sNil))) (ret true) (xBin addX (xBin addX (xSlS (xVar 8) (ret none) (xPart (xVar 9))) (xVar 6)) (xSlS (xVar 8) (xPart (xVar 9)) (ret none)))) fun ds => ret (.list ds)) (sName 7))
  (sRet (xDef g__law_same (bnd (bnd (xLst (bnd (xDef g_run_read (bnd (xBin ixD (xVar 7) (ret (.int 0))) fun d => bnd (ret []) fun ds => ret (d :: ds))) fun d => bnd (bnd (xDef g_sum_read (bnd (xBin ixD (xVar 7) (ret (.int 1))) fun d => bnd (ret []) fun ds => ret (d :: ds))) fun d => bnd (ret []) fun ds => ret (d :: ds)) fun ds => ret (d :: ds))) fun ds => ret (.list ds)) fun d => bnd (bnd (bnd (xLst (bnd (ret .none) fun d => bnd (bnd (ret .none) fun d => bnd (ret []) fun ds => ret (d :: ds)) fun ds => ret (d :: ds))) fun ds => ret (.list ds)) fun d => bnd (ret []) fun ds => ret (d :: ds)) fun ds => ret (d :: ds)))))))))))
def g__law_case_right : Sg → Option (Ans PyData × Sg) := runD 10 B__law_case_right
def B__law_by_hand_right : MS :=
  (sSeq (sAsg (xBin addX (ret (.str (PySem.Str.ofString "1"))) (xBin mulX (ret (.str (PySem.Str.ofString "0"))) (ret (.int 30)))) (sName 0))
  (sSeq (sAsg (bnd (xLst (bnd (xDef g_run_word (bnd (xTup (ret [])) fun d => bnd (ret []) fun ds => ret (d :: ds))) fun d => bnd (bnd (xDef g_run_word (bnd (xTup (bnd (ret (.int 0)) fun d => bnd (ret []) fun ds => ret (d :: ds))) fun d => bnd (ret []) fun ds => ret (d :: ds))) fun d => bnd (bnd (xDefK g_run_word [0] (bnd (bnd (xLst (bnd (ret (.int 1)) fun d => bnd (bnd (ret (.int 0)) fun d => bnd (bnd (ret (.int 12)) fun d => bnd (ret []) fun ds => ret (d :: ds)) fun ds => ret (d :: ds)) fun ds => ret (d :: ds))) fun ds => ret (.list ds)) fun d => bnd (ret []) fun ds => ret (d :: ds))) fun d => bnd (bnd (xDef g_run_read (bnd (ret (.str (PySem.Str.ofString "-"))) fun d => bnd (ret []) fun ds => ret (d :: ds))) fun d => bnd (bnd (xDef g_run_read (bnd (ret (.str (PySem.Str.ofString "0"))) fun d => bnd (ret []) fun ds => ret (d :: ds))) fun d => bnd (bnd (xDef g_run_read (bnd (ret (.str (PySem.Str.ofString "1,0,12"))) fun d => bnd (ret []) fun ds => ret (d :: ds))) fun d => bnd (bnd (xDef g_run_read (bnd (ret (.str (PySem.Str.ofString "1,1,0"))) fun d => bnd (ret []) fun ds => ret (d :: ds))) fun d => bnd (ret []) fun ds => ret (d :: ds)) fun ds => ret (d :: ds)) fun ds => ret (d :: ds)) fun ds => ret (d :: ds)) fun ds => ret (d :: ds)) fun ds => ret (d :: ds)) fun ds => ret (d :: ds))) fun ds => ret (.list ds)) (sName 1))
  (sSeq (sAsg (bnd (xLst (bnd (ret (.str (PySem.Str.ofString "-"))) fun d => bnd (bnd (ret (.str (PySem.Str.ofString "0"))) fun d => bnd (bnd (ret (.str (PySem.Str.ofString "1,0,12"))) fun d => bnd (bnd (xTup (ret [])) fun d => bnd (bnd (xTup (bnd (ret (.int 0)) fun d => bnd (ret []) fun ds => ret (d :: ds))) fun d => bnd (bnd (xTup (bnd (ret (.int 1)) fun d => bnd (bnd (ret (.int 0)) fun d => bnd (bnd (ret (.int 12)) fun d => bnd (ret []) fun ds => ret (d :: ds)) fun ds => ret (d :: ds)) fun ds => ret (d :: ds))) fun d => bnd (bnd (xTup (bnd (ret (.int 1)) fun d => bnd (bnd (ret (.int 1)) fun d => bnd (bnd (ret (.int 0)) fun d => bnd (ret []) fun ds => ret (d :: ds)) fun ds => ret (d :: ds)) fun ds => ret (d :: ds))) fun d => bnd (ret []) fun ds => ret (d :: ds)) fun ds => ret (d :: ds)) fun ds => ret (d :: ds)) fun ds => ret (d :: ds)) fun ds => ret (d :: ds)) fun ds => ret (d :: ds)) fun ds => ret (d :: ds))) fun ds => ret (.list ds)) (sName 2))
  (sSeq (sAsg (bnd (xBinF catL (xVar 1) (bnd (xLst (bnd (xDef g_sum_word (bnd (xTup (ret [])) fun d => bnd (ret []) fun ds => ret (d :: ds))) fun d => bnd (bnd (xDef g_sum_word (bnd (xTup (bnd (xTup (bnd (ret (.int 0)) fun d => bnd (bnd (ret (.int 1)) fun d => bnd (ret []) fun ds => ret (d :: ds)) fun ds => ret (d :: ds))) fun d => bnd (bnd (xTup (bnd (ret (.int 12)) fun d => bnd (bnd (ret (.int 4)) fun d => bnd (ret []) fun ds => ret (d :: ds)) fun ds => ret (d :: ds))) fun d => bnd (ret []) fun ds => ret (d :: ds)) fun ds => ret (d :: ds))) fun d => bnd (ret []) fun ds => ret (d :: ds))) fun d => bnd (bnd (xDefK g_sum_word [0] (bnd (bnd (xLst (bnd (bnd (xLst (bnd (ret (.int 2)) fun d => bnd (bnd (ret (.int 1)) fun d => bnd (ret []) fun ds => ret (d :: ds)) fun ds => ret (d :: ds))) fun ds => ret (.list ds)) fun d => bnd (ret []) fun ds => ret (d :: ds))) fun ds => ret (.list ds)) fun d => bnd (ret []) fun ds => ret (d :: ds))) fun d => bnd (bnd (xDef g_sum_read (bnd (ret (.str (PySem.Str.ofString "-"))) fun d => bnd (ret []) fun ds => ret (d :: ds))) fun d => bnd (bnd (xDef g_sum_read (bnd (ret (.str (PySem.Str.ofString "0:1+12:4"))) fun d => bnd (ret []) fun ds => ret (d :: ds))) fun d => bnd (ret []) fun ds => ret (d :: ds)) fun ds => ret (d :: ds)) fun ds => ret (d :: ds)) fun ds => ret (d :: ds)) fun ds => ret (d :: ds))) fun ds => ret (.list ds))) fun ds => ret (.list ds)) (sName 1))
  (sSeq (sAsg (bnd (xBinF catL (xVar 2) (bnd (xLst (bnd (ret (.str (PySem.Str.ofString "-"))) fun d => bnd (bnd (ret (.str (PySem.Str.ofString "0:1+12:4"))) fun d => bnd (bnd (ret (.str (PySem.Str.ofString "2:1"))) fun d => bnd (bnd (xTup (ret [])) fun d => bnd (bnd (xTup (bnd (xTup (bnd (ret (.int 0)) fun d => bnd (bnd (ret (.int 1)) fun d => bnd (ret []) fun ds => ret (d :: ds)) fun ds => ret (d :: ds))) fun d => bnd (bnd (xTup (bnd (ret (.int 12)) fun d => bnd (bnd (ret (.int 4)) fun d => bnd (ret []) fun ds => ret (d :: ds)) fun ds => ret (d :: ds))) fun d => bnd (ret []) fun ds => ret (d :: ds)) fun ds => ret (d :: ds))) fun d => bnd (ret []) fun ds => ret (d :: ds)) fun ds => ret (d :: ds)) fun ds => ret (d :: ds)) fun ds => ret (d :: ds)) fun ds => ret (d :: ds))) fun ds => ret (.list ds))) fun ds => ret (.list ds)) (sName 2))
  (sSeq (sAsg (bnd (xBinF catL (xVar 1) (bnd (xLst (bnd (xDef g_sum_read (bnd (ret (.str (PySem.Str.ofString "9:1+10:1"))) fun d => bnd (ret []) fun ds => ret (d :: ds))) fun d => bnd (bnd (xDef g_run_read (bnd (xVar 0) fun d => bnd (ret []) fun ds => ret (d :: ds))) fun d => bnd (bnd (xDef g_sum_read (bnd (xBin addX (xBin addX (xVar 0) (ret (.str (PySem.Str.ofString ":")))) (xVar 0)) fun d => bnd (ret []) fun ds => ret (d :: ds))) fun d => bnd (bnd (xBin eqD (xDef g_run_word (bnd (xTup (bnd (xBin powD (ret (.int 10)) (ret (.int 30))) fun d => bnd (ret []) fun ds => ret (d :: ds))) fun d => bnd (ret []) fun ds => ret (d :: ds))) (xVar 0)) fun d => bnd (ret []) fun ds => ret (d :: ds)) fun ds => ret (d :: ds)) fun ds => ret (d :: ds)) fun ds => ret (d :: ds))) fun ds => ret (.list ds))) fun ds => ret (.list ds)) (sName 1))
  (sSeq (sAsg (bnd (xBinF catL (xVar 2) (bnd (xLst (bnd (xTup (bnd (xTup (bnd (ret (.int 9)) fun d => bnd (bnd (ret (.int 1)) fun d => bnd (ret []) fun ds => ret (d :: ds)) fun ds => ret (d :: ds))) fun d => bnd (bnd (xTup (bnd (ret (.int 10)) fun d => bnd (bnd (ret (.int 1)) fun d => bnd (ret []) fun ds => ret (d :: ds)) fun ds => ret (d :: ds))) fun d => bnd (ret []) fun ds => ret (d :: ds)) fun ds => ret (d :: ds))) fun d => bnd (bnd (xTup (bnd (xBin powD (ret (.int 10)) (ret (.int 30))) fun d => bnd (ret []) fun ds => ret (d :: ds))) fun d => bnd (bnd (xTup (bnd (xTup (bnd (xBin powD (ret (.int 10)) (ret (.int 30))) fun d => bnd (bnd (xBin powD (ret (.int 10)) (ret (.int 30))) fun d => bnd (ret []) fun ds => ret (d :: ds)) fun ds => ret (d :: ds))) fun d => bnd (ret []) fun ds => ret (d :: ds))) fun d => bnd (bnd (ret (.bool true)) fun d => bnd (ret []) fun ds => ret (d :: ds)) fun ds => ret (d :: ds)) fun ds => ret (d :: ds)) fun ds => ret (d :: ds))) fun ds => ret (.list ds))) fun ds => ret (.list ds)) (sName 2))
  (sSeq (sAsg (xBin addX (ret (.str (PySem.Str.ofString "1"))) (xBin mulX (ret (.str (PySem.Str.ofString "0"))) (ret (.int 999)))) (sName 3))
  (sSeq (sAsg (bnd (xBinF catL (xVar 1) (bnd (xLst (bnd (xBin eqD (xDef g_run_word (bnd (xDef g_run_read (bnd (xVar 3) fun d => bnd (ret []) fun ds => ret (d :: ds))) fun d => bnd (ret []) fun ds => ret (d :: ds))) (xVar 3)) fun d => bnd (bnd (xBin eqD (xDef g_sum_word (bnd (xDef g_sum_read (bnd (xBin addX (ret (.str (PySem.Str.ofString "0:"))) (xVar 3)) fun d => bnd (ret []) fun ds => ret (d :: ds))) fun d => bnd (ret []) fun ds => ret (d :: ds))) (xBin addX (ret (.str (PySem.Str.ofString "0:"))) (xVar 3))) fun d => bnd (ret []) fun ds => ret (d :: ds)) fun ds => ret (d :: ds))) fun ds => ret (.list ds))) fun ds => ret (.list ds)) (sName 1))
  (sRet (xAnd (xDef g__law_same (bnd (xVar 1) fun d => bnd (bnd (bnd (xBinF catL (xVar 2) (bnd (xLst (bnd (ret (.bool true)) fun d => bnd (bnd (ret (.bool true)) fun d => bnd (ret []) fun ds => ret (d :: ds)) fun ds => ret (d :: ds))) fun ds => ret (.list ds))) fun ds => ret (.list ds)) fun d => bnd (ret []) fun ds => ret (d :: ds)) fun ds => ret (d :: ds))) (xDef g__law_odd_right (ret [])))))))))))))
def g__law_by_hand_right : Sg → Option (Ans PyData × Sg) := runD 4 B__law_by_hand_right
def B__law_right : MS :=
  (sSeq (sAsg (xCall tupleD (bnd (bnd (xComp (xCallF' range1D (bnd (xDefO g__law_take 0 (bnd (ret (.int 7)) fun d => bnd (ret []) fun ds => ret (d :: ds))) fun d => bnd (ret []) fun ds => ret (d :: ds))) [3] (sName 3) (ret true) (xDefO g__law_of 0 (bnd (bnd (xLst (bnd (ret (.int 0)) fun d => bnd (bnd (ret (.int 0)) fun d => bnd (bnd (ret (.int 1)) fun d => bnd (bnd (ret (.int 2)) fun d => bnd (bnd (ret (.int 10)) fun d => bnd (bnd (xBin powD (ret (.int 10)) (ret (.int 6))) fun d => bnd (ret []) fun ds => ret (d :: ds)) fun ds => ret (d :: ds)) fun ds => ret (d :: ds)) fun ds => ret (d :: ds)) fun ds => ret (d :: ds)) fun ds => ret (d :: ds))) fun ds => ret (.list ds)) fun d => bnd (ret []) fun ds => ret (d :: ds)))) fun ds => ret (.list ds)) fun d => bnd (ret []) fun ds => ret (d :: ds))) (sName 1))
  (sSeq (sAsg (bnd (xComp (xSeq (bnd (xLst (bnd (ret (.int 0)) fun d => bnd (bnd (ret (.int 1)) fun d => bnd (bnd (ret (.int 2)) fun d => bnd (bnd (ret (.int 9)) fun d => bnd (bnd (xBin powD (ret (.int 10)) (ret (.int 6))) fun d => bnd (ret []) fun ds => ret (d :: ds)) fun ds => ret (d :: ds)) fun ds => ret (d :: ds)) fun ds => ret (d :: ds)) fun ds => ret (d :: ds))) fun ds => ret (.list ds))) [4] (sName 4) (xBool (xBin eqD (xDefO g__law_take 0 (bnd (ret (.int 2)) fun d => bnd (ret []) fun ds => ret (d :: ds))) (ret (.int 0)))) (xVar 4)) fun ds => ret (.list ds)) (sName 2))
  (sRet (xDefO g__law_case_right 0 (bnd (xVar 1) fun d => bnd (bnd (xCall tupleD (bnd (bnd (xComp (xSeq (xVar 2)) [4] (sName 4) (ret true) (xTup (bnd (xVar 4) fun d => bnd (bnd (xDefO g__law_of 0 (bnd (bnd (xLst (bnd (ret (.int 1)) fun d => bnd (bnd (ret (.int 2)) fun d => bnd (bnd (ret (.int 4)) fun d => bnd (bnd (ret (.int 10)) fun d => bnd (ret []) fun ds => ret (d :: ds)) fun ds => ret (d :: ds)) fun ds => ret (d :: ds)) fun ds => ret (d :: ds))) fun ds => ret (.list ds)) fun d => bnd (ret []) fun ds => ret (d :: ds))) fun d => bnd (ret []) fun ds => ret (d :: ds)) fun ds => ret (d :: ds)))) fun ds => ret (.list ds)) fun d => bnd (ret []) fun ds => ret (d :: ds))) fun d => bnd (ret []) fun ds => ret (d :: ds)) fun ds => ret (d :: ds))))))
def g__law_right : Sg → Option (Ans PyData × Sg) := runD 5 B__law_right
def B_law : MS :=
  (sSeq (sIf (xNotT (xTru (xDef g__law_by_hand_right (ret [])))) (sRet (ret (.bool false))) sSkip)
  (sSeq (sAsg (xDef g__law_cells (bnd (xVar 0) fun d => bnd (bnd (ret (.int 3)) fun d => bnd (ret []) fun ds => ret (d :: ds)) fun ds => ret (d :: ds))) (sName 1))
  (sRet (xCall allD (bnd (bnd (xComp (xCallF' range1D (bnd (xCall lenX (bnd (xVar 1) fun d => bnd (ret []) fun ds => ret (d :: ds))) fun d => bnd (ret []) fun ds => ret (d :: ds))) [2] (sName 2) (ret true) (xDefT g__law_right (xDefF g__law_box (bnd (xVar 1) fun d => bnd (bnd (xVar 2) fun d => bnd (ret []) fun ds => ret (d :: ds)) fun ds => ret (d :: ds))))) fun ds => ret (.list ds)) fun d => bnd (ret []) fun ds => ret (d :: ds))))))
def g_law : Sg → Option (Ans PyData × Sg) := runD 3 B_law
end K01
end

section
set_option Elab.async false
set_option linter.all false
set_option maxRecDepth 100000
set_option maxHeartbeats 4000000
namespace K01
open PySem PySem.Spec PyProof.Rows L2 PD
def topS (i : Nat) : Stmt := PySem.Challenge.pw_anydlooks_k01_words_of_runs_and_sums.main.body.getD i (.Pass ⟨0, 0, 0, 0⟩)
abbrev s_is_figures : Stmt := topS 2
abbrev N_is_figures : List Str := ["word", "sign"]
theorem S_is_figures : FnScope N_is_figures ["word"] (defScope s_is_figures) := ⟨rfl, rfl, rfl, by decide +kernel, rfl, by decide +kernel, by decide +kernel⟩
abbrev s_figures_ascend : Stmt := topS 3
abbrev N_figures_ascend : List Str := ["words", "keys", "word", "k"]
theorem S_figures_ascend : FnScope N_figures_ascend ["words"] (defScope s_figures_ascend) := ⟨rfl, rfl, rfl, by decide +kernel, rfl, by decide +kernel, by decide +kernel⟩
abbrev s_figures_in : Stmt := topS 4
abbrev N_figures_in : List Str := ["word", "found", "own"]
theorem S_figures_in : FnScope N_figures_in ["word"] (defScope s_figures_in) := ⟨rfl, rfl, rfl, by decide +kernel, rfl, by decide +kernel, by decide +kernel⟩
abbrev s_pairs_in : Stmt := topS 5
abbrev N_pairs_in : List Str := ["word", "found", "own"]
theorem S_pairs_in : FnScope N_pairs_in ["word"] (defScope s_pairs_in) := ⟨rfl, rfl, rfl, by decide +kernel, rfl, by decide +kernel, by decide +kernel⟩
abbrev s_numbers_of : Stmt := topS 6
abbrev N_numbers_of : List Str := ["words", "word"]
theorem S_numbers_of : FnScope N_numbers_of ["words"] (defScope s_numbers_of) := ⟨rfl, rfl, rfl, by decide +kernel, rfl, by decide +kernel, by decide +kernel⟩
abbrev s_numbers_of_pairs : Stmt := topS 7
abbrev N_numbers_of_pairs : List Str := ["pairs", "one", "other"]
theorem S_numbers_of_pairs : FnScope N_numbers_of_pairs ["pairs"] (defScope s_numbers_of_pairs) := ⟨rfl, rfl, rfl, by decide +kernel, rfl, by decide +kernel, by decide +kernel⟩
abbrev s_word_of : Stmt := topS 8
abbrev N_word_of : List Str := ["numbers", "own"]
theorem S_word_of : FnScope N_word_of ["numbers"] (defScope s_word_of) := ⟨rfl, rfl, rfl, by decide +kernel, rfl, by decide +kernel, by decide +kernel⟩
abbrev s_word_of_sum : Stmt := topS 9
abbrev N_word_of_sum : List Str := ["pairs", "one", "other"]
theorem S_word_of_sum : FnScope N_word_of_sum ["pairs"] (defScope s_word_of_sum) := ⟨rfl, rfl, rfl, by decide +kernel, rfl, by decide +kernel, by decide +kernel⟩
abbrev s_run_word : Stmt := topS 11
abbrev N_run_word : List Str := ["run"]
theorem S_run_word : FnScope N_run_word ["run"] (defScope s_run_word) := ⟨rfl, rfl, rfl, by decide +kernel, rfl, by decide +kernel, by decide +kernel⟩
abbrev s_sum_word : Stmt := topS 12
abbrev N_sum_word : List Str := ["pairs"]
theorem S_sum_word : FnScope N_sum_word ["pairs"] (defScope s_sum_word) := ⟨rfl, rfl, rfl, by decide +kernel, rfl, by decide +kernel, by decide +kernel⟩
abbrev s_run_read : Stmt := topS 13
abbrev N_run_read : List Str := ["word", "found"]
theorem S_run_read : FnScope N_run_read ["word"] (defScope s_run_read) := ⟨rfl, rfl, rfl, by decide +kernel, rfl, by decide +kernel, by decide +kernel⟩
abbrev s_sum_read : Stmt := topS 14
abbrev N_sum_read : List Str := ["word", "found"]
theorem S_sum_read : FnScope N_sum_read ["word"] (defScope s_sum_read) := ⟨rfl, rfl, rfl, by decide +kernel, rfl, by decide +kernel, by decide +kernel⟩
abbrev s__law_box : Stmt := topS 16
abbrev N__law_box : List Str := ["script", "k", "cell"]
theorem S__law_box : FnScope N__law_box ["script", "k"] (defScope s__law_box) := ⟨rfl, rfl, rfl, by decide +kernel, rfl, by decide +kernel, by decide +kernel⟩
abbrev s__law_take : Stmt := topS 17
abbrev N__law_take : List Str := ["tin", "below_so", "drawn", "once_so", "wide_so", "twice_so"]
theorem S__law_take : FnScope N__law_take ["tin", "below_so"] (defScope s__law_take) := ⟨rfl, rfl, rfl, by decide +kernel, rfl, by decide +kernel, by decide +kernel⟩
abbrev s__law_cells : Stmt := topS 18
abbrev N__law_cells : List Str := ["script", "most_so", "cells_so", "k", "cell", "at_so"]
theorem S__law_cells : FnScope N__law_cells ["script", "most_so"] (defScope s__law_cells) := ⟨rfl, rfl, rfl, by decide +kernel, rfl, by decide +kernel, by decide +kernel⟩
abbrev s__law_of : Stmt := topS 19
abbrev N__law_of : List Str := ["tin", "goods_so"]
theorem S__law_of : FnScope N__law_of ["tin", "goods_so"] (defScope s__law_of) := ⟨rfl, rfl, rfl, by decide +kernel, rfl, by decide +kernel, by decide +kernel⟩
abbrev s__law_lists : Stmt := topS 20
abbrev N__law_lists : List Str := ["matter", "bit"]
theorem S__law_lists : FnScope N__law_lists ["matter"] (defScope s__law_lists) := ⟨rfl, rfl, rfl, by decide +kernel, rfl, by decide +kernel, by decide +kernel⟩
abbrev s__law_same : Stmt := topS 21
abbrev N__law_same : List Str := ["got", "due", "mine", "its"]
theorem S__law_same : FnScope N__law_same ["got", "due"] (defScope s__law_same) := ⟨rfl, rfl, rfl, by decide +kernel, rfl, by decide +kernel, by decide +kernel⟩
abbrev s__law_row_word : Stmt := topS 22
abbrev N__law_row_word : List Str := ["row_so", "its"]
theorem S__law_row_word : FnScope N__law_row_word ["row_so"] (defScope s__law_row_word) := ⟨rfl, rfl, rfl, by decide +kernel, rfl, by decide +kernel, by decide +kernel⟩
abbrev s__law_mix_word : Stmt := topS 23
abbrev N__law_mix_word : List Str := ["mix_so", "its"]
theorem S__law_mix_word : FnScope N__law_mix_word ["mix_so"] (defScope s__law_mix_word) := ⟨rfl, rfl, rfl, by decide +kernel, rfl, by decide +kernel, by decide +kernel⟩
abbrev s__law_odd_right : Stmt := topS 24
abbrev N__law_odd_right : List Str := ["odd", "got", "its"]
theorem S__law_odd_right : FnScope N__law_odd_right [] (defScope s__law_odd_right) := ⟨rfl, rfl, rfl, by decide +kernel, rfl, by decide +kernel, by decide +kernel⟩
abbrev s__law_by_hand_right : Stmt := topS 25
abbrev N__law_by_hand_right : List Str := ["far", "got", "due_so", "deep_so"]
theorem S__law_by_hand_right : FnScope N__law_by_hand_right [] (defScope s__law_by_hand_right) := ⟨rfl, rfl, rfl, by decide +kernel, rfl, by decide +kernel, by decide +kernel⟩
abbrev s__law_case_right : Stmt := topS 26
abbrev N__law_case_right : List Str := ["tin", "row_so", "mix_so", "words_so", "got", "spots_so", "sign_so", "bent_so", "its", "k"]
theorem S__law_case_right : FnScope N__law_case_right ["tin", "row_so", "mix_so"] (defScope s__law_case_right) := ⟨rfl, rfl, rfl, by decide +kernel, rfl, by decide +kernel, by decide +kernel⟩
abbrev s__law_right : Stmt := topS 27
abbrev N__law_right : List Str := ["tin", "row_so", "goods_so", "lap", "its"]
theorem S__law_right : FnScope N__law_right ["tin"] (defScope s__law_right) := ⟨rfl, rfl, rfl, by decide +kernel, rfl, by decide +kernel, by decide +kernel⟩
abbrev s_law : Stmt := topS 28
abbrev N_law : List Str := ["script", "cells", "nth_so"]
theorem S_law : FnScope N_law ["script"] (defScope s_law) := ⟨rfl, rfl, rfl, by decide +kernel, rfl, by decide +kernel, by decide +kernel⟩
variable {P : Program} {w : World} {K : PySem.W.Frag} {mg : Str → Option Value} {base : Heap}
theorem bd_is_figures {a_is_figures : Addr}
    {t__FIGURES : Tok} (g__FIGURES : mg "_FIGURES" = some (.str (PySem.Str.ofString "0123456789") t__FIGURES))
    (m_any : mg "any" = none) :
    ∀ (cdv : Value) (A : Around) (outer : List PySem.Env) (s : Shared) (H : Hp) (E : XK), Room 0 (A.deeper (envOfC "is_figures" (defScope s_is_figures) s.heap.objs.size a_is_figures cdv)) → DSs (CxD P w K mg base N_is_figures "is_figures" s_is_figures a_is_figures cdv A outer s H E) (fun cls d _ H => E cls d H) (defBody s_is_figures) B_is_figures := fun cdv A outer s H E hr =>
  (dss_cons (ds_if (dt_w (dw_or (dt_eq (hu64 hr) (de_var 0) de_str) (dw_or1 (dt_tru (de_any2 (da_cons (de_df (df_lc (own := [("sign", 1)]) rfl S_is_figures.nd (di_chars (de_var 0)) (blkOk_by (N := N_is_figures) (sc := defScope s_is_figures) (own := [("sign", 1)]) (by decide +kernel)) (fun _ _ _ _ _ => (dgc_name (i := 1) S_is_figures.nd (by decide))) (fun _ _ _ _ _ => dts_nil) (fun _ _ _ _ _ => (de_ninS (de_var 1) (de_gstr g__FIGURES))))) da_nil) m_any))))) (dss_one (ds_ret de_bl)) dss_nil)
  (dss_one (ds_ret (de_or (de_eq (hu64 hr) (de_var 0) de_str) (de_one (de_ne (hu64 hr) (de_ixS (fun _ _ => rfl) (de_var 0) de_int) de_str))))))
theorem ok_is_figures {a_is_figures : Addr} {fd_is_figures : FuncData} (F : Fun K "is_figures" "is_figures" s_is_figures a_is_figures fd_is_figures)
    {t__FIGURES : Tok} (g__FIGURES : mg "_FIGURES" = some (.str (PySem.Str.ofString "0123456789") t__FIGURES))
    (m_any : mg "any" = none) :
    FnOk P w K mg base (L2.CX P w) 1 a_is_figures fd_is_figures ["word"] (spD K mg 1 g_is_figures) :=
  fn_d (k := 0) (N := N_is_figures) (ps := ["word"]) (gs := B_is_figures) F S_is_figures (by decide) (bd_is_figures g__FIGURES m_any)
theorem bd_figures_ascend {a_figures_ascend : Addr}
    (m_all : mg "all" = none)
    (m_len : mg "len" = none)
    (m_range : mg "range" = none) :
    ∀ (cdv : Value) (A : Around) (outer : List PySem.Env) (s : Shared) (H : Hp) (E : XK), Room 0 (A.deeper (envOfC "figures_ascend" (defScope s_figures_ascend) s.heap.objs.size a_figures_ascend cdv)) → DSs (CxD P w K mg base N_figures_ascend "figures_ascend" s_figures_ascend a_figures_ascend cdv A outer s H E) (fun cls d _ H => E cls d H) (defBody s_figures_ascend) B_figures_ascend := fun cdv A outer s H E hr =>
  (dss_cons (ds_set (i := 1) S_figures_ascend.nd (de_df (df_lc (own := [("word", 2)]) rfl S_figures_ascend.nd (di_seq (de_var 0)) (blkOk_by (N := N_figures_ascend) (sc := defScope s_figures_ascend) (own := [("word", 2)]) (by decide +kernel)) (fun _ _ _ _ _ => (dgc_name (i := 2) S_figures_ascend.nd (by decide))) (fun _ _ _ _ _ => dts_nil) (fun _ _ _ _ _ => (de_tup (da_cons (de_lenX (da_cons (de_var 2) da_nil) m_len) (da_cons (de_var 2) da_nil)))))))
  (dss_one (ds_ret (de_all (da_cons (de_df (df_lc (own := [("k", 3)]) rfl S_figures_ascend.nd (di_range1 m_range (da_cons (de_sub (de_lenX (da_cons (de_var 1) da_nil) m_len) de_int) da_nil)) (blkOk_by (N := N_figures_ascend) (sc := defScope s_figures_ascend) (own := [("k", 3)]) (by decide +kernel)) (fun _ _ _ _ _ => (dgc_name (i := 3) S_figures_ascend.nd (by decide))) (fun _ _ _ _ _ => dts_nil) (fun _ _ _ _ _ => (de_ltN (hu64 hr) (de_ix (fun _ _ => rfl) (de_var 1) (de_var 3)) (de_ix (fun _ _ => rfl) (de_var 1) (de_add (de_var 3) de_int)))))) da_nil) m_all))))
theorem ok_figures_ascend {a_figures_ascend : Addr} {fd_figures_ascend : FuncData} (F : Fun K "figures_ascend" "figures_ascend" s_figures_ascend a_figures_ascend fd_figures_ascend)
    (m_all : mg "all" = none)
    (m_len : mg "len" = none)
    (m_range : mg "range" = none) :
    FnOk P w K mg base (L2.CX P w) 1 a_figures_ascend fd_figures_ascend ["words"] (spD K mg 1 g_figures_ascend) :=
  fn_d (k := 0) (N := N_figures_ascend) (ps := ["words"]) (gs := B_figures_ascend) F S_figures_ascend (by decide) (bd_figures_ascend m_all m_len m_range)
theorem bd_numbers_of {a_numbers_of : Addr}
    (nd_D : PySem.W.nsIn K cStatics "sys.int_max_str_digits" = some none)
    (m_int : mg "int" = none)
    (m_tuple : mg "tuple" = none) :
    ∀ (cdv : Value) (A : Around) (outer : List PySem.Env) (s : Shared) (H : Hp) (E : XK), Room 0 (A.deeper (envOfC "numbers_of" (defScope s_numbers_of) s.heap.objs.size a_numbers_of cdv)) → DSs (CxD P w K mg base N_numbers_of "numbers_of" s_numbers_of a_numbers_of cdv A outer s H E) (fun cls d _ H => E cls d H) (defBody s_numbers_of) B_numbers_of := fun cdv A outer s H E hr =>
  (dss_one (ds_ret (de_tuplec (da_cons (de_df (df_lc (own := [("word", 1)]) rfl S_numbers_of.nd (di_seq (de_var 0)) (blkOk_by (N := N_numbers_of) (sc := defScope s_numbers_of) (own := [("word", 1)]) (by decide +kernel)) (fun _ _ _ _ _ => (dgc_name (i := 1) S_numbers_of.nd (by decide))) (fun _ _ _ _ _ => dts_nil) (fun _ _ _ _ _ => (de_intB (da_cons (de_var 1) da_nil) nd_D m_int)))) da_nil) m_tuple)))
theorem ok_numbers_of {a_numbers_of : Addr} {fd_numbers_of : FuncData} (F : Fun K "numbers_of" "numbers_of" s_numbers_of a_numbers_of fd_numbers_of)
    (nd_D : PySem.W.nsIn K cStatics "sys.int_max_str_digits" = some none)
    (m_int : mg "int" = none)
    (m_tuple : mg "tuple" = none) :
    FnOk P w K mg base (L2.CX P w) 1 a_numbers_of fd_numbers_of ["words"] (spD K mg 1 g_numbers_of) :=
  fn_d (k := 0) (N := N_numbers_of) (ps := ["words"]) (gs := B_numbers_of) F S_numbers_of (by decide) (bd_numbers_of nd_D m_int m_tuple)
theorem bd_numbers_of_pairs {a_numbers_of_pairs : Addr}
    (nd_D : PySem.W.nsIn K cStatics "sys.int_max_str_digits" = some none)
    (m_int : mg "int" = none)
    (m_tuple : mg "tuple" = none) :
    ∀ (cdv : Value) (A : Around) (outer : List PySem.Env) (s : Shared) (H : Hp) (E : XK), Room 0 (A.deeper (envOfC "numbers_of_pairs" (defScope s_numbers_of_pairs) s.heap.objs.size a_numbers_of_pairs cdv)) → DSs (CxD P w K mg base N_numbers_of_pairs "numbers_of_pairs" s_numbers_of_pairs a_numbers_of_pairs cdv A outer s H E) (fun cls d _ H => E cls d H) (defBody s_numbers_of_pairs) B_numbers_of_pairs := fun cdv A outer s H E hr =>
  (dss_one (ds_ret (de_tuplec (da_cons (de_df (df_lc (own := [("one", 1), ("other", 2)]) rfl S_numbers_of_pairs.nd (di_seq (de_var 0)) (blkOk_by (N := N_numbers_of_pairs) (sc := defScope s_numbers_of_pairs) (own := [("one", 1), ("other", 2)]) (by decide +kernel)) (fun _ _ _ _ _ => (dgc_tup rfl (dgsc_cons (dgc_name (i := 1) S_numbers_of_pairs.nd (by decide)) (dgsc_cons (dgc_name (i := 2) S_numbers_of_pairs.nd (by decide)) dgsc_nil)))) (fun _ _ _ _ _ => dts_nil) (fun _ _ _ _ _ => (de_tup (da_cons (de_intB (da_cons (de_var 1) da_nil) nd_D m_int) (da_cons (de_intB (da_cons (de_var 2) da_nil) nd_D m_int) da_nil)))))) da_nil) m_tuple)))
theorem ok_numbers_of_pairs {a_numbers_of_pairs : Addr} {fd_numbers_of_pairs : FuncData} (F : Fun K "numbers_of_pairs" "numbers_of_pairs" s_numbers_of_pairs a_numbers_of_pairs fd_numbers_of_pairs)
    (nd_D : PySem.W.nsIn K cStatics "sys.int_max_str_digits" = some none)
    (m_int : mg "int" = none)
    (m_tuple : mg "tuple" = none) :
    FnOk P w K mg base (L2.CX P w) 1 a_numbers_of_pairs fd_numbers_of_pairs ["pairs"] (spD K mg 1 g_numbers_of_pairs) :=
  fn_d (k := 0) (N := N_numbers_of_pairs) (ps := ["pairs"]) (gs := B_numbers_of_pairs) F S_numbers_of_pairs (by decide) (bd_numbers_of_pairs nd_D m_int m_tuple)
theorem bd_word_of {a_word_of : Addr}
    (nd_D : PySem.W.nsIn K cStatics "sys.int_max_str_digits" = some none)
    (m_str : mg "str" = none) :
    ∀ (cdv : Value) (A : Around) (outer : List PySem.Env) (s : Shared) (H : Hp) (E : XK), Room 0 (A.deeper (envOfC "word_of" (defScope s_word_of) s.heap.objs.size a_word_of cdv)) → DSs (CxD P w K mg base N_word_of "word_of" s_word_of a_word_of cdv A outer s H E) (fun cls d _ H => E cls d H) (defBody s_word_of) B_word_of := fun cdv A outer s H E hr =>
  (dss_one (ds_ret (de_orV (de_join de_str (de_df (df_lc (own := [("own", 1)]) rfl S_word_of.nd (di_seq (de_var 0)) (blkOk_by (N := N_word_of) (sc := defScope s_word_of) (own := [("own", 1)]) (by decide +kernel)) (fun _ _ _ _ _ => (dgc_name (i := 1) S_word_of.nd (by decide))) (fun _ _ _ _ _ => dts_nil) (fun _ _ _ _ _ => (de_strB (da_cons (de_var 1) da_nil) nd_D m_str))))) (de_one de_str))))
theorem ok_word_of {a_word_of : Addr} {fd_word_of : FuncData} (F : Fun K "word_of" "word_of" s_word_of a_word_of fd_word_of)
    (nd_D : PySem.W.nsIn K cStatics "sys.int_max_str_digits" = some none)
    (m_str : mg "str" = none) :
    FnOk P w K mg base (L2.CX P w) 1 a_word_of fd_word_of ["numbers"] (spD K mg 1 g_word_of) :=
  fn_d (k := 0) (N := N_word_of) (ps := ["numbers"]) (gs := B_word_of) F S_word_of (by decide) (bd_word_of nd_D m_str)
theorem bd_word_of_sum {a_word_of_sum : Addr}
    (nd_D : PySem.W.nsIn K cStatics "sys.int_max_str_digits" = some none) :
    ∀ (cdv : Value) (A : Around) (outer : List PySem.Env) (s : Shared) (H : Hp) (E : XK), Room 0 (A.deeper (envOfC "word_of_sum" (defScope s_word_of_sum) s.heap.objs.size a_word_of_sum cdv)) → DSs (CxD P w K mg base N_word_of_sum "word_of_sum" s_word_of_sum a_word_of_sum cdv A outer s H E) (fun cls d _ H => E cls d H) (defBody s_word_of_sum) B_word_of_sum := fun cdv A outer s H E hr =>
  (dss_one (ds_ret (de_orV (de_join de_str (de_df (df_lc (own := [("one", 1), ("other", 2)]) rfl S_word_of_sum.nd (di_seq (de_var 0)) (blkOk_by (N := N_word_of_sum) (sc := defScope s_word_of_sum) (own := [("one", 1), ("other", 2)]) (by decide +kernel)) (fun _ _ _ _ _ => (dgc_tupX rfl (dgsc_cons (dgc_name (i := 1) S_word_of_sum.nd (by decide)) (dgsc_cons (dgc_name (i := 2) S_word_of_sum.nd (by decide)) dgsc_nil)))) (fun _ _ _ _ _ => dts_nil) (fun _ _ _ _ _ => (de_joined (dj_cons (de_fmtB nd_D (de_var 1)) (dj_cons de_str (dj_cons (de_fmtB nd_D (de_var 2)) dj_nil)))))))) (de_one de_str))))
theorem ok_word_of_sum {a_word_of_sum : Addr} {fd_word_of_sum : FuncData} (F : Fun K "word_of_sum" "word_of_sum" s_word_of_sum a_word_of_sum fd_word_of_sum)
    (nd_D : PySem.W.nsIn K cStatics "sys.int_max_str_digits" = some none) :
    FnOk P w K mg base (L2.CX P w) 1 a_word_of_sum fd_word_of_sum ["pairs"] (spD K mg 1 g_word_of_sum) :=
  fn_d (k := 0) (N := N_word_of_sum) (ps := ["pairs"]) (gs := B_word_of_sum) F S_word_of_sum (by decide) (bd_word_of_sum nd_D)
theorem bd__law_box {a__law_box : Addr}
    (m_abs : mg "abs" = none)
    (m_int : mg "int" = none)
    (m_len : mg "len" = none) :
    ∀ (cdv : Value) (A : Around) (outer : List PySem.Env) (s : Shared) (H : Hp) (E : XK), Room 0 (A.deeper (envOfC "_law_box" (defScope s__law_box) s.heap.objs.size a__law_box cdv)) → DSs (CxD P w K mg base N__law_box "_law_box" s__law_box a__law_box cdv A outer s H E) (fun cls d _ H => E cls d H) (defBody s__law_box) B__law_box := fun cdv A outer s H E hr =>
  (dss_cons (ds_set (i := 2) S__law_box.nd (de_if (dt_lt (de_var 1) (de_lenX (da_cons (de_var 0) da_nil) m_len)) (de_ix (fun _ _ => rfl) (de_var 0) (de_var 1)) de_int))
  (dss_one (ds_retF (df_lst (da_cons (de_mul (de_abs (da_cons (de_var 2) da_nil) m_abs) (de_intc (da_cons (de_ge (de_abs (da_cons (de_var 2) da_nil) m_abs) (de_pow de_int de_int)) da_nil) m_int)) (da_cons (de_add (de_add (de_mod (de_intc (da_cons (de_var 2) da_nil) m_int) de_int) (de_mul de_int (de_var 1))) de_int) (da_cons de_int da_nil)))))))
theorem ok__law_box {a__law_box : Addr} {fd__law_box : FuncData} (F : Fun K "_law_box" "_law_box" s__law_box a__law_box fd__law_box)
    (m_abs : mg "abs" = none)
    (m_int : mg "int" = none)
    (m_len : mg "len" = none) :
    FnOk P w K mg base (L2.CX P w) 1 a__law_box fd__law_box ["script", "k"] (spF K mg 2 g__law_box) :=
  fn_f (k := 0) (N := N__law_box) (ps := ["script", "k"]) (gs := B__law_box) F S__law_box (by decide) (bd__law_box m_abs m_int m_len)
theorem bd__law_take {a__law_take : Addr}
    (m_int : mg "int" = none) :
    ∀ (cdv : Value) (A : Around) (outer : List PySem.Env) (s : Shared) (H : Hp) (E : XK), Room 0 (A.deeper (envOfC "_law_take" (defScope s__law_take) s.heap.objs.size a__law_take cdv)) → DSs (CxD P w K mg base N__law_take "_law_take" s__law_take a__law_take cdv A outer s H E) (fun cls d _ H => E cls d H) (defBody s__law_take) B__law_take := fun cdv A outer s H E hr =>
  (dss_cons (ds_if (dt_gt (de_ixo (i := 0) (fun _ _ => rfl) de_int) de_int) (dss_cons (ds_set (i := 2) S__law_take.nd (de_mod (de_intc (da_cons (de_ixo (i := 0) (fun _ _ => rfl) de_int) da_nil) m_int) (de_var 1)))
  (dss_cons (ds_sub (i := 0) (de_fdiv (de_ixo (i := 0) (fun _ _ => rfl) de_int) (de_var 1)) de_int)
  (dss_one (ds_ret (de_var 2))))) dss_nil)
  (dss_cons (ds_sub (i := 0) (de_add (de_ixo (i := 0) (fun _ _ => rfl) de_int) de_int) de_int)
  (dss_cons (ds_set (i := 3) S__law_take.nd (de_mod (de_intc (da_cons (de_mul (de_add (de_ixo (i := 0) (fun _ _ => rfl) de_int) (de_mul de_int (de_ixo (i := 0) (fun _ _ => rfl) de_int))) (de_add de_int (de_ixo (i := 0) (fun _ _ => rfl) de_int))) da_nil) m_int) de_int))
  (dss_cons (ds_set (i := 4) S__law_take.nd (de_add (de_mod (de_intc (da_cons (de_var 3) da_nil) m_int) de_int) de_int))
  (dss_cons (ds_set (i := 5) S__law_take.nd (de_mod (de_intc (da_cons (de_mul (de_add (de_add (de_var 3) (de_ixo (i := 0) (fun _ _ => rfl) de_int)) (de_fdiv (de_ixo (i := 0) (fun _ _ => rfl) de_int) de_int)) (de_var 4)) da_nil) m_int) de_int))
  (dss_one (ds_ret (de_mod (de_intc (da_cons (de_fdiv (de_mod (de_intc (da_cons (de_add (de_mul (de_var 5) de_int) (de_var 3)) da_nil) m_int) de_int) de_int) da_nil) m_int) (de_var 1)))))))))
theorem ok__law_take {a__law_take : Addr} {fd__law_take : FuncData} (F : Fun K "_law_take" "_law_take" s__law_take a__law_take fd__law_take)
    (m_int : mg "int" = none) :
    FnOk P w K mg base (L2.CX P w) 1 a__law_take fd__law_take ["tin", "below_so"] (spD K mg 2 g__law_take) :=
  fn_d (k := 0) (N := N__law_take) (ps := ["tin", "below_so"]) (gs := B__law_take) F S__law_take (by decide) (bd__law_take m_int)
theorem bd__law_cells {a__law_cells : Addr}
    (m_enumerate : mg "enumerate" = none)
    (m_int : mg "int" = none)
    (m_list : mg "list" = none) :
    ∀ (cdv : Value) (A : Around) (outer : List PySem.Env) (s : Shared) (H : Hp) (E : XK), Room 0 (A.deeper (envOfC "_law_cells" (defScope s__law_cells) s.heap.objs.size a__law_cells cdv)) → DSs (CxD P w K mg base N__law_cells "_law_cells" s__law_cells a__law_cells cdv A outer s H E) (fun cls d _ H => E cls d H) (defBody s__law_cells) B__law_cells := fun cdv A outer s H E hr =>
  (dss_cons (ds_own (i := 2) S__law_cells.nd (df_or (df_list (da_cons (de_slice (de_var 0) do_none (do_some (de_var 1))) da_nil) m_list) (df_one (df_lst (da_cons de_int da_nil)))))
  (dss_cons (ds_for own_cx rfl (di_enum m_enumerate (da_cons (de_slice (de_var 0) (do_some (de_var 1)) (do_some de_int)) da_nil)) (dg_tup rfl (dgs_cons (dg_name (i := 3) S__law_cells.nd) (dgs_cons (dg_name (i := 4) S__law_cells.nd) dgs_nil))) (dss_cons (ds_set (i := 5) S__law_cells.nd (de_mod (de_intc (da_cons (de_var 3) da_nil) m_int) (de_var 1)))
  (dss_one (ds_sub (i := 2) (de_add (de_ixo (i := 2) (fun _ _ => rfl) (de_var 5)) (de_mul (de_var 4) (de_add (de_var 3) de_int))) (de_var 5)))))
  (dss_one (ds_ret (de_var 2)))))
theorem ok__law_cells {a__law_cells : Addr} {fd__law_cells : FuncData} (F : Fun K "_law_cells" "_law_cells" s__law_cells a__law_cells fd__law_cells)
    (m_enumerate : mg "enumerate" = none)
    (m_int : mg "int" = none)
    (m_list : mg "list" = none) :
    FnOk P w K mg base (L2.CX P w) 1 a__law_cells fd__law_cells ["script", "most_so"] (spD K mg 2 g__law_cells) :=
  fn_d (k := 0) (N := N__law_cells) (ps := ["script", "most_so"]) (gs := B__law_cells) F S__law_cells (by decide) (bd__law_cells m_enumerate m_int m_list)
theorem bd__law_row_word {a__law_row_word : Addr}
    (nd_D : PySem.W.nsIn K cStatics "sys.int_max_str_digits" = some none)
    (m_str : mg "str" = none) :
    ∀ (cdv : Value) (A : Around) (outer : List PySem.Env) (s : Shared) (H : Hp) (E : XK), Room 0 (A.deeper (envOfC "_law_row_word" (defScope s__law_row_word) s.heap.objs.size a__law_row_word cdv)) → DSs (CxD P w K mg base N__law_row_word "_law_row_word" s__law_row_word a__law_row_word cdv A outer s H E) (fun cls d _ H => E cls d H) (defBody s__law_row_word) B__law_row_word := fun cdv A outer s H E hr =>
  (dss_one (ds_ret (de_if (dt_ne (hu64 hr) (de_var 0) (de_tup da_nil)) (de_join de_str (de_df (df_lc (own := [("its", 1)]) rfl S__law_row_word.nd (di_seq (de_var 0)) (blkOk_by (N := N__law_row_word) (sc := defScope s__law_row_word) (own := [("its", 1)]) (by decide +kernel)) (fun _ _ _ _ _ => (dgc_name (i := 1) S__law_row_word.nd (by decide))) (fun _ _ _ _ _ => dts_nil) (fun _ _ _ _ _ => (de_strB (da_cons (de_var 1) da_nil) nd_D m_str))))) de_str)))
theorem ok__law_row_word {a__law_row_word : Addr} {fd__law_row_word : FuncData} (F : Fun K "_law_row_word" "_law_row_word" s__law_row_word a__law_row_word fd__law_row_word)
    (nd_D : PySem.W.nsIn K cStatics "sys.int_max_str_digits" = some none)
    (m_str : mg "str" = none) :
    FnOk P w K mg base (L2.CX P w) 1 a__law_row_word fd__law_row_word ["row_so"] (spD K mg 1 g__law_row_word) :=
  fn_d (k := 0) (N := N__law_row_word) (ps := ["row_so"]) (gs := B__law_row_word) F S__law_row_word (by decide) (bd__law_row_word nd_D m_str)
theorem bd__law_mix_word {a__law_mix_word : Addr}
    (nd_D : PySem.W.nsIn K cStatics "sys.int_max_str_digits" = some none)
    (m_str : mg "str" = none) :
    ∀ (cdv : Value) (A : Around) (outer : List PySem.Env) (s : Shared) (H : Hp) (E : XK), Room 0 (A.deeper (envOfC "_law_mix_word" (defScope s__law_mix_word) s.heap.objs.size a__law_mix_word cdv)) → DSs (CxD P w K mg base N__law_mix_word "_law_mix_word" s__law_mix_word a__law_mix_word cdv A outer s H E) (fun cls d _ H => E cls d H) (defBody s__law_mix_word) B__law_mix_word := fun cdv A outer s H E hr =>
  (dss_one (ds_ret (de_if (dt_ne (hu64 hr) (de_var 0) (de_tup da_nil)) (de_join de_str (de_df (df_lc (own := [("its", 1)]) rfl S__law_mix_word.nd (di_seq (de_var 0)) (blkOk_by (N := N__law_mix_word) (sc := defScope s__law_mix_word) (own := [("its", 1)]) (by decide +kernel)) (fun _ _ _ _ _ => (dgc_name (i := 1) S__law_mix_word.nd (by decide))) (fun _ _ _ _ _ => dts_nil) (fun _ _ _ _ _ => (de_addX (de_addX (de_strB (da_cons (de_ix (fun _ _ => rfl) (de_var 1) de_int) da_nil) nd_D m_str) de_str) (de_strB (da_cons (de_ix (fun _ _ => rfl) (de_var 1) de_int) da_nil) nd_D m_str)))))) de_str)))
theorem ok__law_mix_word {a__law_mix_word : Addr} {fd__law_mix_word : FuncData} (F : Fun K "_law_mix_word" "_law_mix_word" s__law_mix_word a__law_mix_word fd__law_mix_word)
    (nd_D : PySem.W.nsIn K cStatics "sys.int_max_str_digits" = some none)
    (m_str : mg "str" = none) :
    FnOk P w K mg base (L2.CX P w) 1 a__law_mix_word fd__law_mix_word ["mix_so"] (spD K mg 1 g__law_mix_word) :=
  fn_d (k := 0) (N := N__law_mix_word) (ps := ["mix_so"]) (gs := B__law_mix_word) F S__law_mix_word (by decide) (bd__law_mix_word nd_D m_str)
theorem bd_figures_in {a_figures_in : Addr}
    {a_is_figures : Addr} {fd_is_figures : FuncData} (F_is_figures : FnOk P w K mg base (L2.CX P w) 1 a_is_figures fd_is_figures ["word"] (spD K mg 1 g_is_figures)) (e_is_figures : mg "is_figures" = some (.ref a_is_figures)) (k_is_figures : PySem.W.keepIn K (.ref a_is_figures) = true) (b_is_figures : Binds K fd_is_figures ["word"] [])
    (m_all : mg "all" = none) :
    ∀ (cdv : Value) (A : Around) (outer : List PySem.Env) (s : Shared) (H : Hp) (E : XK), Room 1 (A.deeper (envOfC "figures_in" (defScope s_figures_in) s.heap.objs.size a_figures_in cdv)) → DSs (CxD P w K mg base N_figures_in "figures_in" s_figures_in a_figures_in cdv A outer s H E) (fun cls d _ H => E cls d H) (defBody s_figures_in) B_figures_in := fun cdv A outer s H E hr =>
  (dss_cons (ds_if (dt_eq (hu64 hr) (de_var 0) de_str) (dss_one (ds_ret (de_df (df_lst da_nil)))) dss_nil)
  (dss_cons (ds_set (i := 1) S_figures_in.nd (de_df (df_split (de_var 0) de_str)))
  (dss_one (ds_ret (de_if (dt_tru (de_all (da_cons (de_df (df_lc (own := [("own", 2)]) rfl S_figures_in.nd (di_seq (de_var 1)) (blkOk_by (N := N_figures_in) (sc := defScope s_figures_in) (own := [("own", 2)]) (by decide +kernel)) (fun _ _ _ _ _ => (dgc_name (i := 2) S_figures_in.nd (by decide))) (fun _ _ _ _ _ => dts_nil) (fun _ _ _ _ _ => (de_call F_is_figures (hr.mono (by decide)) e_is_figures k_is_figures b_is_figures pass0 (da_cons (de_var 2) da_nil) (alenS alen0))))) da_nil) m_all)) (de_var 1) de_non)))))
theorem ok_figures_in {a_figures_in : Addr} {fd_figures_in : FuncData} (F : Fun K "figures_in" "figures_in" s_figures_in a_figures_in fd_figures_in)
    {a_is_figures : Addr} {fd_is_figures : FuncData} (F_is_figures : FnOk P w K mg base (L2.CX P w) 1 a_is_figures fd_is_figures ["word"] (spD K mg 1 g_is_figures)) (e_is_figures : mg "is_figures" = some (.ref a_is_figures)) (k_is_figures : PySem.W.keepIn K (.ref a_is_figures) = true) (b_is_figures : Binds K fd_is_figures ["word"] [])
    (m_all : mg "all" = none) :
    FnOk P w K mg base (L2.CX P w) 2 a_figures_in fd_figures_in ["word"] (spD K mg 1 g_figures_in) :=
  fn_d (k := 1) (N := N_figures_in) (ps := ["word"]) (gs := B_figures_in) F S_figures_in (by decide) (bd_figures_in F_is_figures e_is_figures k_is_figures b_is_figures m_all)
theorem bd_pairs_in {a_pairs_in : Addr}
    {a_figures_ascend : Addr} {fd_figures_ascend : FuncData} (F_figures_ascend : FnOk P w K mg base (L2.CX P w) 1 a_figures_ascend fd_figures_ascend ["words"] (spD K mg 1 g_figures_ascend)) (e_figures_ascend : mg "figures_ascend" = some (.ref a_figures_ascend)) (k_figures_ascend : PySem.W.keepIn K (.ref a_figures_ascend) = true) (b_figures_ascend : Binds K fd_figures_ascend ["words"] [])
    {a_is_figures : Addr} {fd_is_figures : FuncData} (F_is_figures : FnOk P w K mg base (L2.CX P w) 1 a_is_figures fd_is_figures ["word"] (spD K mg 1 g_is_figures)) (e_is_figures : mg "is_figures" = some (.ref a_is_figures)) (k_is_figures : PySem.W.keepIn K (.ref a_is_figures) = true) (b_is_figures : Binds K fd_is_figures ["word"] [])
    (m_all : mg "all" = none)
    (m_len : mg "len" = none) :
    ∀ (cdv : Value) (A : Around) (outer : List PySem.Env) (s : Shared) (H : Hp) (E : XK), Room 1 (A.deeper (envOfC "pairs_in" (defScope s_pairs_in) s.heap.objs.size a_pairs_in cdv)) → DSs (CxD P w K mg base N_pairs_in "pairs_in" s_pairs_in a_pairs_in cdv A outer s H E) (fun cls d _ H => E cls d H) (defBody s_pairs_in) B_pairs_in := fun cdv A outer s H E hr =>
  (dss_cons (ds_if (dt_eq (hu64 hr) (de_var 0) de_str) (dss_one (ds_ret (de_df (df_lst da_nil)))) dss_nil)
  (dss_cons (ds_setLcF (i := 1) (own := [("own", 2)]) rfl S_pairs_in.nd (di_seq (de_df (df_split (de_var 0) de_str))) (blkOk_by (N := N_pairs_in) (sc := defScope s_pairs_in) (own := [("own", 2)]) (by decide +kernel)) (fun _ _ _ _ _ => (dgc_name (i := 2) S_pairs_in.nd (by decide))) (fun _ _ _ _ _ => dts_nil) (fun _ _ _ _ _ => (de_df (df_split (de_var 2) de_str))) (sw_true rfl rfl rfl (by decide +kernel)))
  (dss_cons (ds_if (dt_not (dt_tru (de_all (da_cons (de_df (df_lc (own := [("own", 2)]) rfl S_pairs_in.nd (di_seq (de_var 1)) (blkOk_by (N := N_pairs_in) (sc := defScope s_pairs_in) (own := [("own", 2)]) (by decide +kernel)) (fun _ _ _ _ _ => (dgc_name (i := 2) S_pairs_in.nd (by decide))) (fun _ _ _ _ _ => dts_nil) (fun _ _ _ _ _ => (de_and (de_eq (hu64 hr) (de_lenX (da_cons (de_var 2) da_nil) m_len) de_int) (de_and (de_call F_is_figures (hr.mono (by decide)) e_is_figures k_is_figures b_is_figures pass0 (da_cons (de_ix (fun _ _ => rfl) (de_var 2) de_int) da_nil) (alenS alen0)) (de_and (de_call F_is_figures (hr.mono (by decide)) e_is_figures k_is_figures b_is_figures pass0 (da_cons (de_ix (fun _ _ => rfl) (de_var 2) de_int) da_nil) (alenS alen0)) (de_one (de_ne (hu64 hr) (de_ix (fun _ _ => rfl) (de_var 2) de_int) de_str)))))))) da_nil) m_all))) (dss_one (ds_ret de_non)) dss_nil)
  (dss_one (ds_ret (de_if (dt_tru (de_call F_figures_ascend (hr.mono (by decide)) e_figures_ascend k_figures_ascend b_figures_ascend pass_cx (da_cons (de_df (df_lc (own := [("own", 2)]) rfl S_pairs_in.nd (di_seq (de_var 1)) (blkOk_by (N := N_pairs_in) (sc := defScope s_pairs_in) (own := [("own", 2)]) (by decide +kernel)) (fun _ _ _ _ _ => (dgc_name (i := 2) S_pairs_in.nd (by decide))) (fun _ _ _ _ _ => dts_nil) (fun _ _ _ _ _ => (de_ix (fun _ _ => rfl) (de_var 2) de_int)))) da_nil) (alenS alen0))) (de_df (df_lc (own := [("own", 2)]) rfl S_pairs_in.nd (di_seq (de_var 1)) (blkOk_by (N := N_pairs_in) (sc := defScope s_pairs_in) (own := [("own", 2)]) (by decide +kernel)) (fun _ _ _ _ _ => (dgc_name (i := 2) S_pairs_in.nd (by decide))) (fun _ _ _ _ _ => dts_nil) (fun _ _ _ _ _ => (de_tup (da_cons (de_ix (fun _ _ => rfl) (de_var 2) de_int) (da_cons (de_ix (fun _ _ => rfl) (de_var 2) de_int) da_nil)))))) de_non))))))
theorem ok_pairs_in {a_pairs_in : Addr} {fd_pairs_in : FuncData} (F : Fun K "pairs_in" "pairs_in" s_pairs_in a_pairs_in fd_pairs_in)
    {a_figures_ascend : Addr} {fd_figures_ascend : FuncData} (F_figures_ascend : FnOk P w K mg base (L2.CX P w) 1 a_figures_ascend fd_figures_ascend ["words"] (spD K mg 1 g_figures_ascend)) (e_figures_ascend : mg "figures_ascend" = some (.ref a_figures_ascend)) (k_figures_ascend : PySem.W.keepIn K (.ref a_figures_ascend) = true) (b_figures_ascend : Binds K fd_figures_ascend ["words"] [])
    {a_is_figures : Addr} {fd_is_figures : FuncData} (F_is_figures : FnOk P w K mg base (L2.CX P w) 1 a_is_figures fd_is_figures ["word"] (spD K mg 1 g_is_figures)) (e_is_figures : mg "is_figures" = some (.ref a_is_figures)) (k_is_figures : PySem.W.keepIn K (.ref a_is_figures) = true) (b_is_figures : Binds K fd_is_figures ["word"] [])
    (m_all : mg "all" = none)
    (m_len : mg "len" = none) :
    FnOk P w K mg base (L2.CX P w) 2 a_pairs_in fd_pairs_in ["word"] (spD K mg 1 g_pairs_in) :=
  fn_d (k := 1) (N := N_pairs_in) (ps := ["word"]) (gs := B_pairs_in) F S_pairs_in (by decide) (bd_pairs_in F_figures_ascend e_figures_ascend k_figures_ascend b_figures_ascend F_is_figures e_is_figures k_is_figures b_is_figures m_all m_len)
theorem bd_run_word {a_run_word : Addr}
    {a_word_of : Addr} {fd_word_of : FuncData} (F_word_of : FnOk P w K mg base (L2.CX P w) 1 a_word_of fd_word_of ["numbers"] (spD K mg 1 g_word_of)) (e_word_of : mg "word_of" = some (.ref a_word_of)) (k_word_of : PySem.W.keepIn K (.ref a_word_of) = true) (b_word_of : Binds K fd_word_of ["numbers"] []) :
    ∀ (cdv : Value) (A : Around) (outer : List PySem.Env) (s : Shared) (H : Hp) (E : XK), Room 1 (A.deeper (envOfC "run_word" (defScope s_run_word) s.heap.objs.size a_run_word cdv)) → DSs (CxD P w K mg base N_run_word "run_word" s_run_word a_run_word cdv A outer s H E) (fun cls d _ H => E cls d H) (defBody s_run_word) B_run_word := fun cdv A outer s H E hr =>
  (dss_one (ds_ret (de_call F_word_of (hr.mono (by decide)) e_word_of k_word_of b_word_of pass_cx (da_cons (de_var 0) da_nil) (alenS alen0))))
theorem ok_run_word {a_run_word : Addr} {fd_run_word : FuncData} (F : Fun K "run_word" "run_word" s_run_word a_run_word fd_run_word)
    {a_word_of : Addr} {fd_word_of : FuncData} (F_word_of : FnOk P w K mg base (L2.CX P w) 1 a_word_of fd_word_of ["numbers"] (spD K mg 1 g_word_of)) (e_word_of : mg "word_of" = some (.ref a_word_of)) (k_word_of : PySem.W.keepIn K (.ref a_word_of) = true) (b_word_of : Binds K fd_word_of ["numbers"] []) :
    FnOk P w K mg base (L2.CX P w) 2 a_run_word fd_run_word ["run"] (spD K mg 1 g_run_word) :=
  fn_d (k := 1) (N := N_run_word) (ps := ["run"]) (gs := B_run_word) F S_run_word (by decide) (bd_run_word F_word_of e_word_of k_word_of b_word_of)
theorem bd_sum_word {a_sum_word : Addr}
    {a_word_of_sum : Addr} {fd_word_of_sum : FuncData} (F_word_of_sum : FnOk P w K mg base (L2.CX P w) 1 a_word_of_sum fd_word_of_sum ["pairs"] (spD K mg 1 g_word_of_sum)) (e_word_of_sum : mg "word_of_sum" = some (.ref a_word_of_sum)) (k_word_of_sum : PySem.W.keepIn K (.ref a_word_of_sum) = true) (b_word_of_sum : Binds K fd_word_of_sum ["pairs"] []) :
    ∀ (cdv : Value) (A : Around) (outer : List PySem.Env) (s : Shared) (H : Hp) (E : XK), Room 1 (A.deeper (envOfC "sum_word" (defScope s_sum_word) s.heap.objs.size a_sum_word cdv)) → DSs (CxD P w K mg base N_sum_word "sum_word" s_sum_word a_sum_word cdv A outer s H E) (fun cls d _ H => E cls d H) (defBody s_sum_word) B_sum_word := fun cdv A outer s H E hr =>
  (dss_one (ds_ret (de_call F_word_of_sum (hr.mono (by decide)) e_word_of_sum k_word_of_sum b_word_of_sum pass_cx (da_cons (de_var 0) da_nil) (alenS alen0))))
theorem ok_sum_word {a_sum_word : Addr} {fd_sum_word : FuncData} (F : Fun K "sum_word" "sum_word" s_sum_word a_sum_word fd_sum_word)
    {a_word_of_sum : Addr} {fd_word_of_sum : FuncData} (F_word_of_sum : FnOk P w K mg base (L2.CX P w) 1 a_word_of_sum fd_word_of_sum ["pairs"] (spD K mg 1 g_word_of_sum)) (e_word_of_sum : mg "word_of_sum" = some (.ref a_word_of_sum)) (k_word_of_sum : PySem.W.keepIn K (.ref a_word_of_sum) = true) (b_word_of_sum : Binds K fd_word_of_sum ["pairs"] []) :
    FnOk P w K mg base (L2.CX P w) 2 a_sum_word fd_sum_word ["pairs"] (spD K mg 1 g_sum_word) :=
  fn_d (k := 1) (N := N_sum_word) (ps := ["pairs"]) (gs := B_sum_word) F S_sum_word (by decide) (bd_sum_word F_word_of_sum e_word_of_sum k_word_of_sum b_word_of_sum)
theorem bd__law_of {a__law_of : Addr}
    {a__law_take : Addr} {fd__law_take : FuncData} (F__law_take : FnOk P w K mg base (L2.CX P w) 1 a__law_take fd__law_take ["tin", "below_so"] (spD K mg 2 g__law_take)) (e__law_take : mg "_law_take" = some (.ref a__law_take)) (k__law_take : PySem.W.keepIn K (.ref a__law_take) = true) (b__law_take : Binds K fd__law_take ["tin", "below_so"] [])
    (m_len : mg "len" = none) :
    ∀ (cdv : Value) (A : Around) (outer : List PySem.Env) (s : Shared) (H : Hp) (E : XK), Room 1 (A.deeper (envOfC "_law_of" (defScope s__law_of) s.heap.objs.size a__law_of cdv)) → DSs (CxD P w K mg base N__law_of "_law_of" s__law_of a__law_of cdv A outer s H E) (fun cls d _ H => E cls d H) (defBody s__law_of) B__law_of := fun cdv A outer s H E hr =>
  (dss_one (ds_ret (de_ix (fun _ _ => rfl) (de_var 1) (de_callO (i := 0) F__law_take (hr.mono (by decide)) e__law_take k__law_take b__law_take pass_cx (da_cons (de_lenX (da_cons (de_var 1) da_nil) m_len) da_nil) (alenO (alenS alen0))))))
theorem ok__law_of {a__law_of : Addr} {fd__law_of : FuncData} (F : Fun K "_law_of" "_law_of" s__law_of a__law_of fd__law_of)
    {a__law_take : Addr} {fd__law_take : FuncData} (F__law_take : FnOk P w K mg base (L2.CX P w) 1 a__law_take fd__law_take ["tin", "below_so"] (spD K mg 2 g__law_take)) (e__law_take : mg "_law_take" = some (.ref a__law_take)) (k__law_take : PySem.W.keepIn K (.ref a__law_take) = true) (b__law_take : Binds K fd__law_take ["tin", "below_so"] [])
    (m_len : mg "len" = none) :
    FnOk P w K mg base (L2.CX P w) 2 a__law_of fd__law_of ["tin", "goods_so"] (spD K mg 2 g__law_of) :=
  fn_d (k := 1) (N := N__law_of) (ps := ["tin", "goods_so"]) (gs := B__law_of) F S__law_of (by decide) (bd__law_of F__law_take e__law_take k__law_take b__law_take m_len)
theorem bd_run_read {a_run_read : Addr}
    {a_figures_in : Addr} {fd_figures_in : FuncData} (F_figures_in : FnOk P w K mg base (L2.CX P w) 2 a_figures_in fd_figures_in ["word"] (spD K mg 1 g_figures_in)) (e_figures_in : mg "figures_in" = some (.ref a_figures_in)) (k_figures_in : PySem.W.keepIn K (.ref a_figures_in) = true) (b_figures_in : Binds K fd_figures_in ["word"] [])
    {a_numbers_of : Addr} {fd_numbers_of : FuncData} (F_numbers_of : FnOk P w K mg base (L2.CX P w) 1 a_numbers_of fd_numbers_of ["words"] (spD K mg 1 g_numbers_of)) (e_numbers_of : mg "numbers_of" = some (.ref a_numbers_of)) (k_numbers_of : PySem.W.keepIn K (.ref a_numbers_of) = true) (b_numbers_of : Binds K fd_numbers_of ["words"] []) :
    ∀ (cdv : Value) (A : Around) (outer : List PySem.Env) (s : Shared) (H : Hp) (E : XK), Room 2 (A.deeper (envOfC "run_read" (defScope s_run_read) s.heap.objs.size a_run_read cdv)) → DSs (CxD P w K mg base N_run_read "run_read" s_run_read a_run_read cdv A outer s H E) (fun cls d _ H => E cls d H) (defBody s_run_read) B_run_read := fun cdv A outer s H E hr =>
  (dss_cons (ds_set (i := 1) S_run_read.nd (de_call F_figures_in (hr.mono (by decide)) e_figures_in k_figures_in b_figures_in pass_cx (da_cons (de_var 0) da_nil) (alenS alen0)))
  (dss_one (ds_ret (de_if (dt_is (de_var 1) de_non) de_non (de_call F_numbers_of (hr.mono (by decide)) e_numbers_of k_numbers_of b_numbers_of pass_cx (da_cons (de_var 1) da_nil) (alenS alen0))))))
theorem ok_run_read {a_run_read : Addr} {fd_run_read : FuncData} (F : Fun K "run_read" "run_read" s_run_read a_run_read fd_run_read)
    {a_figures_in : Addr} {fd_figures_in : FuncData} (F_figures_in : FnOk P w K mg base (L2.CX P w) 2 a_figures_in fd_figures_in ["word"] (spD K mg 1 g_figures_in)) (e_figures_in : mg "figures_in" = some (.ref a_figures_in)) (k_figures_in : PySem.W.keepIn K (.ref a_figures_in) = true) (b_figures_in : Binds K fd_figures_in ["word"] [])
    {a_numbers_of : Addr} {fd_numbers_of : FuncData} (F_numbers_of : FnOk P w K mg base (L2.CX P w) 1 a_numbers_of fd_numbers_of ["words"] (spD K mg 1 g_numbers_of)) (e_numbers_of : mg "numbers_of" = some (.ref a_numbers_of)) (k_numbers_of : PySem.W.keepIn K (.ref a_numbers_of) = true) (b_numbers_of : Binds K fd_numbers_of ["words"] []) :
    FnOk P w K mg base (L2.CX P w) 3 a_run_read fd_run_read ["word"] (spD K mg 1 g_run_read) :=
  fn_d (k := 2) (N := N_run_read) (ps := ["word"]) (gs := B_run_read) F S_run_read (by decide) (bd_run_read F_figures_in e_figures_in k_figures_in b_figures_in F_numbers_of e_numbers_of k_numbers_of b_numbers_of)
theorem bd_sum_read {a_sum_read : Addr}
    {a_numbers_of_pairs : Addr} {fd_numbers_of_pairs : FuncData} (F_numbers_of_pairs : FnOk P w K mg base (L2.CX P w) 1 a_numbers_of_pairs fd_numbers_of_pairs ["pairs"] (spD K mg 1 g_numbers_of_pairs)) (e_numbers_of_pairs : mg "numbers_of_pairs" = some (.ref a_numbers_of_pairs)) (k_numbers_of_pairs : PySem.W.keepIn K (.ref a_numbers_of_pairs) = true) (b_numbers_of_pairs : Binds K fd_numbers_of_pairs ["pairs"] [])
    {a_pairs_in : Addr} {fd_pairs_in : FuncData} (F_pairs_in : FnOk P w K mg base (L2.CX P w) 2 a_pairs_in fd_pairs_in ["word"] (spD K mg 1 g_pairs_in)) (e_pairs_in : mg "pairs_in" = some (.ref a_pairs_in)) (k_pairs_in : PySem.W.keepIn K (.ref a_pairs_in) = true) (b_pairs_in : Binds K fd_pairs_in ["word"] []) :
    ∀ (cdv : Value) (A : Around) (outer : List PySem.Env) (s : Shared) (H : Hp) (E : XK), Room 2 (A.deeper (envOfC "sum_read" (defScope s_sum_read) s.heap.objs.size a_sum_read cdv)) → DSs (CxD P w K mg base N_sum_read "sum_read" s_sum_read a_sum_read cdv A outer s H E) (fun cls d _ H => E cls d H) (defBody s_sum_read) B_sum_read := fun cdv A outer s H E hr =>
  (dss_cons (ds_set (i := 1) S_sum_read.nd (de_call F_pairs_in (hr.mono (by decide)) e_pairs_in k_pairs_in b_pairs_in pass_cx (da_cons (de_var 0) da_nil) (alenS alen0)))
  (dss_one (ds_ret (de_if (dt_is (de_var 1) de_non) de_non (de_call F_numbers_of_pairs (hr.mono (by decide)) e_numbers_of_pairs k_numbers_of_pairs b_numbers_of_pairs pass_cx (da_cons (de_var 1) da_nil) (alenS alen0))))))
theorem ok_sum_read {a_sum_read : Addr} {fd_sum_read : FuncData} (F : Fun K "sum_read" "sum_read" s_sum_read a_sum_read fd_sum_read)
    {a_numbers_of_pairs : Addr} {fd_numbers_of_pairs : FuncData} (F_numbers_of_pairs : FnOk P w K mg base (L2.CX P w) 1 a_numbers_of_pairs fd_numbers_of_pairs ["pairs"] (spD K mg 1 g_numbers_of_pairs)) (e_numbers_of_pairs : mg "numbers_of_pairs" = some (.ref a_numbers_of_pairs)) (k_numbers_of_pairs : PySem.W.keepIn K (.ref a_numbers_of_pairs) = true) (b_numbers_of_pairs : Binds K fd_numbers_of_pairs ["pairs"] [])
    {a_pairs_in : Addr} {fd_pairs_in : FuncData} (F_pairs_in : FnOk P w K mg base (L2.CX P w) 2 a_pairs_in fd_pairs_in ["word"] (spD K mg 1 g_pairs_in)) (e_pairs_in : mg "pairs_in" = some (.ref a_pairs_in)) (k_pairs_in : PySem.W.keepIn K (.ref a_pairs_in) = true) (b_pairs_in : Binds K fd_pairs_in ["word"] []) :
    FnOk P w K mg base (L2.CX P w) 3 a_sum_read fd_sum_read ["word"] (spD K mg 1 g_sum_read) :=
  fn_d (k := 2) (N := N_sum_read) (ps := ["word"]) (gs := B_sum_read) F S_sum_read (by decide) (bd_sum_read F_numbers_of_pairs e_numbers_of_pairs k_numbers_of_pairs b_numbers_of_pairs F_pairs_in e_pairs_in k_pairs_in b_pairs_in)
theorem st__law_lists {a__law_lists : Addr} {fd__law_lists : FuncData} (F : Fun K "_law_lists" "_law_lists" s__law_lists a__law_lists fd__law_lists) {n : Nat} (F__law_lists : FnOk P w K mg base (L2.CX P w) n a__law_lists fd__law_lists ["matter"] (spD K mg 1 (gr__law_lists n))) (e__law_lists : mg "_law_lists" = some (.ref a__law_lists)) (k__law_lists : PySem.W.keepIn K (.ref a__law_lists) = true) (b__law_lists : Binds K fd__law_lists ["matter"] [])
    (m_isinstance : mg "isinstance" = none)
    (m_list : mg "list" = none)
    (m_tuple : mg "tuple" = none) :
    FnOk P w K mg base (L2.CX P w) (n + 0 + 1) a__law_lists fd__law_lists ["matter"] (spD K mg 1 (gr__law_lists (n + 1))) :=
  fn_d F S__law_lists (by decide) fun cdv A outer s H E hr =>
  (dss_one (ds_ret (de_if (dt_tru (de_isi2 "list" "tuple" (by decide) (by decide) m_isinstance m_list bt_list m_tuple bt_tuple (de_var 0))) (de_df (df_lc (own := [("bit", 1)]) rfl S__law_lists.nd (di_seq (de_var 0)) (blkOk_by (N := N__law_lists) (sc := defScope s__law_lists) (own := [("bit", 1)]) (by decide +kernel)) (fun _ _ _ _ _ => (dgc_name (i := 1) S__law_lists.nd (by decide))) (fun _ _ _ _ _ => dts_nil) (fun _ _ _ _ _ => (de_call F__law_lists (hr.mono (Nat.le_refl _)) e__law_lists k__law_lists b__law_lists pass0 (da_cons (de_var 1) da_nil) (alenS alen0))))) (de_var 0))))
theorem ok__law_lists {a__law_lists : Addr} {fd__law_lists : FuncData} (F : Fun K "_law_lists" "_law_lists" s__law_lists a__law_lists fd__law_lists) (e__law_lists : mg "_law_lists" = some (.ref a__law_lists)) (k__law_lists : PySem.W.keepIn K (.ref a__law_lists) = true) (b__law_lists : Binds K fd__law_lists ["matter"] [])
    (m_isinstance : mg "isinstance" = none)
    (m_list : mg "list" = none)
    (m_tuple : mg "tuple" = none) :
    FnOk P w K mg base (L2.CX P w) 16 a__law_lists fd__law_lists ["matter"] (spD K mg 1 g__law_lists) := by
  have go : ∀ n, FnOk P w K mg base (L2.CX P w) n a__law_lists fd__law_lists ["matter"] (spD K mg 1 (gr__law_lists n)) := fun n => by
    induction n with
    | zero => exact fn_none
    | succ n ih => exact st__law_lists F ih e__law_lists k__law_lists b__law_lists m_isinstance m_list m_tuple
  exact go 16
theorem st__law_same {a__law_same : Addr} {fd__law_same : FuncData} (F : Fun K "_law_same" "_law_same" s__law_same a__law_same fd__law_same) {n : Nat} (F__law_same : FnOk P w K mg base (L2.CX P w) n a__law_same fd__law_same ["got", "due"] (spD K mg 2 (gr__law_same n))) (e__law_same : mg "_law_same" = some (.ref a__law_same)) (k__law_same : PySem.W.keepIn K (.ref a__law_same) = true) (b__law_same : Binds K fd__law_same ["got", "due"] [])
    (m_all : mg "all" = none)
    (m_bool : mg "bool" = none)
    (m_int : mg "int" = none)
    (m_isinstance : mg "isinstance" = none)
    (m_len : mg "len" = none)
    (m_list : mg "list" = none)
    (m_str : mg "str" = none)
    (m_tuple : mg "tuple" = none)
    (m_zip : mg "zip" = none) :
    FnOk P w K mg base (L2.CX P w) (n + 0 + 1) a__law_same fd__law_same ["got", "due"] (spD K mg 2 (gr__law_same (n + 1))) :=
  fn_d F S__law_same (by decide) fun cdv A outer s H E hr =>
  (dss_cons (ds_if (dt_tru (de_isi2 "list" "tuple" (by decide) (by decide) m_isinstance m_list bt_list m_tuple bt_tuple (de_var 1))) (dss_cons (ds_if (dt_w (dw_or (dt_ne (hu64 hr) (de_isi1 "list" (by decide) m_isinstance m_list bt_list (de_var 0)) (de_isi1 "list" (by decide) m_isinstance m_list bt_list (de_var 1))) (dw_or1 (dt_ne (hu64 hr) (de_isi1 "tuple" (by decide) m_isinstance m_tuple bt_tuple (de_var 0)) (de_isi1 "tuple" (by decide) m_isinstance m_tuple bt_tuple (de_var 1)))))) (dss_one (ds_ret de_bl)) dss_nil)
  (dss_one (ds_ret (de_and (de_eq (hu64 hr) (de_lenX (da_cons (de_var 0) da_nil) m_len) (de_lenX (da_cons (de_var 1) da_nil) m_len)) (de_one (de_all (da_cons (de_df (df_lc (own := [("mine", 2), ("its", 3)]) rfl S__law_same.nd (di_zip m_zip (da_cons (de_var 0) (da_cons (de_var 1) da_nil))) (blkOk_by (N := N__law_same) (sc := defScope s__law_same) (own := [("mine", 2), ("its", 3)]) (by decide +kernel)) (fun _ _ _ _ _ => (dgc_tup rfl (dgsc_cons (dgc_name (i := 2) S__law_same.nd (by decide)) (dgsc_cons (dgc_name (i := 3) S__law_same.nd (by decide)) dgsc_nil)))) (fun _ _ _ _ _ => dts_nil) (fun _ _ _ _ _ => (de_call F__law_same (hr.mono (Nat.le_refl _)) e__law_same k__law_same b__law_same pass0 (da_cons (de_var 2) (da_cons (de_var 3) da_nil)) (alenS (alenS alen0)))))) da_nil) m_all)))))) dss_nil)
  (dss_cons (ds_if (dt_w (dw_or (dt_is (de_var 1) de_non) (dw_or1 (dt_tru (de_isi2 "bool" "str" (by decide) (by decide) m_isinstance m_bool bt_bool m_str bt_str (de_var 1)))))) (dss_one (ds_ret (de_and (de_eq (hu64 hr) (de_var 0) (de_var 1)) (de_and (de_eq (hu64 hr) (de_isi1 "bool" (by decide) m_isinstance m_bool bt_bool (de_var 0)) (de_isi1 "bool" (by decide) m_isinstance m_bool bt_bool (de_var 1))) (de_one (de_eq (hu64 hr) (de_is (de_var 0) de_non) (de_is (de_var 1) de_non))))))) dss_nil)
  (dss_one (ds_ret (de_and (de_isi1 "int" (by decide) m_isinstance m_int bt_int (de_var 0)) (de_and (de_not (de_isi1 "bool" (by decide) m_isinstance m_bool bt_bool (de_var 0))) (de_one (de_eq (hu64 hr) (de_var 0) (de_var 1)))))))))
theorem ok__law_same {a__law_same : Addr} {fd__law_same : FuncData} (F : Fun K "_law_same" "_law_same" s__law_same a__law_same fd__law_same) (e__law_same : mg "_law_same" = some (.ref a__law_same)) (k__law_same : PySem.W.keepIn K (.ref a__law_same) = true) (b__law_same : Binds K fd__law_same ["got", "due"] [])
    (m_all : mg "all" = none)
    (m_bool : mg "bool" = none)
    (m_int : mg "int" = none)
    (m_isinstance : mg "isinstance" = none)
    (m_len : mg "len" = none)
    (m_list : mg "list" = none)
    (m_str : mg "str" = none)
    (m_tuple : mg "tuple" = none)
    (m_zip : mg "zip" = none) :
    FnOk P w K mg base (L2.CX P w) 16 a__law_same fd__law_same ["got", "due"] (spD K mg 2 g__law_same) := by
  have go : ∀ n, FnOk P w K mg base (L2.CX P w) n a__law_same fd__law_same ["got", "due"] (spD K mg 2 (gr__law_same n)) := fun n => by
    induction n with
    | zero => exact fn_none
    | succ n ih => exact st__law_same F ih e__law_same k__law_same b__law_same m_all m_bool m_int m_isinstance m_len m_list m_str m_tuple m_zip
  exact go 16
theorem bd__law_odd_right {a__law_odd_right : Addr}
    {a__law_same : Addr} {fd__law_same : FuncData} (F__law_same : FnOk P w K mg base (L2.CX P w) 16 a__law_same fd__law_same ["got", "due"] (spD K mg 2 g__law_same)) (e__law_same : mg "_law_same" = some (.ref a__law_same)) (k__law_same : PySem.W.keepIn K (.ref a__law_same) = true) (b__law_same : Binds K fd__law_same ["got", "due"] [])
    {a_run_read : Addr} {fd_run_read : FuncData} (F_run_read : FnOk P w K mg base (L2.CX P w) 3 a_run_read fd_run_read ["word"] (spD K mg 1 g_run_read)) (e_run_read : mg "run_read" = some (.ref a_run_read)) (k_run_read : PySem.W.keepIn K (.ref a_run_read) = true) (b_run_read : Binds K fd_run_read ["word"] []) (kb_run_read_0 : ∀ ws : List Value, ws.length = 1 → bindArgs fd_run_read ⟨[], List.zip (["word"] : List Str) ws⟩ = (pure (List.zip (["word"] : List Str) (pick [0] ws)) : Sem (List (Str × Value))))
    {a_sum_read : Addr} {fd_sum_read : FuncData} (F_sum_read : FnOk P w K mg base (L2.CX P w) 3 a_sum_read fd_sum_read ["word"] (spD K mg 1 g_sum_read)) (e_sum_read : mg "sum_read" = some (.ref a_sum_read)) (k_sum_read : PySem.W.keepIn K (.ref a_sum_read) = true) (b_sum_read : Binds K fd_sum_read ["word"] []) (kb_sum_read_0 : ∀ ws : List Value, ws.length = 1 → bindArgs fd_sum_read ⟨[], List.zip (["word"] : List Str) ws⟩ = (pure (List.zip (["word"] : List Str) (pick [0] ws)) : Sem (List (Str × Value)))) :
    ∀ (cdv : Value) (A : Around) (outer : List PySem.Env) (s : Shared) (H : Hp) (E : XK), Room 16 (A.deeper (envOfC "_law_odd_right" (defScope s__law_odd_right) s.heap.objs.size a__law_odd_right cdv)) → DSs (CxD P w K mg base N__law_odd_right "_law_odd_right" s__law_odd_right a__law_odd_right cdv A outer s H E) (fun cls d _ H => E cls d H) (defBody s__law_odd_right) B__law_odd_right := fun cdv A outer s H E hr =>
  (dss_cons (ds_set (i := 0) S__law_odd_right.nd (de_df (df_lst (da_cons de_str (da_cons de_str (da_cons de_str (da_cons de_str (da_cons de_str (da_cons de_str (da_cons de_str (da_cons de_str (da_cons de_str (da_cons de_str (da_cons de_str (da_cons de_str (da_cons de_str (da_cons de_str (da_cons de_str (da_cons de_str (da_cons de_str (da_cons de_str (da_cons de_str da_nil))))))))))))))))))))))
  (dss_cons (ds_setLcF (i := 1) (own := [("its", 2)]) rfl S__law_odd_right.nd (di_seq (de_var 0)) (blkOk_by (N := N__law_odd_right) (sc := defScope s__law_odd_right) (own := [("its", 2)]) (by decide +kernel)) (fun _ _ _ _ _ => (dgc_name (i := 2) S__law_odd_right.nd (by decide))) (fun _ _ _ _ _ => dts_nil) (fun _ _ _ _ _ => (de_callK0 (perm := [0]) F_run_read (hr.mono (by decide)) e_run_read k_run_read kb_run_read_0 pass0 (dk_cons (de_var 2) dk_nil) (fun ds hl => match ds, hl with | [_], _ => rfl))) (sw_true rfl rfl rfl (by decide +kernel)))
  (dss_cons (ds_set (i := 0) S__law_odd_right.nd (de_df (df_lst (da_cons de_str (da_cons de_str (da_cons de_str (da_cons de_str (da_cons de_str (da_cons de_str (da_cons de_str (da_cons de_str (da_cons de_str (da_cons de_str (da_cons de_str (da_cons de_str (da_cons de_str (da_cons de_str (da_cons de_str da_nil))))))))))))))))))
  (dss_cons (ds_set (i := 0) S__law_odd_right.nd (de_df (df_cat (de_var 0) (de_df (df_lst (da_cons de_str (da_cons de_str (da_cons de_str (da_cons de_str (da_cons de_str (da_cons de_str (da_cons de_str (da_cons de_str (da_cons de_str (da_cons de_str (da_cons de_str da_nil))))))))))))))))
  (dss_cons (ds_set (i := 1) S__law_odd_right.nd (de_df (df_cat (de_var 1) (de_df (df_lc (own := [("its", 2)]) rfl S__law_odd_right.nd (di_seq (de_var 0)) (blkOk_by (N := N__law_odd_right) (sc := defScope s__law_odd_right) (own := [("its", 2)]) (by decide +kernel)) (fun _ _ _ _ _ => (dgc_name (i := 2) S__law_odd_right.nd (by decide))) (fun _ _ _ _ _ => dts_nil) (fun _ _ _ _ _ => (de_callK0 (perm := [0]) F_sum_read (hr.mono (by decide)) e_sum_read k_sum_read kb_sum_read_0 pass0 (dk_cons (de_var 2) dk_nil) (fun ds hl => match ds, hl with | [_], _ => rfl))))))))
  (dss_one (ds_ret (de_call F__law_same (hr.mono (by decide)) e__law_same k__law_same b__law_same pass_cx (da_cons (de_var 1) (da_cons (de_df (df_rep (df_lst (da_cons de_non da_nil)) de_int)) da_nil)) (alenS (alenS alen0))))))))))
theorem ok__law_odd_right {a__law_odd_right : Addr} {fd__law_odd_right : FuncData} (F : Fun K "_law_odd_right" "_law_odd_right" s__law_odd_right a__law_odd_right fd__law_odd_right)
    {a__law_same : Addr} {fd__law_same : FuncData} (F__law_same : FnOk P w K mg base (L2.CX P w) 16 a__law_same fd__law_same ["got", "due"] (spD K mg 2 g__law_same)) (e__law_same : mg "_law_same" = some (.ref a__law_same)) (k__law_same : PySem.W.keepIn K (.ref a__law_same) = true) (b__law_same : Binds K fd__law_same ["got", "due"] [])
    {a_run_read : Addr} {fd_run_read : FuncData} (F_run_read : FnOk P w K mg base (L2.CX P w) 3 a_run_read fd_run_read ["word"] (spD K mg 1 g_run_read)) (e_run_read : mg "run_read" = some (.ref a_run_read)) (k_run_read : PySem.W.keepIn K (.ref a_run_read) = true) (b_run_read : Binds K fd_run_read ["word"] []) (kb_run_read_0 : ∀ ws : List Value, ws.length = 1 → bindArgs fd_run_read ⟨[], List.zip (["word"] : List Str) ws⟩ = (pure (List.zip (["word"] : List Str) (pick [0] ws)) : Sem (List (Str × Value))))
    {a_sum_read : Addr} {fd_sum_read : FuncData} (F_sum_read : FnOk P w K mg base (L2.CX P w) 3 a_sum_read fd_sum_read ["word"] (spD K mg 1 g_sum_read)) (e_sum_read : mg "sum_read" = some (.ref a_sum_read)) (k_sum_read : PySem.W.keepIn K (.ref a_sum_read) = true) (b_sum_read : Binds K fd_sum_read ["word"] []) (kb_sum_read_0 : ∀ ws : List Value, ws.length = 1 → bindArgs fd_sum_read ⟨[], List.zip (["word"] : List Str) ws⟩ = (pure (List.zip (["word"] : List Str) (pick [0] ws)) : Sem (List (Str × Value)))) :
    FnOk P w K mg base (L2.CX P w) 17 a__law_odd_right fd__law_odd_right [] (spD K mg 0 g__law_odd_right) :=
  fn_d (k := 16) (N := N__law_odd_right) (ps := []) (gs := B__law_odd_right) F S__law_odd_right (by decide) (bd__law_odd_right F__law_same e__law_same k__law_same b__law_same F_run_read e_run_read k_run_read b_run_read kb_run_read_0 F_sum_read e_sum_read k_sum_read b_sum_read kb_sum_read_0)
theorem bd__law_case_right {a__law_case_right : Addr}
    {a__law_lists : Addr} {fd__law_lists : FuncData} (F__law_lists : FnOk P w K mg base (L2.CX P w) 16 a__law_lists fd__law_lists ["matter"] (spD K mg 1 g__law_lists)) (e__law_lists : mg "_law_lists" = some (.ref a__law_lists)) (k__law_lists : PySem.W.keepIn K (.ref a__law_lists) = true) (b__law_lists : Binds K fd__law_lists ["matter"] [])
    {a__law_mix_word : Addr} {fd__law_mix_word : FuncData} (F__law_mix_word : FnOk P w K mg base (L2.CX P w) 1 a__law_mix_word fd__law_mix_word ["mix_so"] (spD K mg 1 g__law_mix_word)) (e__law_mix_word : mg "_law_mix_word" = some (.ref a__law_mix_word)) (k__law_mix_word : PySem.W.keepIn K (.ref a__law_mix_word) = true) (b__law_mix_word : Binds K fd__law_mix_word ["mix_so"] [])
    {a__law_of : Addr} {fd__law_of : FuncData} (F__law_of : FnOk P w K mg base (L2.CX P w) 2 a__law_of fd__law_of ["tin", "goods_so"] (spD K mg 2 g__law_of)) (e__law_of : mg "_law_of" = some (.ref a__law_of)) (k__law_of : PySem.W.keepIn K (.ref a__law_of) = true) (b__law_of : Binds K fd__law_of ["tin", "goods_so"] [])
    {a__law_row_word : Addr} {fd__law_row_word : FuncData} (F__law_row_word : FnOk P w K mg base (L2.CX P w) 1 a__law_row_word fd__law_row_word ["row_so"] (spD K mg 1 g__law_row_word)) (e__law_row_word : mg "_law_row_word" = some (.ref a__law_row_word)) (k__law_row_word : PySem.W.keepIn K (.ref a__law_row_word) = true) (b__law_row_word : Binds K fd__law_row_word ["row_so"] [])
    {a__law_same : Addr} {fd__law_same : FuncData} (F__law_same : FnOk P w K mg base (L2.CX P w) 16 a__law_same fd__law_same ["got", "due"] (spD K mg 2 g__law_same)) (e__law_same : mg "_law_same" = some (.ref a__law_same)) (k__law_same : PySem.W.keepIn K (.ref a__law_same) = true) (b__law_same : Binds K fd__law_same ["got", "due"] [])
    {a__law_take : Addr} {fd__law_take : FuncData} (F__law_take : FnOk P w K mg base (L2.CX P w) 1 a__law_take fd__law_take ["tin", "below_so"] (spD K mg 2 g__law_take)) (e__law_take : mg "_law_take" = some (.ref a__law_take)) (k__law_take : PySem.W.keepIn K (.ref a__law_take) = true) (b__law_take : Binds K fd__law_take ["tin", "below_so"] [])
    {a_run_read : Addr} {fd_run_read : FuncData} (F_run_read : FnOk P w K mg base (L2.CX P w) 3 a_run_read fd_run_read ["word"] (spD K mg 1 g_run_read)) (e_run_read : mg "run_read" = some (.ref a_run_read)) (k_run_read : PySem.W.keepIn K (.ref a_run_read) = true) (b_run_read : Binds K fd_run_read ["word"] [])
    {a_run_word : Addr} {fd_run_word : FuncData} (F_run_word : FnOk P w K mg base (L2.CX P w) 2 a_run_word fd_run_word ["run"] (spD K mg 1 g_run_word)) (e_run_word : mg "run_word" = some (.ref a_run_word)) (k_run_word : PySem.W.keepIn K (.ref a_run_word) = true) (b_run_word : Binds K fd_run_word ["run"] []) (kb_run_word_0 : ∀ ws : List Value, ws.length = 1 → bindArgs fd_run_word ⟨[], List.zip (["run"] : List Str) ws⟩ = (pure (List.zip (["run"] : List Str) (pick [0] ws)) : Sem (List (Str × Value))))
    {a_sum_read : Addr} {fd_sum_read : FuncData} (F_sum_read : FnOk P w K mg base (L2.CX P w) 3 a_sum_read fd_sum_read ["word"] (spD K mg 1 g_sum_read)) (e_sum_read : mg "sum_read" = some (.ref a_sum_read)) (k_sum_read : PySem.W.keepIn K (.ref a_sum_read) = true) (b_sum_read : Binds K fd_sum_read ["word"] [])
    {a_sum_word : Addr} {fd_sum_word : FuncData} (F_sum_word : FnOk P w K mg base (L2.CX P w) 2 a_sum_word fd_sum_word ["pairs"] (spD K mg 1 g_sum_word)) (e_sum_word : mg "sum_word" = some (.ref a_sum_word)) (k_sum_word : PySem.W.keepIn K (.ref a_sum_word) = true) (b_sum_word : Binds K fd_sum_word ["pairs"] []) (kb_sum_word_0 : ∀ ws : List Value, ws.length = 1 → bindArgs fd_sum_word ⟨[], List.zip (["pairs"] : List Str) ws⟩ = (pure (List.zip (["pairs"] : List Str) (pick [0] ws)) : Sem (List (Str × Value))))
    (m_len : mg "len" = none)
    (m_list : mg "list" = none)
    (m_zip : mg "zip" = none) :
    ∀ (cdv : Value) (A : Around) (outer : List PySem.Env) (s : Shared) (H : Hp) (E : XK), Room 16 (A.deeper (envOfC "_law_case_right" (defScope s__law_case_right) s.heap.objs.size a__law_case_right cdv)) → DSs (CxD P w K mg base N__law_case_right "_law_case_right" s__law_case_right a__law_case_right cdv A outer s H E) (fun cls d _ H => E cls d H) (defBody s__law_case_right) B__law_case_right := fun cdv A outer s H E hr =>
  (dss_cons (ds_set (i := 3) S__law_case_right.nd (de_df (df_lst (da_cons (de_call F__law_row_word (hr.mono (by decide)) e__law_row_word k__law_row_word b__law_row_word pass_cx (da_cons (de_var 1) da_nil) (alenS alen0)) (da_cons (de_call F__law_mix_word (hr.mono (by decide)) e__law_mix_word k__law_mix_word b__law_mix_word pass_cx (da_cons (de_var 2) da_nil) (alenS alen0)) da_nil)))))
  (dss_cons (ds_set (i := 4) S__law_case_right.nd (de_df (df_lst (da_cons (de_call F_run_word (hr.mono (by decide)) e_run_word k_run_word b_run_word pass_cx (da_cons (de_var 1) da_nil) (alenS alen0)) (da_cons (de_callK0 (perm := [0]) F_run_word (hr.mono (by decide)) e_run_word k_run_word kb_run_word_0 pass_cx (dk_cons (de_call F__law_lists (hr.mono (by decide)) e__law_lists k__law_lists b__law_lists pass_cx (da_cons (de_var 1) da_nil) (alenS alen0)) dk_nil) (fun ds hl => match ds, hl with | [_], _ => rfl)) (da_cons (de_call F_sum_word (hr.mono (by decide)) e_sum_word k_sum_word b_sum_word pass_cx (da_cons (de_var 2) da_nil) (alenS alen0)) (da_cons (de_callK0 (perm := [0]) F_sum_word (hr.mono (by decide)) e_sum_word k_sum_word kb_sum_word_0 pass_cx (dk_cons (de_call F__law_lists (hr.mono (by decide)) e__law_lists k__law_lists b__law_lists pass_cx (da_cons (de_var 2) da_nil) (alenS alen0)) dk_nil) (fun ds hl => match ds, hl with | [_], _ => rfl)) da_nil)))))))
  (dss_cons (ds_set (i := 4) S__law_case_right.nd (de_df (df_cat (de_var 4) (de_df (df_lst (da_cons (de_call F_run_read (hr.mono (by decide)) e_run_read k_run_read b_run_read pass_cx (da_cons (de_ix (fun _ _ => rfl) (de_var 3) de_int) da_nil) (alenS alen0)) (da_cons (de_call F_sum_read (hr.mono (by decide)) e_sum_read k_sum_read b_sum_read pass_cx (da_cons (de_ix (fun _ _ => rfl) (de_var 3) de_int) da_nil) (alenS alen0)) da_nil)))))))
  (dss_cons (ds_if (dt_not (dt_tru (de_call F__law_same (hr.mono (by decide)) e__law_same k__law_same b__law_same pass_cx (da_cons (de_var 4) (da_cons (de_df (df_lst (da_cons (de_ix (fun _ _ => rfl) (de_var 3) de_int) (da_cons (de_ix (fun _ _ => rfl) (de_var 3) de_int) (da_cons (de_ix (fun _ _ => rfl) (de_var 3) de_int) (da_cons (de_ix (fun _ _ => rfl) (de_var 3) de_int) (da_cons (de_var 1) (da_cons (de_var 2) da_nil)))))))) da_nil)) (alenS (alenS alen0))))) (dss_one (ds_ret de_bl)) dss_nil)
  (dss_cons (ds_setLcF (i := 5) (own := [("its", 8)]) rfl S__law_case_right.nd (di_seq (de_var 3)) (blkOk_by (N := N__law_case_right) (sc := defScope s__law_case_right) (own := [("its", 8)]) (by decide +kernel)) (fun _ _ _ _ _ => (dgc_name (i := 8) S__law_case_right.nd (by decide))) (fun _ _ _ _ _ => dts_nil) (fun _ _ _ _ _ => (de_callO (i := 0) F__law_take (hr.mono (by decide)) e__law_take k__law_take b__law_take pass0 (da_cons (de_addX (de_lenX (da_cons (de_var 8) da_nil) m_len) de_int) da_nil) (alenO (alenS alen0)))) (sw_true rfl rfl rfl (by decide +kernel)))
  (dss_cons (ds_set (i := 6) S__law_case_right.nd (de_callO (i := 0) F__law_of (hr.mono (by decide)) e__law_of k__law_of b__law_of pass_cx (da_cons (de_df (df_lst (da_cons de_str (da_cons de_str (da_cons de_str (da_cons de_str (da_cons de_str (da_cons de_str (da_cons de_str da_nil))))))))) da_nil) (alenO (alenS alen0))))
  (dss_cons (ds_setLcF (i := 7) (own := [("its", 8), ("k", 9)]) rfl S__law_case_right.nd (di_seq (de_df (df_listZip (da_cons (de_var 3) (da_cons (de_var 5) da_nil)) m_list m_zip))) (blkOk_by (N := N__law_case_right) (sc := defScope s__law_case_right) (own := [("its", 8), ("k", 9)]) (by decide +kernel)) (fun _ _ _ _ _ => (dgc_tup rfl (dgsc_cons (dgc_name (i := 8) S__law_case_right.nd (by decide)) (dgsc_cons (dgc_name (i := 9) S__law_case_right.nd (by decide)) dgsc_nil)))) (fun _ _ _ _ _ => dts_nil) (fun _ _ _ _ _ => (de_addX (de_addX (de_sliceS (de_var 8) do_none (do_some (de_var 9))) (de_var 6)) (de_sliceS (de_var 8) (do_some (de_var 9)) do_none))) (sw_true rfl rfl rfl (by decide +kernel)))
  (dss_one (ds_ret (de_call F__law_same (hr.mono (by decide)) e__law_same k__law_same b__law_same pass_cx (da_cons (de_df (df_lst (da_cons (de_call F_run_read (hr.mono (by decide)) e_run_read k_run_read b_run_read pass_cx (da_cons (de_ix (fun _ _ => rfl) (de_var 7) de_int) da_nil) (alenS alen0)) (da_cons (de_call F_sum_read (hr.mono (by decide)) e_sum_read k_sum_read b_sum_read pass_cx (da_cons (de_ix (fun _ _ => rfl) (de_var 7) de_int) da_nil) (alenS alen0)) da_nil)))) (da_cons (de_df (df_lst (da_cons de_non (da_cons de_non da_nil)))) da_nil)) (alenS (alenS alen0))))))))))))
theorem ok__law_case_right {a__law_case_right : Addr} {fd__law_case_right : FuncData} (F : Fun K "_law_case_right" "_law_case_right" s__law_case_right a__law_case_right fd__law_case_right)
    {a__law_lists : Addr} {fd__law_lists : FuncData} (F__law_lists : FnOk P w K mg base (L2.CX P w) 16 a__law_lists fd__law_lists ["matter"] (spD K mg 1 g__law_lists)) (e__law_lists : mg "_law_lists" = some (.ref a__law_lists)) (k__law_lists : PySem.W.keepIn K (.ref a__law_lists) = true) (b__law_lists : Binds K fd__law_lists ["matter"] [])
    {a__law_mix_word : Addr} {fd__law_mix_word : FuncData} (F__law_mix_word : FnOk P w K mg base (L2.CX P w) 1 a__law_mix_word fd__law_mix_word ["mix_so"] (spD K mg 1 g__law_mix_word)) (e__law_mix_word : mg "_law_mix_word" = some (.ref a__law_mix_word)) (k__law_mix_word : PySem.W.keepIn K (.ref a__law_mix_word) = true) (b__law_mix_word : Binds K fd__law_mix_word ["mix_so"] [])
    {a__law_of : Addr} {fd__law_of : FuncData} (F__law_of : FnOk P w K mg base (L2.CX P w) 2 a__law_of fd__law_of ["tin", "goods_so"] (spD K mg 2 g__law_of)) (e__law_of : mg "_law_of" = some (.ref a__law_of)) (k__law_of : PySem.W.keepIn K (.ref a__law_of) = true) (b__law_of : Binds K fd__law_of ["tin", "goods_so"] [])
    {a__law_row_word : Addr} {fd__law_row_word : FuncData} (F__law_row_word : FnOk P w K mg base (L2.CX P w) 1 a__law_row_word fd__law_row_word ["row_so"] (spD K mg 1 g__law_row_word)) (e__law_row_word : mg "_law_row_word" = some (.ref a__law_row_word)) (k__law_row_word : PySem.W.keepIn K (.ref a__law_row_word) = true) (b__law_row_word : Binds K fd__law_row_word ["row_so"] [])
    {a__law_same : Addr} {fd__law_same : FuncData} (F__law_same : FnOk P w K mg base (L2.CX P w) 16 a__law_same fd__law_same ["got", "due"] (spD K mg 2 g__law_same)) (e__law_same : mg "_law_same" = some (.ref a__law_same)) (k__law_same : PySem.W.keepIn K (.ref a__law_same) = true) (b__law_same : Binds K fd__law_same ["got", "due"] [])
    {a__law_take : Addr} {fd__law_take : FuncData} (F__law_take : FnOk P w K mg base (L2.CX P w) 1 a__law_take fd__law_take ["tin", "below_so"] (spD K mg 2 g__law_take)) (e__law_take : mg "_law_take" = some (.ref a__law_take)) (k__law_take : PySem.W.keepIn K (.ref a__law_take) = true) (b__law_take : Binds K fd__law_take ["tin", "below_so"] [])
    {a_run_read : Addr} {fd_run_read : FuncData} (F_run_read : FnOk P w K mg base (L2.CX P w) 3 a_run_read fd_run_read ["word"] (spD K mg 1 g_run_read)) (e_run_read : mg "run_read" = some (.ref a_run_read)) (k_run_read : PySem.W.keepIn K (.ref a_run_read) = true) (b_run_read : Binds K fd_run_read ["word"] [])
    {a_run_word : Addr} {fd_run_word : FuncData} (F_run_word : FnOk P w K mg base (L2.CX P w) 2 a_run_word fd_run_word ["run"] (spD K mg 1 g_run_word)) (e_run_word : mg "run_word" = some (.ref a_run_word)) (k_run_word : PySem.W.keepIn K (.ref a_run_word) = true) (b_run_word : Binds K fd_run_word ["run"] []) (kb_run_word_0 : ∀ ws : List Value, ws.length = 1 → bindArgs fd_run_word ⟨[], List.zip (["run"] : List Str) ws⟩ = (pure (List.zip (["run"] : List Str) (pick [0] ws)) : Sem (List (Str × Value))))
    {a_sum_read : Addr} {fd_sum_read : FuncData} (F_sum_read : FnOk P w K mg base (L2.CX P w) 3 a_sum_read fd_sum_read ["word"] (spD K mg 1 g_sum_read)) (e_sum_read : mg "sum_read" = some (.ref a_sum_read)) (k_sum_read : PySem.W.keepIn K (.ref a_sum_read) = true) (b_sum_read : Binds K fd_sum_read ["word"] [])
    {a_sum_word : Addr} {fd_sum_word : FuncData} (F_sum_word : FnOk P w K mg base (L2.CX P w) 2 a_sum_word fd_sum_word ["pairs"] (spD K mg 1 g_sum_word)) (e_sum_word : mg "sum_word" = some (.ref a_sum_word)) (k_sum_word : PySem.W.keepIn K (.ref a_sum_word) = true) (b_sum_word : Binds K fd_sum_word ["pairs"] []) (kb_sum_word_0 : ∀ ws : List Value, ws.length = 1 → bindArgs fd_sum_word ⟨[], List.zip (["pairs"] : List Str) ws⟩ = (pure (List.zip (["pairs"] : List Str) (pick [0] ws)) : Sem (List (Str × Value))))
    (m_len : mg "len" = none)
    (m_list : mg "list" = none)
    (m_zip : mg "zip" = none) :
    FnOk P w K mg base (L2.CX P w) 17 a__law_case_right fd__law_case_right ["tin", "row_so", "mix_so"] (spD K mg 3 g__law_case_right) :=
  fn_d (k := 16) (N := N__law_case_right) (ps := ["tin", "row_so", "mix_so"]) (gs := B__law_case_right) F S__law_case_right (by decide) (bd__law_case_right F__law_lists e__law_lists k__law_lists b__law_lists F__law_mix_word e__law_mix_word k__law_mix_word b__law_mix_word F__law_of e__law_of k__law_of b__law_of F__law_row_word e__law_row_word k__law_row_word b__law_row_word F__law_same e__law_same k__law_same b__law_same F__law_take e__law_take k__law_take b__law_take F_run_read e_run_read k_run_read b_run_read F_run_word e_run_word k_run_word b_run_word kb_run_word_0 F_sum_read e_sum_read k_sum_read b_sum_read F_sum_word e_sum_word k_sum_word b_sum_word kb_sum_word_0 m_len m_list m_zip)
theorem bd__law_by_hand_right {a__law_by_hand_right : Addr}
    {a__law_odd_right : Addr} {fd__law_odd_right : FuncData} (F__law_odd_right : FnOk P w K mg base (L2.CX P w) 17 a__law_odd_right fd__law_odd_right [] (spD K mg 0 g__law_odd_right)) (e__law_odd_right : mg "_law_odd_right" = some (.ref a__law_odd_right)) (k__law_odd_right : PySem.W.keepIn K (.ref a__law_odd_right) = true) (b__law_odd_right : Binds K fd__law_odd_right [] [])
    {a__law_same : Addr} {fd__law_same : FuncData} (F__law_same : FnOk P w K mg base (L2.CX P w) 16 a__law_same fd__law_same ["got", "due"] (spD K mg 2 g__law_same)) (e__law_same : mg "_law_same" = some (.ref a__law_same)) (k__law_same : PySem.W.keepIn K (.ref a__law_same) = true) (b__law_same : Binds K fd__law_same ["got", "due"] [])
    {a_run_read : Addr} {fd_run_read : FuncData} (F_run_read : FnOk P w K mg base (L2.CX P w) 3 a_run_read fd_run_read ["word"] (spD K mg 1 g_run_read)) (e_run_read : mg "run_read" = some (.ref a_run_read)) (k_run_read : PySem.W.keepIn K (.ref a_run_read) = true) (b_run_read : Binds K fd_run_read ["word"] [])
    {a_run_word : Addr} {fd_run_word : FuncData} (F_run_word : FnOk P w K mg base (L2.CX P w) 2 a_run_word fd_run_word ["run"] (spD K mg 1 g_run_word)) (e_run_word : mg "run_word" = some (.ref a_run_word)) (k_run_word : PySem.W.keepIn K (.ref a_run_word) = true) (b_run_word : Binds K fd_run_word ["run"] []) (kb_run_word_0 : ∀ ws : List Value, ws.length = 1 → bindArgs fd_run_word ⟨[], List.zip (["run"] : List Str) ws⟩ = (pure (List.zip (["run"] : List Str) (pick [0] ws)) : Sem (List (Str × Value))))
    {a_sum_read : Addr} {fd_sum_read : FuncData} (F_sum_read : FnOk P w K mg base (L2.CX P w) 3 a_sum_read fd_sum_read ["word"] (spD K mg 1 g_sum_read)) (e_sum_read : mg "sum_read" = some (.ref a_sum_read)) (k_sum_read : PySem.W.keepIn K (.ref a_sum_read) = true) (b_sum_read : Binds K fd_sum_read ["word"] [])
    {a_sum_word : Addr} {fd_sum_word : FuncData} (F_sum_word : FnOk P w K mg base (L2.CX P w) 2 a_sum_word fd_sum_word ["pairs"] (spD K mg 1 g_sum_word)) (e_sum_word : mg "sum_word" = some (.ref a_sum_word)) (k_sum_word : PySem.W.keepIn K (.ref a_sum_word) = true) (b_sum_word : Binds K fd_sum_word ["pairs"] []) (kb_sum_word_0 : ∀ ws : List Value, ws.length = 1 → bindArgs fd_sum_word ⟨[], List.zip (["pairs"] : List Str) ws⟩ = (pure (List.zip (["pairs"] : List Str) (pick [0] ws)) : Sem (List (Str × Value)))) :
    ∀ (cdv : Value) (A : Around) (outer : List PySem.Env) (s : Shared) (H : Hp) (E : XK), Room 17 (A.deeper (envOfC "_law_by_hand_right" (defScope s__law_by_hand_right) s.heap.objs.size a__law_by_hand_right cdv)) → DSs (CxD P w K mg base N__law_by_hand_right "_law_by_hand_right" s__law_by_hand_right a__law_by_hand_right cdv A outer s H E) (fun cls d _ H => E cls d H) (defBody s__law_by_hand_right) B__law_by_hand_right := fun cdv A outer s H E hr =>
  (dss_cons (ds_set (i := 0) S__law_by_hand_right.nd (de_addX de_str (de_mulX de_str de_int)))
  (dss_cons (ds_set (i := 1) S__law_by_hand_right.nd (de_df (df_lst (da_cons (de_call F_run_word (hr.mono (by decide)) e_run_word k_run_word b_run_word pass_cx (da_cons (de_tup da_nil) da_nil) (alenS alen0)) (da_cons (de_call F_run_word (hr.mono (by decide)) e_run_word k_run_word b_run_word pass_cx (da_cons (de_tup (da_cons de_int da_nil)) da_nil) (alenS alen0)) (da_cons (de_callK0 (perm := [0]) F_run_word (hr.mono (by decide)) e_run_word k_run_word kb_run_word_0 pass_cx (dk_cons (de_df (df_lst (da_cons de_int (da_cons de_int (da_cons de_int da_nil))))) dk_nil) (fun ds hl => match ds, hl with | [_], _ => rfl)) (da_cons (de_call F_run_read (hr.mono (by decide)) e_run_read k_run_read b_run_read pass_cx (da_cons de_str da_nil) (alenS alen0)) (da_cons (de_call F_run_read (hr.mono (by decide)) e_run_read k_run_read b_run_read pass_cx (da_cons de_str da_nil) (alenS alen0)) (da_cons (de_call F_run_read (hr.mono (by decide)) e_run_read k_run_read b_run_read pass_cx (da_cons de_str da_nil) (alenS alen0)) (da_cons (de_call F_run_read (hr.mono (by decide)) e_run_read k_run_read b_run_read pass_cx (da_cons de_str da_nil) (alenS alen0)) da_nil))))))))))
  (dss_cons (ds_set (i := 2) S__law_by_hand_right.nd (de_df (df_lst (da_cons de_str (da_cons de_str (da_cons de_str (da_cons (de_tup da_nil) (da_cons (de_tup (da_cons de_int da_nil)) (da_cons (de_tup (da_cons de_int (da_cons de_int (da_cons de_int da_nil)))) (da_cons (de_tup (da_cons de_int (da_cons de_int (da_cons de_int da_nil)))) da_nil))))))))))
  (dss_cons (ds_set (i := 1) S__law_by_hand_right.nd (de_df (df_cat (de_var 1) (de_df (df_lst (da_cons (de_call F_sum_word (hr.mono (by decide)) e_sum_word k_sum_word b_sum_word pass_cx (da_cons (de_tup da_nil) da_nil) (alenS alen0)) (da_cons (de_call F_sum_word (hr.mono (by decide)) e_sum_word k_sum_word b_sum_word pass_cx (da_cons (de_tup (da_cons (de_tup (da_cons de_int (da_cons de_int da_nil))) (da_cons (de_tup (da_cons de_int (da_cons de_int da_nil))) da_nil))) da_nil) (alenS alen0)) (da_cons (de_callK0 (perm := [0]) F_sum_word (hr.mono (by decide)) e_sum_word k_sum_word kb_sum_word_0 pass_cx (dk_cons (de_df (df_lst (da_cons (de_df (df_lst (da_cons de_int (da_cons de_int da_nil)))) da_nil))) dk_nil) (fun ds hl => match ds, hl with | [_], _ => rfl)) (da_cons (de_call F_sum_read (hr.mono (by decide)) e_sum_read k_sum_read b_sum_read pass_cx (da_cons de_str da_nil) (alenS alen0)) (da_cons (de_call F_sum_read (hr.mono (by decide)) e_sum_read k_sum_read b_sum_read pass_cx (da_cons de_str da_nil) (alenS alen0)) da_nil))))))))))
  (dss_cons (ds_set (i := 2) S__law_by_hand_right.nd (de_df (df_cat (de_var 2) (de_df (df_lst (da_cons de_str (da_cons de_str (da_cons de_str (da_cons (de_tup da_nil) (da_cons (de_tup (da_cons (de_tup (da_cons de_int (da_cons de_int da_nil))) (da_cons (de_tup (da_cons de_int (da_cons de_int da_nil))) da_nil))) da_nil))))))))))
  (dss_cons (ds_set (i := 1) S__law_by_hand_right.nd (de_df (df_cat (de_var 1) (de_df (df_lst (da_cons (de_call F_sum_read (hr.mono (by decide)) e_sum_read k_sum_read b_sum_read pass_cx (da_cons de_str da_nil) (alenS alen0)) (da_cons (de_call F_run_read (hr.mono (by decide)) e_run_read k_run_read b_run_read pass_cx (da_cons (de_var 0) da_nil) (alenS alen0)) (da_cons (de_call F_sum_read (hr.mono (by decide)) e_sum_read k_sum_read b_sum_read pass_cx (da_cons (de_addX (de_addX (de_var 0) de_str) (de_var 0)) da_nil) (alenS alen0)) (da_cons (de_eq (hu64 hr) (de_call F_run_word (hr.mono (by decide)) e_run_word k_run_word b_run_word pass_cx (da_cons (de_tup (da_cons (de_pow de_int de_int) da_nil)) da_nil) (alenS alen0)) (de_var 0)) da_nil)))))))))
  (dss_cons (ds_set (i := 2) S__law_by_hand_right.nd (de_df (df_cat (de_var 2) (de_df (df_lst (da_cons (de_tup (da_cons (de_tup (da_cons de_int (da_cons de_int da_nil))) (da_cons (de_tup (da_cons de_int (da_cons de_int da_nil))) da_nil))) (da_cons (de_tup (da_cons (de_pow de_int de_int) da_nil)) (da_cons (de_tup (da_cons (de_tup (da_cons (de_pow de_int de_int) (da_cons (de_pow de_int de_int) da_nil))) da_nil)) (da_cons de_bl da_nil)))))))))
  (dss_cons (ds_set (i := 3) S__law_by_hand_right.nd (de_addX de_str (de_mulX de_str de_int)))
  (dss_cons (ds_set (i := 1) S__law_by_hand_right.nd (de_df (df_cat (de_var 1) (de_df (df_lst (da_cons (de_eq (hu64 hr) (de_call F_run_word (hr.mono (by decide)) e_run_word k_run_word b_run_word pass_cx (da_cons (de_call F_run_read (hr.mono (by decide)) e_run_read k_run_read b_run_read pass_cx (da_cons (de_var 3) da_nil) (alenS alen0)) da_nil) (alenS alen0)) (de_var 3)) (da_cons (de_eq (hu64 hr) (de_call F_sum_word (hr.mono (by decide)) e_sum_word k_sum_word b_sum_word pass_cx (da_cons (de_call F_sum_read (hr.mono (by decide)) e_sum_read k_sum_read b_sum_read pass_cx (da_cons (de_addX de_str (de_var 3)) da_nil) (alenS alen0)) da_nil) (alenS alen0)) (de_addX de_str (de_var 3))) da_nil)))))))
  (dss_one (ds_ret (de_and (de_call F__law_same (hr.mono (by decide)) e__law_same k__law_same b__law_same pass_cx (da_cons (de_var 1) (da_cons (de_df (df_cat (de_var 2) (de_df (df_lst (da_cons de_bl (da_cons de_bl da_nil)))))) da_nil)) (alenS (alenS alen0))) (de_one (de_call0 F__law_odd_right (hr.mono (by decide)) e__law_odd_right k__law_odd_right b__law_odd_right pass_cx))))))))))))))
theorem ok__law_by_hand_right {a__law_by_hand_right : Addr} {fd__law_by_hand_right : FuncData} (F : Fun K "_law_by_hand_right" "_law_by_hand_right" s__law_by_hand_right a__law_by_hand_right fd__law_by_hand_right)
    {a__law_odd_right : Addr} {fd__law_odd_right : FuncData} (F__law_odd_right : FnOk P w K mg base (L2.CX P w) 17 a__law_odd_right fd__law_odd_right [] (spD K mg 0 g__law_odd_right)) (e__law_odd_right : mg "_law_odd_right" = some (.ref a__law_odd_right)) (k__law_odd_right : PySem.W.keepIn K (.ref a__law_odd_right) = true) (b__law_odd_right : Binds K fd__law_odd_right [] [])
    {a__law_same : Addr} {fd__law_same : FuncData} (F__law_same : FnOk P w K mg base (L2.CX P w) 16 a__law_same fd__law_same ["got", "due"] (spD K mg 2 g__law_same)) (e__law_same : mg "_law_same" = some (.ref a__law_same)) (k__law_same : PySem.W.keepIn K (.ref a__law_same) = true) (b__law_same : Binds K fd__law_same ["got", "due"] [])
    {a_run_read : Addr} {fd_run_read : FuncData} (F_run_read : FnOk P w K mg base (L2.CX P w) 3 a_run_read fd_run_read ["word"] (spD K mg 1 g_run_read)) (e_run_read : mg "run_read" = some (.ref a_run_read)) (k_run_read : PySem.W.keepIn K (.ref a_run_read) = true) (b_run_read : Binds K fd_run_read ["word"] [])
    {a_run_word : Addr} {fd_run_word : FuncData} (F_run_word : FnOk P w K mg base (L2.CX P w) 2 a_run_word fd_run_word ["run"] (spD K mg 1 g_run_word)) (e_run_word : mg "run_word" = some (.ref a_run_word)) (k_run_word : PySem.W.keepIn K (.ref a_run_word) = true) (b_run_word : Binds K fd_run_word ["run"] []) (kb_run_word_0 : ∀ ws : List Value, ws.length = 1 → bindArgs fd_run_word ⟨[], List.zip (["run"] : List Str) ws⟩ = (pure (List.zip (["run"] : List Str) (pick [0] ws)) : Sem (List (Str × Value))))
    {a_sum_read : Addr} {fd_sum_read : FuncData} (F_sum_read : FnOk P w K mg base (L2.CX P w) 3 a_sum_read fd_sum_read ["word"] (spD K mg 1 g_sum_read)) (e_sum_read : mg "sum_read" = some (.ref a_sum_read)) (k_sum_read : PySem.W.keepIn K (.ref a_sum_read) = true) (b_sum_read : Binds K fd_sum_read ["word"] [])
    {a_sum_word : Addr} {fd_sum_word : FuncData} (F_sum_word : FnOk P w K mg base (L2.CX P w) 2 a_sum_word fd_sum_word ["pairs"] (spD K mg 1 g_sum_word)) (e_sum_word : mg "sum_word" = some (.ref a_sum_word)) (k_sum_word : PySem.W.keepIn K (.ref a_sum_word) = true) (b_sum_word : Binds K fd_sum_word ["pairs"] []) (kb_sum_word_0 : ∀ ws : List Value, ws.length = 1 → bindArgs fd_sum_word ⟨[], List.zip (["pairs"] : List Str) ws⟩ = (pure (List.zip (["pairs"] : List Str) (pick [0] ws)) : Sem (List (Str × Value)))) :
    FnOk P w K mg base (L2.CX P w) 18 a__law_by_hand_right fd__law_by_hand_right [] (spD K mg 0 g__law_by_hand_right) :=
  fn_d (k := 17) (N := N__law_by_hand_right) (ps := []) (gs := B__law_by_hand_right) F S__law_by_hand_right (by decide) (bd__law_by_hand_right F__law_odd_right e__law_odd_right k__law_odd_right b__law_odd_right F__law_same e__law_same k__law_same b__law_same F_run_read e_run_read k_run_read b_run_read F_run_word e_run_word k_run_word b_run_word kb_run_word_0 F_sum_read e_sum_read k_sum_read b_sum_read F_sum_word e_sum_word k_sum_word b_sum_word kb_sum_word_0)
theorem bd__law_right {a__law_right : Addr}
    {a__law_case_right : Addr} {fd__law_case_right : FuncData} (F__law_case_right : FnOk P w K mg base (L2.CX P w) 17 a__law_case_right fd__law_case_right ["tin", "row_so", "mix_so"] (spD K mg 3 g__law_case_right)) (e__law_case_right : mg "_law_case_right" = some (.ref a__law_case_right)) (k__law_case_right : PySem.W.keepIn K (.ref a__law_case_right) = true) (b__law_case_right : Binds K fd__law_case_right ["tin", "row_so", "mix_so"] [])
    {a__law_of : Addr} {fd__law_of : FuncData} (F__law_of : FnOk P w K mg base (L2.CX P w) 2 a__law_of fd__law_of ["tin", "goods_so"] (spD K mg 2 g__law_of)) (e__law_of : mg "_law_of" = some (.ref a__law_of)) (k__law_of : PySem.W.keepIn K (.ref a__law_of) = true) (b__law_of : Binds K fd__law_of ["tin", "goods_so"] [])
    {a__law_take : Addr} {fd__law_take : FuncData} (F__law_take : FnOk P w K mg base (L2.CX P w) 1 a__law_take fd__law_take ["tin", "below_so"] (spD K mg 2 g__law_take)) (e__law_take : mg "_law_take" = some (.ref a__law_take)) (k__law_take : PySem.W.keepIn K (.ref a__law_take) = true) (b__law_take : Binds K fd__law_take ["tin", "below_so"] [])
    (m_range : mg "range" = none)
    (m_tuple : mg "tuple" = none) :
    ∀ (cdv : Value) (A : Around) (outer : List PySem.Env) (s : Shared) (H : Hp) (E : XK), Room 17 (A.deeper (envOfC "_law_right" (defScope s__law_right) s.heap.objs.size a__law_right cdv)) → DSs (CxD P w K mg base N__law_right "_law_right" s__law_right a__law_right cdv A outer s H E) (fun cls d _ H => E cls d H) (defBody s__law_right) B__law_right := fun cdv A outer s H E hr =>
  (dss_cons (ds_set (i := 1) S__law_right.nd (de_tuplec (da_cons (de_df (df_lc (own := [("lap", 3)]) rfl S__law_right.nd (di_range1 m_range (da_cons (de_callO (i := 0) F__law_take (hr.mono (by decide)) e__law_take k__law_take b__law_take pass_cx (da_cons de_int da_nil) (alenO (alenS alen0))) da_nil)) (blkOk_by (N := N__law_right) (sc := defScope s__law_right) (own := [("lap", 3)]) (by decide +kernel)) (fun _ _ _ _ _ => (dgc_name (i := 3) S__law_right.nd (by decide))) (fun _ _ _ _ _ => dts_nil) (fun _ _ _ _ _ => (de_callO (i := 0) F__law_of (hr.mono (by decide)) e__law_of k__law_of b__law_of pass0 (da_cons (de_df (df_lst (da_cons de_int (da_cons de_int (da_cons de_int (da_cons de_int (da_cons de_int (da_cons (de_pow de_int de_int) da_nil)))))))) da_nil) (alenO (alenS alen0)))))) da_nil) m_tuple))
  (dss_cons (ds_setLcF (i := 2) (own := [("its", 4)]) rfl S__law_right.nd (di_seq (de_df (df_lst (da_cons de_int (da_cons de_int (da_cons de_int (da_cons de_int (da_cons (de_pow de_int de_int) da_nil)))))))) (blkOk_by (N := N__law_right) (sc := defScope s__law_right) (own := [("its", 4)]) (by decide +kernel)) (fun _ _ _ _ _ => (dgc_name (i := 4) S__law_right.nd (by decide))) (fun _ _ _ _ _ => (dts_one (dt_eq (hu64 hr) (de_callO (i := 0) F__law_take (hr.mono (by decide)) e__law_take k__law_take b__law_take pass0 (da_cons de_int da_nil) (alenO (alenS alen0))) de_int))) (fun _ _ _ _ _ => (de_var 4)) (sw_true rfl rfl rfl (by decide +kernel)))
  (dss_one (ds_ret (de_callO (i := 0) F__law_case_right (hr.mono (by decide)) e__law_case_right k__law_case_right b__law_case_right pass_cx (da_cons (de_var 1) (da_cons (de_tuplec (da_cons (de_df (df_lc (own := [("its", 4)]) rfl S__law_right.nd (di_seq (de_var 2)) (blkOk_by (N := N__law_right) (sc := defScope s__law_right) (own := [("its", 4)]) (by decide +kernel)) (fun _ _ _ _ _ => (dgc_name (i := 4) S__law_right.nd (by decide))) (fun _ _ _ _ _ => dts_nil) (fun _ _ _ _ _ => (de_tup (da_cons (de_var 4) (da_cons (de_callO (i := 0) F__law_of (hr.mono (by decide)) e__law_of k__law_of b__law_of pass0 (da_cons (de_df (df_lst (da_cons de_int (da_cons de_int (da_cons de_int (da_cons de_int da_nil)))))) da_nil) (alenO (alenS alen0))) da_nil)))))) da_nil) m_tuple) da_nil)) (alenO (alenS (alenS alen0))))))))
theorem ok__law_right {a__law_right : Addr} {fd__law_right : FuncData} (F : Fun K "_law_right" "_law_right" s__law_right a__law_right fd__law_right)
    {a__law_case_right : Addr} {fd__law_case_right : FuncData} (F__law_case_right : FnOk P w K mg base (L2.CX P w) 17 a__law_case_right fd__law_case_right ["tin", "row_so", "mix_so"] (spD K mg 3 g__law_case_right)) (e__law_case_right : mg "_law_case_right" = some (.ref a__law_case_right)) (k__law_case_right : PySem.W.keepIn K (.ref a__law_case_right) = true) (b__law_case_right : Binds K fd__law_case_right ["tin", "row_so", "mix_so"] [])
    {a__law_of : Addr} {fd__law_of : FuncData} (F__law_of : FnOk P w K mg base (L2.CX P w) 2 a__law_of fd__law_of ["tin", "goods_so"] (spD K mg 2 g__law_of)) (e__law_of : mg "_law_of" = some (.ref a__law_of)) (k__law_of : PySem.W.keepIn K (.ref a__law_of) = true) (b__law_of : Binds K fd__law_of ["tin", "goods_so"] [])
    {a__law_take : Addr} {fd__law_take : FuncData} (F__law_take : FnOk P w K mg base (L2.CX P w) 1 a__law_take fd__law_take ["tin", "below_so"] (spD K mg 2 g__law_take)) (e__law_take : mg "_law_take" = some (.ref a__law_take)) (k__law_take : PySem.W.keepIn K (.ref a__law_take) = true) (b__law_take : Binds K fd__law_take ["tin", "below_so"] [])
    (m_range : mg "range" = none)
    (m_tuple : mg "tuple" = none) :
    FnOk P w K mg base (L2.CX P w) 18 a__law_right fd__law_right ["tin"] (spD K mg 1 g__law_right) :=
  fn_d (k := 17) (N := N__law_right) (ps := ["tin"]) (gs := B__law_right) F S__law_right (by decide) (bd__law_right F__law_case_right e__law_case_right k__law_case_right b__law_case_right F__law_of e__law_of k__law_of b__law_of F__law_take e__law_take k__law_take b__law_take m_range m_tuple)
theorem bd_law {a_law : Addr}
    {a__law_box : Addr} {fd__law_box : FuncData} (F__law_box : FnOk P w K mg base (L2.CX P w) 1 a__law_box fd__law_box ["script", "k"] (spF K mg 2 g__law_box)) (e__law_box : mg "_law_box" = some (.ref a__law_box)) (k__law_box : PySem.W.keepIn K (.ref a__law_box) = true) (b__law_box : Binds K fd__law_box ["script", "k"] [])
    {a__law_by_hand_right : Addr} {fd__law_by_hand_right : FuncData} (F__law_by_hand_right : FnOk P w K mg base (L2.CX P w) 18 a__law_by_hand_right fd__law_by_hand_right [] (spD K mg 0 g__law_by_hand_right)) (e__law_by_hand_right : mg "_law_by_hand_right" = some (.ref a__law_by_hand_right)) (k__law_by_hand_right : PySem.W.keepIn K (.ref a__law_by_hand_right) = true) (b__law_by_hand_right : Binds K fd__law_by_hand_right [] [])
    {a__law_cells : Addr} {fd__law_cells : FuncData} (F__law_cells : FnOk P w K mg base (L2.CX P w) 1 a__law_cells fd__law_cells ["script", "most_so"] (spD K mg 2 g__law_cells)) (e__law_cells : mg "_law_cells" = some (.ref a__law_cells)) (k__law_cells : PySem.W.keepIn K (.ref a__law_cells) = true) (b__law_cells : Binds K fd__law_cells ["script", "most_so"] [])
    {a__law_right : Addr} {fd__law_right : FuncData} (F__law_right : FnOk P w K mg base (L2.CX P w) 18 a__law_right fd__law_right ["tin"] (spD K mg 1 g__law_right)) (e__law_right : mg "_law_right" = some (.ref a__law_right)) (k__law_right : PySem.W.keepIn K (.ref a__law_right) = true) (b__law_right : Binds K fd__law_right ["tin"] [])
    (m_all : mg "all" = none)
    (m_len : mg "len" = none)
    (m_range : mg "range" = none) :
    ∀ (cdv : Value) (A : Around) (outer : List PySem.Env) (s : Shared) (H : Hp) (E : XK), Room 18 (A.deeper (envOfC "law" (defScope s_law) s.heap.objs.size a_law cdv)) → DSs (CxD P w K mg base N_law "law" s_law a_law cdv A outer s H E) (fun cls d _ H => E cls d H) (defBody s_law) B_law := fun cdv A outer s H E hr =>
  (dss_cons (ds_if (dt_not (dt_tru (de_call0 F__law_by_hand_right (hr.mono (by decide)) e__law_by_hand_right k__law_by_hand_right b__law_by_hand_right pass_cx))) (dss_one (ds_ret de_bl)) dss_nil)
  (dss_cons (ds_set (i := 1) S_law.nd (de_call F__law_cells (hr.mono (by decide)) e__law_cells k__law_cells b__law_cells pass_cx (da_cons (de_var 0) (da_cons de_int da_nil)) (alenS (alenS alen0))))
  (dss_one (ds_ret (de_all (da_cons (de_df (df_lc (own := [("nth_so", 2)]) rfl S_law.nd (di_range1 m_range (da_cons (de_lenX (da_cons (de_var 1) da_nil) m_len) da_nil)) (blkOk_by (N := N_law) (sc := defScope s_law) (own := [("nth_so", 2)]) (by decide +kernel)) (fun _ _ _ _ _ => (dgc_name (i := 2) S_law.nd (by decide))) (fun _ _ _ _ _ => dts_nil) (fun _ _ _ _ _ => (de_callT F__law_right (hr.mono (by decide)) e__law_right k__law_right b__law_right pass0 (df_call F__law_box (hr.mono (by decide)) e__law_box k__law_box b__law_box pass0 (da_cons (de_var 1) (da_cons (de_var 2) da_nil)) (alenS (alenS alen0))))))) da_nil) m_all)))))
theorem ok_law {a_law : Addr} {fd_law : FuncData} (F : Fun K "law" "law" s_law a_law fd_law)
    {a__law_box : Addr} {fd__law_box : FuncData} (F__law_box : FnOk P w K mg base (L2.CX P w) 1 a__law_box fd__law_box ["script", "k"] (spF K mg 2 g__law_box)) (e__law_box : mg "_law_box" = some (.ref a__law_box)) (k__law_box : PySem.W.keepIn K (.ref a__law_box) = true) (b__law_box : Binds K fd__law_box ["script", "k"] [])
    {a__law_by_hand_right : Addr} {fd__law_by_hand_right : FuncData} (F__law_by_hand_right : FnOk P w K mg base (L2.CX P w) 18 a__law_by_hand_right fd__law_by_hand_right [] (spD K mg 0 g__law_by_hand_right)) (e__law_by_hand_right : mg "_law_by_hand_right" = some (.ref a__law_by_hand_right)) (k__law_by_hand_right : PySem.W.keepIn K (.ref a__law_by_hand_right) = true) (b__law_by_hand_right : Binds K fd__law_by_hand_right [] [])
    {a__law_cells : Addr} {fd__law_cells : FuncData} (F__law_cells : FnOk P w K mg base (L2.CX P w) 1 a__law_cells fd__law_cells ["script", "most_so"] (spD K mg 2 g__law_cells)) (e__law_cells : mg "_law_cells" = some (.ref a__law_cells)) (k__law_cells : PySem.W.keepIn K (.ref a__law_cells) = true) (b__law_cells : Binds K fd__law_cells ["script", "most_so"] [])
    {a__law_right : Addr} {fd__law_right : FuncData} (F__law_right : FnOk P w K mg base (L2.CX P w) 18 a__law_right fd__law_right ["tin"] (spD K mg 1 g__law_right)) (e__law_right : mg "_law_right" = some (.ref a__law_right)) (k__law_right : PySem.W.keepIn K (.ref a__law_right) = true) (b__law_right : Binds K fd__law_right ["tin"] [])
    (m_all : mg "all" = none)
    (m_len : mg "len" = none)
    (m_range : mg "range" = none) :
    FnOk P w K mg base (L2.CX P w) 19 a_law fd_law ["script"] (spD K mg 1 g_law) :=
  fn_d (k := 18) (N := N_law) (ps := ["script"]) (gs := B_law) F S_law (by decide) (bd_law F__law_box e__law_box k__law_box b__law_box F__law_by_hand_right e__law_by_hand_right k__law_by_hand_right b__law_by_hand_right F__law_cells e__law_cells k__law_cells b__law_cells F__law_right e__law_right k__law_right b__law_right m_all m_len m_range)
end K01
end

section
set_option linter.all false
set_option maxRecDepth 100000
set_option maxHeartbeats 1000000
namespace K01
open PySem PD
theorem take_pos (x y z k : Int) (hk : 0 < k) (hd : divOk k = true) (hx : 0 < x) : g__law_take [.ow true [.int x, .int y, .int z], .fz (.int k)] = some (.ok (.int (x.fmod k)), [.ow true [.int (x.fdiv k), .int y, .int z], .fz (.int k)]) := by
  have h0 : k ≠ 0 := by omega
  simp [g__law_take, runD, B__law_take, sSeq, sIf, bnd, PD.ret, lif, xBool, xBin, xIxO, xCall, sAsg, sSub, sRet, sSkip, gtD, intsD, ixD, L2.atI, L2.ixN, boolD, modD, fdivD, intD, xVar, sName, keepO, keepD, Cell.free, hx, h0, hd]

theorem sm_mod (w : Int) : small64 (w.fmod 40009 + 7) = true := by
  have h1 := Int.fmod_nonneg_of_pos w (b := 40009) (by decide)
  have h2 := Int.fmod_lt_of_pos w (b := 40009) (by decide)
  unfold small64
  simp only [Bool.and_eq_true, decide_eq_true_eq]
  omega
theorem sm_z {z : Int} (h1 : 0 ≤ z) (h2 : z < 1000000) : small64 (39373 + (z + 1)) = true := by
  unfold small64
  simp only [Bool.and_eq_true, decide_eq_true_eq]
  omega
theorem take_neg (x y z k : Int) (hk : 0 < k) (hd : divOk k = true) (hx : ¬ 0 < x) (z0 : 0 ≤ z) (z1 : z < 1000000) : ∃ v : Int, g__law_take [.ow true [.int x, .int y, .int z], .fz (.int k)] = some (.ok (.int (v.fmod k)), [.ow true [.int x, .int y, .int (z + 1)], .fz (.int k)]) := by
  have h0 : k ≠ 0 := by omega
  have d1 : divOk 1000003 = true := by decide
  have d2 : divOk 64 = true := by decide
  have s1 : small64 48271 = true := by decide
  have s2 := sm_z z0 z1
  refine ⟨?v, ?h⟩
  case h =>
   simp [g__law_take, runD, B__law_take, sSeq, sIf, bnd, PD.ret, lif, xBool, xBin, xIxO, xCall, sAsg, sSub, sRet, sSkip, gtD, intsD, ixD, L2.atI, L2.ixN, boolD, modD, fdivD, intD, addD, addI, mulD, mulI, mulOk, xVar, sName, keepO, keepD, Cell.free, hx, h0, d1, d2, s1, s2, sm_mod]
   rfl
theorem take_any (x y z k : Int) (hk : 0 < k) (hd : divOk k = true) (z0 : 0 ≤ z) (z1 : z < 1000000) : ∃ v x' z' : Int, g__law_take [.ow true [.int x, .int y, .int z], .fz (.int k)] = some (.ok (.int v), [.ow true [.int x', .int y, .int z'], .fz (.int k)]) ∧ 0 ≤ v ∧ v < k ∧ 0 ≤ z' ∧ z' ≤ z + 1 := by
  by_cases hx : 0 < x
  · exact ⟨_, _, _, take_pos x y z k hk hd hx, Int.fmod_nonneg_of_pos _ hk, Int.fmod_lt_of_pos _ hk, z0, by omega⟩
  · obtain ⟨v, h⟩ := take_neg x y z k hk hd hx z0 z1
    exact ⟨_, _, _, h, Int.fmod_nonneg_of_pos _ hk, Int.fmod_lt_of_pos _ hk, by omega, by omega⟩
end K01
namespace K01
open PySem PD
theorem ints_map (l : List Int) : ints? (l.map .int) = some l := by
  induction l with
  | nil => rfl
  | cons x l ih => simp [ints?, ih]
theorem comp_mul {p : Int} {a b : PyData} {l m : List Int} (hl : l.length ≤ 1000) (hs : ∀ x ∈ l, small64 x = true) :
    compD [3, 4] (sTup 2 (sCons (sName 3) (sCons (sName 4) sNil))) (PD.ret true) (xBin mulD (xVar 3) (xVar 4)) (pairL (l.map .int) (m.map .int)) [] [.fz (.int p), .fz a, .fz b, .un, .un] = some ((List.zipWith (· * ·) l m).map .int, [.fz (.int p), .fz a, .fz b, .un, .un]) := by
  have q := comp_map (is := [3, 4]) (set := sTup 2 (sCons (sName 3) (sCons (sName 4) sNil))) (el := xBin mulD (xVar 3) (xVar 4)) (ds := pairL (l.map .int) (m.map .int)) (acc := []) (δ := [.fz (.int p), .fz a, .fz b, .un, .un])
    (fun d => match d with | .tuple [.int x, .int y] => .int (x * y) | _ => .none) (by rw [pairL_length]; simp; omega) (fun d hd => by
      rw [pairL_ints] at hd
      obtain ⟨x, y, hx, hd⟩ : ∃ x y, x ∈ l ∧ d = .tuple [.int x, .int y] := by
        obtain ⟨j, hj, e⟩ := List.getElem_of_mem hd
        rw [List.getElem_zipWith] at e
        exact ⟨_, _, List.getElem_mem _, e.symm⟩
      subst hd
      have h1 := hs x hx
      refine ⟨_, _, by simp [sTup, sCons, sName, sNil, Cell.free]; rfl, by simp [xBin, xVar, bnd, lif, mulD, mulI, intsD, mulOk, h1]; rfl, by simp [noOw], by simp [wipeD]⟩)
  rw [q, pairL_ints, List.map_zipWith, List.map_zipWith]
  rfl
end K01
namespace K01
open PySem PD
def lin (p : Int) (l m : List Int) (f : Int) : List Int := List.zipWith (fun o s => (o + f * s).fmod p) l m
theorem lin_map {p f : Int} {l m : List Int} : (pairL (l.map .int) (m.map .int)).map (fun d => match d with | .tuple [.int x, .int y] => PyData.int ((x + f * y).fmod p) | _ => .none) = (lin p l m f).map .int := by
  rw [pairL_ints, List.map_zipWith, lin, List.map_zipWith]
theorem pair_mem {l m : List Int} {d : PyData} (hd : d ∈ pairL (l.map .int) (m.map .int)) : ∃ x y : Int, d = .tuple [.int x, .int y] := by
  rw [pairL_ints] at hd
  obtain ⟨j, hj, e⟩ := List.getElem_of_mem hd
  rw [List.getElem_zipWith] at e
  exact ⟨_, _, e.symm⟩
theorem comp_lin {p f : Int} {a b : PyData} {l m : List Int} (hp : p ≠ 0) (hl : l.length ≤ 1000) (hf : small64 f = true) :
    compD [4, 5] (sTup 2 (sCons (sName 4) (sCons (sName 5) sNil))) (PD.ret true) (xBin modD (xCall intD (bnd (xBin addD (xVar 4) (xBin mulD (xVar 3) (xVar 5))) fun d => bnd (PD.ret []) fun ds => PD.ret (d :: ds))) (xVar 0)) (pairL (l.map .int) (m.map .int)) [] [.fz (.int p), .fz a, .fz b, .fz (.int f), .un, .un]
      = some ((lin p l m f).map .int, [.fz (.int p), .fz a, .fz b, .fz (.int f), .un, .un]) := by
  have q := PD.comp_map (is := [4, 5]) (set := sTup 2 (sCons (sName 4) (sCons (sName 5) sNil))) (el := xBin modD (xCall intD (bnd (xBin addD (xVar 4) (xBin mulD (xVar 3) (xVar 5))) fun d => bnd (PD.ret []) fun ds => PD.ret (d :: ds))) (xVar 0)) (ds := pairL (l.map .int) (m.map .int)) (acc := []) (δ := [.fz (.int p), .fz a, .fz b, .fz (.int f), .un, .un])
    (fun d => match d with | PyData.tuple [PyData.int x, PyData.int y] => PyData.int ((x + f * y).fmod p) | _ => PyData.none) (by rw [pairL_length]; simp; omega) (fun d hd => by
      obtain ⟨x, y, rfl⟩ := pair_mem hd
      exact ⟨_, _, by simp [sTup, sCons, sName, sNil, Cell.free]; rfl, by simp [xBin, xVar, xCall, bnd, lif, PD.ret, mulD, mulI, addD, addI, modD, intD, intsD, mulOk, hf, hp]; rfl, by simp [noOw], by simp [wipeD]⟩)
  rw [q, lin_map]
  rfl
end K01
namespace K01
open PySem PD
def comb (p : Int) : List Int → List (List Int) → List Int → List Int
  | line, r :: rows, f :: fs => comb p (lin p line r f) rows fs
  | line, _, _ => line
inductive Rows : List PyData → List (List Int) → Prop
  | nil : Rows [] []
  | cons {v : PyData} {vs : List PyData} {r : List Int} {rows : List (List Int)} : seqD v = some (r.map .int) → Rows vs rows → Rows (v :: vs) (r :: rows)
abbrev mixSet : Tg := sTup 2 (sCons (sName 5) (sCons (sName 6) sNil))
theorem lin_len {p f : Int} {l m : List Int} : (lin p l m f).length ≤ l.length := by
  unfold lin
  rw [List.length_zipWith]
  omega
end K01
namespace K01
open PySem PD
def combR (p : Int) : List Int → List (List Int) → List Int → List Int
  | line, r :: rows, f :: fs => combR p (if f = 0 then line else lin p line r f) rows fs
  | line, _, _ => line
def linD (p f : Int) (d : PyData) : PyData := match d with | PyData.tuple [PyData.int x, PyData.int y] => PyData.int ((x + f * y).fmod p) | _ => PyData.none
theorem linD_map {p f : Int} {l m : List Int} : (pairL (l.map .int) (m.map .int)).map (linD p f) = (lin p l m f).map .int := by
  rw [pairL_ints, List.map_zipWith, lin, List.map_zipWith]
  rfl
abbrev rowEl : M PyData := xBin modD (xBin addD (xVar 7) (xBin mulD (xVar 6) (xVar 8))) (xVar 0)
abbrev rowLc : M PyData := bnd (xComp (xCallF' zipD (bnd (xVar 4) fun d => bnd (bnd (xVar 5) fun d => bnd (PD.ret []) fun ds => PD.ret (d :: ds)) fun ds => PD.ret (d :: ds))) [7, 8] (sTup 2 (sCons (sName 7) (sCons (sName 8) sNil))) (PD.ret true) rowEl) fun ds => PD.ret (.list ds)
abbrev rowBody : MS := sIf (xTru (xVar 6)) (sAsg rowLc (sName 4)) sSkip
theorem comp_row {p f : Int} {a b n x y : PyData} {l m : List Int} (hp : p ≠ 0) (hl : l.length ≤ 1000) (hf : small64 f = true) :
    compD [7, 8] (sTup 2 (sCons (sName 7) (sCons (sName 8) sNil))) (PD.ret true) rowEl (pairL (l.map .int) (m.map .int)) [] [.fz (.int p), .fz a, .fz b, .fz n, .fz x, .fz y, .fz (.int f), .un, .un]
      = some ((lin p l m f).map .int, [.fz (.int p), .fz a, .fz b, .fz n, .fz x, .fz y, .fz (.int f), .un, .un]) := by
  have q := PD.comp_map (is := [7, 8]) (set := sTup 2 (sCons (sName 7) (sCons (sName 8) sNil))) (el := rowEl) (ds := pairL (l.map .int) (m.map .int)) (acc := []) (δ := [.fz (.int p), .fz a, .fz b, .fz n, .fz x, .fz y, .fz (.int f), .un, .un])
    (linD p f) (by rw [pairL_length]; simp; omega) (fun d hd => by
      obtain ⟨x, y, rfl⟩ := pair_mem hd
      exact ⟨_, _, by simp [sTup, sCons, sName, sNil, Cell.free]; rfl, by simp [rowEl, xBin, xVar, xCall, bnd, lif, PD.ret, mulD, mulI, addD, addI, modD, intD, intsD, mulOk, hf, hp, linD]; rfl, by simp [noOw], by simp [wipeD]⟩)
  rw [q, linD_map]
  rfl
theorem row_loop {p : Int} (hp : p ≠ 0) (a b n : PyData) : ∀ {vs : List PyData} {rows : List (List Int)}, Rows vs rows → ∀ (fs : List Int), (∀ f ∈ fs, small64 f = true) → ∀ (line : List Int), line.length ≤ 1000 → ∀ c5 c6 : Cell, c5.free = true → c6.free = true →
    ∃ c5' c6', loopD mixSet rowBody (pairL vs (fs.map .int)) [.fz (.int p), .fz a, .fz b, .fz n, .fz (.list (line.map .int)), c5, c6, .un, .un] = some (.ok .nx, [.fz (.int p), .fz a, .fz b, .fz n, .fz (.list ((combR p line rows fs).map .int)), c5', c6', .un, .un])
  | _, _, .nil, fs, _, line, _, c5, c6, _, _ => ⟨c5, c6, by simp [pairL, loopD, combR]⟩
  | _, _, .cons _ _, [], _, line, _, c5, c6, _, _ => ⟨c5, c6, by simp [pairL, loopD, combR]⟩
  | _, _, .cons (v := v) (r := r) hv t, f :: fs, hf, line, hl, c5, c6, h5, h6 => by
    have hl2 : (if f = 0 then line else lin p line r f).length ≤ 1000 := by
      split
      · exact hl
      · exact Nat.le_trans lin_len hl
    obtain ⟨d5, d6, e⟩ := row_loop hp a b n t fs (fun g hg => hf g (List.mem_cons_of_mem _ hg)) (if f = 0 then line else lin p line r f) hl2 (.fz v) (.fz (.int f)) rfl rfl
    refine ⟨d5, d6, ?_⟩
    have q := comp_row (p := p) (f := f) (a := a) (b := b) (n := n) (x := .list (line.map .int)) (y := v) (l := line) (m := r) hp hl (hf f (List.mem_cons_self ..))
    have h1 : mixSet (.tuple [v, .int f]) [.fz (.int p), .fz a, .fz b, .fz n, .fz (.list (line.map .int)), c5, c6, .un, .un] = some [.fz (.int p), .fz a, .fz b, .fz n, .fz (.list (line.map .int)), .fz v, .fz (.int f), .un, .un] := by
      simp [mixSet, sTup, sCons, sName, sNil, h5, h6]
    have hz : xCallF' zipD (bnd (xVar 4) fun d => bnd (bnd (xVar 5) fun d => bnd (PD.ret []) fun ds => PD.ret (d :: ds)) fun ds => PD.ret (d :: ds)) [.fz (.int p), .fz a, .fz b, .fz n, .fz (.list (line.map .int)), .fz v, .fz (.int f), .un, .un] = some (.ok (pairL (line.map .int) (r.map .int)), [.fz (.int p), .fz a, .fz b, .fz n, .fz (.list (line.map .int)), .fz v, .fz (.int f), .un, .un]) := by
      have hs : seqD (.list (line.map .int)) = some (line.map .int) := rfl
      simp [xCallF', bnd, xVar, PD.ret, lif, zipD, hs, hv]
    have hlc : rowLc [.fz (.int p), .fz a, .fz b, .fz n, .fz (.list (line.map .int)), .fz v, .fz (.int f), .un, .un] = some (.ok (.list ((lin p line r f).map .int)), [.fz (.int p), .fz a, .fz b, .fz n, .fz (.list (line.map .int)), .fz v, .fz (.int f), .un, .un]) := by
      have hx := xComp_eq (is := [7, 8]) (set := sTup 2 (sCons (sName 7) (sCons (sName 8) sNil))) hz (by simp [noOw]) q
      unfold rowLc
      rw [bnd_eq hx]
      rfl
    have h2 : rowBody [.fz (.int p), .fz a, .fz b, .fz n, .fz (.list (line.map .int)), .fz v, .fz (.int f), .un, .un] = some (.ok .nx, [.fz (.int p), .fz a, .fz b, .fz n, .fz (.list ((if f = 0 then line else lin p line r f).map .int)), .fz v, .fz (.int f), .un, .un]) := by
      by_cases h : f = 0
      · subst h
        simp [rowBody, sIf, xTru, xVar, bnd, lif, truthD, sSkip, PD.ret]
      · simp only [rowBody, sIf, xTru, xVar, bnd, lif, truthD, PD.ret]
        simp [h, sAsg, bnd, hlc, sName, Cell.free]
    show loopD mixSet rowBody (.tuple [v, .int f] :: pairL _ (fs.map .int)) _ = _
    unfold loopD
    simp only [h1, h2, e]
    rfl
end K01
namespace K01
open PySem PD
theorem rep_fits {n : Nat} (hn : n ≤ 1000) : 1 * (n : Int).toNat ≤ sizeLine := Nat.le_trans (by simp; exact hn) (Nat.le_trans (by decide : 1000 ≤ 16777216) (Nat.le_of_eq sizeLine_eq.symm))
theorem rep_row {n : Nat} (hn : n ≤ 1000) {f : M (List PyData)} {g : M PyData} {δ : Sg} (hl : f δ = some (.ok [.int 0], δ)) (hv : g δ = some (.ok (.int n), δ)) :
    xRepF f g δ = some (.ok ((List.replicate n (0 : Int)).map .int), δ) := by
  unfold xRepF
  rw [bnd_eq hl, bnd_eq hv]
  dsimp only
  rw [if_pos ⟨by omega, by omega, rep_fits hn⟩]
  simp [lif]
end K01
namespace K01
open PySem PD
def Tin (N : Int) (os : List PyData) : Prop := ∃ x y z : Int, os = [.int x, .int y, .int z] ∧ 0 ≤ z ∧ z ≤ N
theorem Tin.mono {N N' : Int} {os : List PyData} (h : Tin N os) (l : N ≤ N') : Tin N' os := by
  obtain ⟨x, y, z, e, h0, h1⟩ := h
  exact ⟨x, y, z, e, h0, by omega⟩
theorem take_tin {N k : Int} {os : List PyData} (h : Tin N os) (hN : N < 1000000) (hk : 0 < k) (hd : divOk k = true) :
    ∃ (v : Int) (os' : List PyData), g__law_take [.ow true os, .fz (.int k)] = some (.ok (.int v), [.ow true os', .fz (.int k)]) ∧ 0 ≤ v ∧ v < k ∧ Tin (N + 1) os' := by
  obtain ⟨x, y, z, rfl, z0, z1⟩ := h
  obtain ⟨v, x', z', e, h1, h2, h3, h4⟩ := take_any x y z k hk hd z0 (by omega)
  exact ⟨v, _, e, h1, h2, x', y, z', rfl, h3, by omega⟩
theorem w_take {b : Bool} {os : List PyData} {r : Sg} {N k : Int} {fs : M (List PyData)} {Q : PyData → Sg → Prop} (t : Tin N os) (hN : N < 1000000) (hk : 0 < k) (hd : divOk k = true)
    (f : Gd fs (.ow b os :: r) fun ds δ1 => ds = [.int k] ∧ δ1 = .ow b os :: r) (h : ∀ (v : Int) (os' : List PyData), 0 ≤ v → v < k → Tin (N + 1) os' → Q (.int v) (.ow b os' :: r)) : Gd (xDefO g__law_take 0 fs) (.ow b os :: r) Q := by
  obtain ⟨v, os', e, h1, h2, t'⟩ := take_tin t hN hk hd
  refine w_defO .z (f.imp fun ds δ1 q => ?_)
  obtain ⟨rfl, rfl⟩ := q
  exact ⟨b, os, true, os', .int v, _, _, .z, e, .z, h v os' h1 h2 t'⟩
theorem at_some {xs : List PyData} {v : Int} (h0 : 0 ≤ v) (h1 : v < xs.length) : ∃ d ∈ xs, L2.atI xs v = some d := by
  refine ⟨xs[v.toNat]'(by omega), List.getElem_mem _, ?_⟩
  unfold L2.atI L2.ixN
  rw [if_pos h0, if_pos h1]
  simp
theorem of_eq {N : Int} {os xs : List PyData} (t : Tin N os) (hN : N < 1000000) (h0 : 0 < xs.length) (h1 : xs.length < 1000000) :
    ∃ d ∈ xs, ∃ os', g__law_of [.ow true os, .fz (.list xs)] = some (.ok d, [.ow true os', .fz (.list xs)]) ∧ Tin (N + 1) os' := by
  have hd : divOk xs.length = true := by unfold divOk; simp only [Bool.and_eq_true, decide_eq_true_eq]; omega
  obtain ⟨v, os', e, v0, v1, t'⟩ := take_tin (k := xs.length) t hN (by omega) hd
  obtain ⟨d, hm, e2⟩ := at_some v0 v1
  refine ⟨d, hm, os', ?r, t'⟩
  walk_at "w_run"
  unfold B__law_of
  walk_at "wp"
  refine w_defO .z ?_
  walk_at "wp"
  refine w_lif rfl ?_
  walk_at "wp"
  refine ⟨_, _, _, _, _, _, _, .z, e, .z, ?_⟩
  refine w_lif e2 ?_
  exact ⟨rfl, rfl⟩
end K01
namespace K01
open PySem PD
end K01
namespace K01
open PySem PD
theorem all_map {f : PyData → Bool} {ds : List PyData} : allD [.list (ds.map fun d => .bool (f d))] = some (.bool (ds.all f)) := by
  have h : (ds.map fun d => PyData.bool (f d)) = (ds.map f).map .bool := by simp
  rw [h, o_all]
  simp
end K01
namespace K01
open PySem PD
inductive Sm : Nat → PyData → Prop
  | non {n : Nat} : Sm n .none
  | int {n : Nat} (i : Int) : Sm n (.int i)
  | bl {n : Nat} (b : Bool) : Sm n (.bool b)
  | str {n : Nat} (x : PySem.Str) (ho : PyData.strOk x = true) : Sm n (.str x)
  | tup {n : Nat} {ds : List PyData} (l : ds.length ≤ 1000000) (h : ∀ d ∈ ds, Sm n d) : Sm (n + 1) (.tuple ds)
  | lst {n : Nat} {ds : List PyData} (l : ds.length ≤ 1000000) (h : ∀ d ∈ ds, Sm n d) : Sm (n + 1) (.list ds)
theorem pair_self {ds : List PyData} {d : PyData} (h : d ∈ pairL ds ds) : ∃ x ∈ ds, d = .tuple [x, x] := by
  induction ds with
  | nil => cases h
  | cons y ds ih =>
    rcases List.mem_cons.mp h with rfl | h
    · exact ⟨y, List.mem_cons_self .., rfl⟩
    · obtain ⟨x, hx, e⟩ := ih h
      exact ⟨x, List.mem_cons_of_mem _ hx, e⟩
theorem same_comp {G : Sg → Option (Ans PyData × Sg)} {d : PyData} {ds : List PyData} (l : ds.length ≤ 1000000) (h : ∀ x ∈ ds, G [.fz x, .fz x] = some (.ok (.bool true), [.fz x, .fz x])) :
    compD [2, 3] (sTup 2 (sCons (sName 2) (sCons (sName 3) sNil))) (PD.ret true) (xDef G (bnd (xVar 2) fun d => bnd (bnd (xVar 3) fun d => bnd (PD.ret []) fun ds => PD.ret (d :: ds)) fun ds => PD.ret (d :: ds))) (pairL ds ds) [] [.fz d, .fz d, .un, .un]
      = some ((pairL ds ds).map (fun _ => .bool ((fun _ => true) d)), [.fz d, .fz d, .un, .un]) := by
  refine comp_fun _ (by rw [pairL_length]; omega) fun y hy => ?_
  obtain ⟨x, hx, rfl⟩ := pair_self hy
  walk_at "wp"
  exact ⟨_, _, h x hx, rfl, rfl, rfl⟩
theorem same_seq {G : Sg → Option (Ans PyData × Sg)} {d : PyData} {ds : List PyData} (hd : d = .tuple ds ∨ d = .list ds) (l : ds.length ≤ 1000000) (h : ∀ x ∈ ds, G [.fz x, .fz x] = some (.ok (.bool true), [.fz x, .fz x])) :
    runD 4 (B__law_same G) [.fz d, .fz d] = some (.ok (.bool true), [.fz d, .fz d]) := by
  have q := same_comp (d := d) l h
  have hs : seqD d = some ds := by rcases hd with rfl | rfl <;> rfl
  have hl : lenX [d] = some (.int ds.length) := by rcases hd with rfl | rfl <;> rfl
  have h1 : isiD ["list", "tuple"] d = some (.bool true) := by rcases hd with rfl | rfl <;> rfl
  walk_at "w_run"
  unfold B__law_same
  walk_at "wp"
  refine w_lif h1 ?_
  refine w_lif rfl ?_
  walk_at "wp"
  refine w_lif rfl ?_
  walk_at "wp"
  refine w_lif rfl ?_
  have hn : ∀ b : Bool, neD (.bool b) (.bool b) = some (.bool false) := by intro b; cases b <;> rfl
  refine w_lif (hn _) ?_
  refine w_lif rfl ?_
  walk_at "wp"
  refine w_lif rfl ?_
  walk_at "wp"
  refine w_lif rfl ?_
  refine w_lif (hn _) ?_
  refine w_lif rfl ?_
  walk_at "wp"
  refine w_lif hl ?_
  walk_at "wp"
  refine w_lif hl ?_
  refine w_lif (o_eqI _ _) ?_
  refine ⟨_, rfl, ?_⟩
  rw [decide_eq_true rfl]
  walk_at "wp"
  refine w_lif (o_zip hs hs) ?_
  refine ⟨rfl, _, _, q, ?_⟩
  walk_at "wp"
  refine w_lif (all_map (f := fun _ => true)) ?_
  exact ⟨by simp, rfl⟩
theorem same_eq : ∀ {n : Nat} {d : PyData}, Sm n d → ∀ m, n < m → gr__law_same m [.fz d, .fz d] = some (.ok (.bool true), [.fz d, .fz d])
  | _, _, _, 0, h => absurd h (by omega)
  | _, _, .non, m + 1, _ => by
    have h : ∀ b : Bool, eqD (.bool b) (.bool b) = some (.bool true) := by intro b; cases b <;> rfl
    show runD 4 (B__law_same (gr__law_same m)) _ = _
    walk_at "w_run"
    unfold B__law_same
    walk_at "wp"
    refine w_lif (a := .bool false) rfl ?_
    refine w_lif (a := false) rfl ?_
    walk_at "wp"
    refine w_lif (a := .bool true) rfl ?_
    refine w_lif (a := true) rfl ?_
    walk_at "wp"
    refine w_lif (a := .bool true) rfl ?_
    refine ⟨_, rfl, ?_⟩
    walk_at "wp"
    refine w_lif (a := .bool false) rfl ?_
    walk_at "wp"
    refine w_lif (a := .bool false) rfl ?_
    refine w_lif (h _) ?_
    refine ⟨_, rfl, ?_⟩
    walk_at "wp"
    refine w_lif (a := .bool true) rfl ?_
    walk_at "wp"
    refine w_lif (a := .bool true) rfl ?_
    refine w_lif (h _) ?_
    exact ⟨rfl, rfl⟩
  | _, _, .int i, m + 1, _ => by
    show runD 4 (B__law_same (gr__law_same m)) _ = _
    walk_at "w_run"
    unfold B__law_same
    walk_at "wp"
    refine w_lif (a := .bool false) rfl ?_
    refine w_lif (a := false) rfl ?_
    walk_at "wp"
    refine w_lif (a := .bool false) rfl ?_
    refine w_lif (a := false) rfl ?_
    walk_at "wp"
    refine w_lif (a := .bool false) rfl ?_
    refine w_lif (a := false) rfl ?_
    walk_at "wp"
    refine w_lif (a := .bool true) rfl ?_
    refine ⟨_, rfl, ?_⟩
    walk_at "wp"
    refine w_lif (a := .bool false) rfl ?_
    refine ⟨_, rfl, _, rfl, ?_⟩
    show Gd (cond true _ _) _ _
    walk_at "wp"
    refine w_lif (o_eqI _ _) ?_
    exact ⟨by simp, rfl⟩
  | _, _, .bl b, m + 1, _ => by
    have h : ∀ b : Bool, eqD (.bool b) (.bool b) = some (.bool true) := by intro b; cases b <;> rfl
    show runD 4 (B__law_same (gr__law_same m)) _ = _
    walk_at "w_run"
    unfold B__law_same
    walk_at "wp"
    refine w_lif (a := .bool false) rfl ?_
    refine w_lif (a := false) rfl ?_
    walk_at "wp"
    refine w_lif (a := .bool false) rfl ?_
    refine w_lif (a := false) rfl ?_
    walk_at "wp"
    refine w_lif (a := .bool true) rfl ?_
    refine w_lif (a := true) rfl ?_
    walk_at "wp"
    refine w_lif (h b) ?_
    refine ⟨_, rfl, ?_⟩
    walk_at "wp"
    refine w_lif (a := .bool true) rfl ?_
    walk_at "wp"
    refine w_lif (a := .bool true) rfl ?_
    refine w_lif (h _) ?_
    refine ⟨_, rfl, ?_⟩
    walk_at "wp"
    refine w_lif (a := .bool false) rfl ?_
    walk_at "wp"
    refine w_lif (a := .bool false) rfl ?_
    refine w_lif (h _) ?_
    exact ⟨rfl, rfl⟩
  | _, _, .str x ho, m + 1, _ => by
    have h : ∀ b : Bool, eqD (.bool b) (.bool b) = some (.bool true) := by intro b; cases b <;> rfl
    have h0 : eqD (.str x) (.str x) = some (.bool true) := by
      simp [eqD, SeqAt.shaped, PyData.eqv, PyData.canLay0, PyData.depth, ho]
    show runD 4 (B__law_same (gr__law_same m)) _ = _
    walk_at "w_run"
    unfold B__law_same
    walk_at "wp"
    refine w_lif (a := .bool false) rfl ?_
    refine w_lif (a := false) rfl ?_
    walk_at "wp"
    refine w_lif (a := .bool false) rfl ?_
    refine w_lif (a := false) rfl ?_
    walk_at "wp"
    refine w_lif (a := .bool true) rfl ?_
    refine w_lif (a := true) rfl ?_
    walk_at "wp"
    refine w_lif h0 ?_
    refine ⟨_, rfl, ?_⟩
    walk_at "wp"
    refine w_lif (a := .bool false) rfl ?_
    walk_at "wp"
    refine w_lif (a := .bool false) rfl ?_
    refine w_lif (h _) ?_
    refine ⟨_, rfl, ?_⟩
    walk_at "wp"
    refine w_lif (a := .bool false) rfl ?_
    walk_at "wp"
    refine w_lif (a := .bool false) rfl ?_
    refine w_lif (h _) ?_
    exact ⟨rfl, rfl⟩
  | _, _, .tup l h, m + 1, hm => same_seq (.inl rfl) l fun x hx => same_eq (h x hx) m (by omega)
  | _, _, .lst l h, m + 1, hm => same_seq (.inr rfl) l fun x hx => same_eq (h x hx) m (by omega)
end K01
namespace K01
open PySem PD
/-! rows -/
def Res (p : Int) (r : List Int) : Prop := ∀ x ∈ r, 0 ≤ x ∧ x < p
abbrev rowT (r : List Int) : PyData := .tuple (r.map .int)
abbrev rowL (r : List Int) : PyData := .list (r.map .int)
theorem rows_T : ∀ rows : List (List Int), Rows (rows.map rowT) rows
  | [] => .nil
  | r :: rows => .cons rfl (rows_T rows)
theorem rows_L : ∀ rows : List (List Int), Rows (rows.map rowL) rows
  | [] => .nil
  | r :: rows => .cons rfl (rows_L rows)
theorem fmod_id {p x : Int} (h0 : 0 ≤ x) (h1 : x < p) : x.fmod p = x := by rw [Int.fmod_eq_emod_of_nonneg _ (by omega), Int.emod_eq_of_lt h0 h1]
theorem lin_res {p f : Int} {l m : List Int} (hp : 0 < p) : Res p (lin p l m f) := by
  intro x hx
  unfold lin at hx
  obtain ⟨i, hi, rfl⟩ := List.getElem_of_mem hx
  rw [List.getElem_zipWith]
  exact ⟨Int.fmod_nonneg_of_pos _ hp, Int.fmod_lt_of_pos _ hp⟩
theorem lin_length {p f : Int} {l m : List Int} : (lin p l m f).length = min l.length m.length := by
  unfold lin
  rw [List.length_zipWith]
theorem lin_zero {p : Int} {l m : List Int} (h : Res p l) (hl : l.length = m.length) : lin p l m 0 = l := by
  unfold lin
  apply List.ext_getElem
  · rw [List.length_zipWith]
    omega
  · intro i h1 h2
    rw [List.getElem_zipWith]
    obtain ⟨a, b⟩ := h l[i] (List.getElem_mem _)
    rw [Int.zero_mul, Int.add_zero]
    exact fmod_id a b
theorem comb_ok {p : Int} {n : Nat} (hp : 0 < p) : ∀ {rows : List (List Int)} {fs line : List Int}, (∀ r ∈ rows, r.length = n) → line.length = n → Res p line →
    combR p line rows fs = comb p line rows fs ∧ (comb p line rows fs).length = n ∧ Res p (comb p line rows fs)
  | [], fs, line, _, hl, hr => by simp [combR, comb, hl]; exact hr
  | r :: rows, [], line, _, hl, hr => by simp [combR, comb, hl]; exact hr
  | r :: rows, f :: fs, line, h, hl, hr => by
    have hrl : r.length = n := h r (List.mem_cons_self ..)
    have ih := comb_ok (n := n) hp (rows := rows) (fs := fs) (line := lin p line r f) (fun r hr => h r (List.mem_cons_of_mem _ hr)) (by rw [lin_length]; omega) (lin_res hp)
    refine ⟨?_, ih.2⟩
    show combR p (if f = 0 then line else lin p line r f) rows fs = comb p (lin p line r f) rows fs
    split
    · rename_i e
      rw [e] at ih ⊢
      rw [← ih.1, lin_zero hr (by omega)]
    · exact ih.1
theorem res_zero {p : Int} (hp : 0 < p) (n : Nat) : Res p (List.replicate n 0) := by
  intro x hx
  obtain ⟨_, rfl⟩ := List.mem_replicate.mp hx
  omega
/-! takes in a comprehension -/
theorem comp_take {b : Bool} {k : Int} {i : Nat} {r : Sg} {fs : M (List PyData)} (rv : PyData → Sg) (hs : ∀ os d, sName i d (.ow b os :: r) = some (.ow b os :: rv d)) (hw : ∀ os d, wipeD (.ow b os :: rv d) [i] = .ow b os :: r) (hn : ∀ os d, noOw (.ow b os :: rv d) [i] = true)
    (he : ∀ os d, Gd fs (.ow b os :: rv d) fun ds δ1 => ds = [.int k] ∧ δ1 = .ow b os :: rv d) (hk : 0 < k) (hd : divOk k = true) {N : Int} {os ds : List PyData} (t : Tin N os) (hN : 0 ≤ N) (hl : N + ds.length < 1000000) :
    ∃ (l : List Int) (os' : List PyData), l.length = ds.length ∧ Res k l ∧ Tin (N + ds.length) os' ∧ compD [i] (sName i) (PD.ret true) (xDefO g__law_take 0 fs) ds [] (.ow b os :: r) = some (l.map .int, .ow b os' :: r) := by
  obtain ⟨acc, δ', e, l, os', rfl, hj, hr, t', rfl⟩ := comp_inv (is := [i]) (set := sName i) (el := xDefO g__law_take 0 fs) (ds := ds) (acc := []) (δ := .ow b os :: r)
    (fun j acc δ => ∃ (l : List Int) (os' : List PyData), acc = l.map .int ∧ l.length = j ∧ Res k l ∧ Tin (N + j) os' ∧ δ = .ow b os' :: r)
    ⟨[], os, rfl, rfl, (fun x h => absurd h (List.not_mem_nil)), by simpa using t, rfl⟩ (by simp; omega) fun j d hj acc δ ⟨l, os', ea, el, hr, t', ed⟩ => by
      subst ea ed
      have hj' : j < ds.length := by
        obtain ⟨h, _⟩ := List.getElem?_eq_some_iff.mp hj
        exact h
      obtain ⟨y, δ3, e, v, os'', rfl, rfl, h0, h1, t''⟩ := w_take (b := b) (r := rv d) (Q := fun y δ3 => ∃ (v : Int) (os'' : List PyData), y = .int v ∧ δ3 = .ow b os'' :: rv d ∧ 0 ≤ v ∧ v < k ∧ Tin (N + j + 1) os'') t' (by omega) hk hd (he os' d)
        fun v os'' h0 h1 t'' => ⟨v, os'', rfl, rfl, h0, h1, t''⟩
      refine ⟨_, _, _, hs os' d, e, hn _ _, l ++ [v], os'', by simp, by simp [el], ?_, by rw [Int.natCast_add]; simpa [Int.add_assoc] using t'', hw _ _⟩
      intro x hx
      rcases List.mem_append.mp hx with hx | hx
      · exact hr x hx
      · rw [List.mem_singleton.mp hx]
        exact ⟨h0, h1⟩
  exact ⟨l, os', hj, hr, t', e⟩
end K01
namespace K01
open PySem PD
def Flat (n : Nat) (d : PyData) : Prop := d.canLay0 = true ∧ d.depth ≤ n
theorem flat_all {n : Nat} : ∀ {ds : List PyData}, (∀ d ∈ ds, Flat n d) → PyData.canLayAll0 ds = true ∧ PyData.depthAll ds ≤ n
  | [], _ => by simp [PyData.canLayAll0, PyData.depthAll]
  | d :: ds, h => by
    have h1 := h d (List.mem_cons_self ..)
    have h2 := flat_all fun x hx => h x (List.mem_cons_of_mem _ hx)
    rw [PyData.canLayAll0.eq_2, PyData.depthAll.eq_2]
    simp only [h1.1, h2.1, Bool.and_self, true_and]
    have := h1.2
    have := h2.2
    omega
theorem flat_int {n : Nat} (i : Int) : Flat n (.int i) := by simp [Flat, PyData.canLay0, PyData.depth]
theorem flat_tup {n : Nat} {ds : List PyData} (h : ∀ d ∈ ds, Flat n d) : Flat (n + 1) (.tuple ds) := by
  have := flat_all h
  simp [Flat, PyData.canLay0, PyData.depth, this.1]
  omega
theorem flat_lst {n : Nat} {ds : List PyData} (h : ∀ d ∈ ds, Flat n d) : Flat (n + 1) (.list ds) := by
  have := flat_all h
  simp [Flat, PyData.canLay0, PyData.depth, this.1]
  omega
theorem flat_row {r : List Int} : Flat 1 (rowT r) := flat_tup fun d hd => by
  obtain ⟨i, _, rfl⟩ := List.mem_map.mp hd
  exact flat_int i
theorem flat_rows {rows : List (List Int)} : Flat 2 (.list (rows.map rowT)) := flat_lst fun d hd => by
  obtain ⟨i, _, rfl⟩ := List.mem_map.mp hd
  exact flat_row
theorem Flat.shaped {n : Nat} {d : PyData} (h : Flat n d) (hn : n ≤ 64) : SeqAt.shaped d = true := by
  unfold SeqAt.shaped
  rw [h.1, decide_eq_true (Nat.le_trans h.2 hn)]
  rfl
theorem neD_nil {ds : List PyData} {n : Nat} (h : Flat n (.list ds)) (hn : n ≤ 64) : neD (.list ds) (.list []) = some (.bool (!ds.isEmpty)) := by
  have h2 : SeqAt.shaped (.list []) = true := rfl
  unfold neD
  rw [if_pos ⟨h.shaped hn, h2⟩]
  cases ds <;> simp [PyData.eqv, PyData.eqvAll]
theorem eqD_nil {ds : List PyData} {n : Nat} (h : Flat n (.list ds)) (hn : n ≤ 64) : eqD (.list ds) (.list []) = some (.bool ds.isEmpty) := by
  have h2 : SeqAt.shaped (.list []) = true := rfl
  unfold eqD
  rw [if_pos ⟨h.shaped hn, h2⟩]
  cases ds <;> simp [PyData.eqv, PyData.eqvAll]
structure Rw (p : Int) (n : Nat) (r : List Int) : Prop where
  len : r.length = n
  res : Res p r
def VI (p : Int) (m : PyData) (n : Nat) (N : Int) (j : Nat) (δ : Sg) : Prop := ∃ (rows : List (List Int)) (os : List PyData) (c5 c6 : Cell), δ = [.ow true os, .fz (.int p), .fz m, .fz (.int n), .ow false (rows.map rowT), c5, c6, .un] ∧ c5.free = true ∧ c6.free = true ∧ rows.length = j ∧ (∀ r ∈ rows, Rw p n r) ∧ Tin (N + 8 * j) os
theorem VI.more {p : Int} {m : PyData} {n : Nat} {N : Int} {j : Nat} {rows : List (List Int)} {os : List PyData} {c5 c6 : Cell} {r : List Int} (f5 : c5.free = true) (f6 : c6.free = true) (hj : rows.length = j) (hr : ∀ r ∈ rows, Rw p n r) (h : Rw p n r) (t : Tin (N + 8 * (j + 1)) os) :
    VI p m n N (j + 1) [.ow true os, .fz (.int p), .fz m, .fz (.int n), .ow false (rows.map rowT ++ [rowT r]), c5, c6, .un] :=
  ⟨rows ++ [r], os, c5, c6, by simp, f5, f6, by simp [hj], fun x hx => by
    rcases List.mem_append.mp hx with hx | hx
    · exact hr x hx
    · rw [List.mem_singleton.mp hx]; exact h, by simpa using t⟩
theorem range_take {j : Int} (h0 : 0 ≤ j) (h : j < 1000000) : range1D [.int j] = some (rangeL 0 j.toNat) := by
  unfold range1D fit62
  dsimp only
  rw [if_pos]
  simp only [Bool.and_eq_true, decide_eq_true_eq]
  omega
theorem rangeL_length (lo : Int) (n : Nat) : (rangeL lo n).length = n := by simp [rangeL]
end K01
namespace K01
open PySem PD
theorem comp_filter {is : List Nat} {set : Tg} {t : M Bool} {el : M PyData} {δ : Sg} (f : PyData → Bool) : ∀ {ds acc : List PyData}, acc.length + ds.length ≤ 1000000 →
    (∀ d ∈ ds, Gs set d δ fun δ1 => Gd t δ1 fun b δ2 => b = f d ∧ (b = true → Gd el δ2 fun y δ3 => y = d ∧ noOw δ3 is = true ∧ wipeD δ3 is = δ) ∧ (b = false → noOw δ2 is = true ∧ wipeD δ2 is = δ)) →
    compD is set t el ds acc δ = some (acc ++ ds.filter f, δ)
  | [], acc, _, _ => by simp [compD]
  | d :: ds, acc, hl, h => by
    obtain ⟨δ1, e1, b, δ2, e2, hb, h1, h2⟩ := h d (List.mem_cons_self ..)
    have hs : acc.length < sizeLine := by rw [sizeLine_eq]; simp at hl; omega
    cases b with
    | true =>
      obtain ⟨y, δ3, e3, rfl, n, w⟩ := h1 rfl
      have q := comp_filter (is := is) (set := set) (t := t) (el := el) (δ := δ) f (ds := ds) (acc := acc ++ [y]) (by simp at hl ⊢; omega) fun d' hd => h d' (List.mem_cons_of_mem _ hd)
      unfold compD
      simp only [e1, e2, e3, hs, n, and_self, if_true, w, q, List.filter_cons, ← hb]
      simp
    | false =>
      obtain ⟨n, w⟩ := h2 rfl
      have q := comp_filter (is := is) (set := set) (t := t) (el := el) (δ := δ) f (ds := ds) (acc := acc) (by simp at hl ⊢; omega) fun d' hd => h d' (List.mem_cons_of_mem _ hd)
      unfold compD
      simp only [e1, e2, n, if_true, w, q, List.filter_cons, ← hb]
      simp
theorem o_list {xs : List PyData} (h : xs.length ≤ 1000000) : listD [.tuple xs] = some xs := by
  unfold listD
  dsimp only
  rw [if_pos (Nat.le_trans h (by rw [sizeLine_eq]; decide))]
theorem o_listL {xs : List PyData} (h : xs.length ≤ 1000000) : listD [.list xs] = some xs := by
  unfold listD
  dsimp only
  rw [if_pos (Nat.le_trans h (by rw [sizeLine_eq]; decide))]
theorem o_cat {xs ys : List PyData} (h : xs.length + ys.length ≤ 1000000) : catL (.list xs) (.list ys) = some (xs ++ ys) := by
  unfold catL
  dsimp only
  rw [if_pos (Nat.le_trans h (by rw [sizeLine_eq]; decide))]
theorem res_small {p : Int} {r : List Int} (hp2 : p < 1000) (h : Res p r) : ∀ x ∈ r, small64 x = true := fun x hx => by
  have := h x hx
  unfold small64
  simp only [Bool.and_eq_true, decide_eq_true_eq]
  omega
end K01
end

section
set_option linter.all false
set_option maxRecDepth 100000
namespace K01
open PySem PD
variable {α β : Type} {δ δ' : Sg} {i : Nat} {ds : List PyData} {d : PyData}
theorem w_m1 {F : Str → PyData → Option PyData} {f g : M PyData} {Q : PyData → Sg → Prop} (h : Gd f δ fun a δ1 => ∃ s, a = .str s ∧ Gd g δ1 fun b δ2 => Gd (lif (F s b)) δ2 Q) : Gd (xM1 F f g) δ Q := by
  refine w_bnd (h.imp fun a δ1 h => ?_)
  obtain ⟨s, rfl, h⟩ := h
  exact w_bnd h
theorem w_m1F {F : Str → PyData → Option (List PyData)} {f g : M PyData} {Q : List PyData → Sg → Prop} (h : Gd f δ fun a δ1 => ∃ s, a = .str s ∧ Gd g δ1 fun b δ2 => Gd (lif (F s b)) δ2 Q) : Gd (xM1F F f g) δ Q := by
  refine w_bnd (h.imp fun a δ1 h => ?_)
  obtain ⟨s, rfl, h⟩ := h
  exact w_bnd h
theorem w_orV {f g : M PyData} {Q : PyData → Sg → Prop} (h : Gd f δ fun d δ1 => ∃ b, truthD d = some b ∧ Gd (cond b (PD.ret d) g) δ1 Q) : Gd (xOrV f g) δ Q :=
  w_bnd (h.imp fun _ _ ⟨_, e, h⟩ => w_bnd (w_lif e (w_cond h)))
theorem w_slS {f : M PyData} {lo hi : M (Option Int)} {Q : PyData → Sg → Prop} (h : Gd f δ fun d δ1 => Gd lo δ1 fun l δ2 => Gd hi δ2 fun u δ3 => Gd (lif (cutSD d l u)) δ3 Q) : Gd (xSlS f lo hi) δ Q :=
  w_bnd (h.imp fun _ _ h => w_bnd (h.imp fun _ _ h => w_bnd h))
theorem w_joined2 {f g : M PyData} {Q : PyData → Sg → Prop} (h : Gd f δ fun a δ1 => ∃ s, a = .str s ∧ s.cps.toList.length ≤ 1000000 ∧ Gd g δ1 fun b δ2 => ∃ t, b = .str t ∧ (s.cps.toList ++ t.cps.toList).length ≤ 1000000 ∧ Q (.str (sMk (s.cps.toList ++ t.cps.toList))) δ2) : Gd (xJoined (xJ1 f (xJ1 g xJ0))) δ Q := by
  refine w_bnd (w_bnd (h.imp fun a δ1 h => ?_))
  obtain ⟨s, rfl, hs, h⟩ := h
  show Gd (if ([] ++ s.cps.toList).length ≤ 1000000 then xJ1 g xJ0 ([] ++ s.cps.toList) else fun _ => none) δ1 _
  rw [if_pos (by simpa using hs)]
  refine w_bnd (h.imp fun b δ2 h => ?_)
  obtain ⟨t, rfl, ht, h⟩ := h
  show Gd (if (s.cps.toList ++ t.cps.toList).length ≤ 1000000 then xJ0 (s.cps.toList ++ t.cps.toList) else fun _ => none) δ2 _
  rw [if_pos ht]
  exact w_ret (w_ret h)
theorem w_truO {b : Bool} {Q : Bool → Sg → Prop} (a : At δ i (.ow b ds)) (h : Q (!ds.isEmpty) δ) : Gd (xTruO i) δ Q := ⟨_, _, by unfold xTruO; rw [a.get], h⟩
theorem splitD_eq (a : Str) {s : Str} {c : Nat} (hs : s.cps.toList = [c]) (h : a.cps.toList.length ≤ 1000000) : splitD a (.str s) = some ((splitL c a.cps.toList).map fun l => .str (sMk l)) := by
  unfold splitD
  simp only [hs]
  rw [if_pos h]
theorem strsD_map : ∀ ys : List Str, strsD (ys.map PyData.str) = some ys
  | [] => rfl
  | y :: r => by
    show (strsD (r.map PyData.str)).map (y :: ·) = _
    rw [strsD_map r]
    rfl
theorem joinD_eq (a : Str) (ys : List Str) (h : (ys.map fun y => y.cps.toList.length).sum + ys.length * a.cps.toList.length ≤ 16777216) : joinD a (.list (ys.map PyData.str)) = some (.str (sMk (joinL a.cps.toList (ys.map fun y => y.cps.toList)))) := by
  unfold joinD
  show (some (ys.map PyData.str)).bind _ = _
  rw [Option.bind_some, strsD_map, Option.bind_some, if_pos h]
end K01
end

section
set_option linter.all false
set_option maxRecDepth 100000
set_option maxHeartbeats 2000000
namespace K01
open PySem PD
def Sml (l : List Nat) : Prop := ∀ c ∈ l, c < 200
theorem strOk_small {l : List Nat} (h : Sml l) : PyData.strOk (sMk l) = true := by
  show (sMk l).cps.all (· < 0x110000) = true
  rw [← Array.all_toList]
  refine List.all_eq_true.mpr fun c hc => ?_
  have := h c hc
  exact decide_eq_true (by omega)
theorem shp {l : List Nat} (h : Sml l) : SeqAt.shaped (.str (sMk l)) = true := by
  have := strOk_small h
  simp [SeqAt.shaped, PyData.canLay0, PyData.depth, this]
theorem sMk_beq (a b : List Nat) : (sMk a == sMk b) = decide (a = b) := by
  by_cases h : a = b
  · subst h
    simp
  · rw [decide_eq_false h]
    refine Bool.eq_false_iff.mpr fun z => h ?_
    have e : sMk a = sMk b := eq_of_beq z
    have := congrArg (fun s : Str => s.cps.toList) e
    exact this
theorem eqvS (a b : List Nat) : PyData.eqv (.str (sMk a)) (.str (sMk b)) = decide (a = b) := by
  rw [← sMk_beq]
  simp only [PyData.eqv]
theorem eqS {a b : List Nat} (ha : Sml a) (hb : Sml b) : eqD (.str (sMk a)) (.str (sMk b)) = some (.bool (decide (a = b))) := by
  unfold eqD
  rw [if_pos ⟨shp ha, shp hb⟩, eqvS]
theorem neS {a b : List Nat} (ha : Sml a) (hb : Sml b) : neD (.str (sMk a)) (.str (sMk b)) = some (.bool (!decide (a = b))) := by
  unfold neD
  rw [if_pos ⟨shp ha, shp hb⟩, eqvS]
theorem o_e : PySem.Str.ofString "" = sMk [] := by decide +kernel
theorem o_0 : PySem.Str.ofString "0" = sMk [48] := by decide +kernel
theorem o_m : PySem.Str.ofString "-" = sMk [45] := by decide +kernel
theorem o_c : PySem.Str.ofString "," = sMk [44] := by decide +kernel
theorem o_p : PySem.Str.ofString "+" = sMk [43] := by decide +kernel
theorem o_k : PySem.Str.ofString ":" = sMk [58] := by decide +kernel
theorem o_figs : (PySem.Str.ofString "0123456789").cps.toList = [48, 49, 50, 51, 52, 53, 54, 55, 56, 57] := by decide +kernel
theorem fig_in (c : Nat) : decide (c ∈ [48, 49, 50, 51, 52, 53, 54, 55, 56, 57]) = isFig c := by
  unfold isFig
  refine Bool.eq_iff_iff.mpr ?_
  simp only [decide_eq_true_eq, Bool.and_eq_true, List.mem_cons, List.not_mem_nil, or_false]
  omega
/-- a number in figures, no 0 ahead -/
def isNum (l : List Nat) : Bool := match l with
  | [] => false
  | c :: r => (c :: r).all isFig && (decide (c :: r = [48]) || !decide (c = 48))
theorem sml0 : Sml [] := fun c h => absurd h List.not_mem_nil
theorem sml1 {n : Nat} (h : n < 200) : Sml [n] := fun c hc => by rw [List.mem_singleton.mp hc]; exact h
theorem any_notfig (l : List Nat) : ((l.map fun c => PyData.bool (!isFig c)).any PyData.truthy) = !l.all isFig := by
  induction l with
  | nil => rfl
  | cons c l ih =>
    rw [List.map_cons, List.any_cons, ih, List.all_cons]
    cases isFig c <;> rfl
theorem figs_comp {l : List Nat} {a : Cell} (hz : l.length ≤ 1000000) : compD [1] (sName 1) (PD.ret true) (xBin (inS true) (xVar 1) (PD.ret (.str (PySem.Str.ofString "0123456789")))) (l.map fun c => .str (sMk [c])) [] [a, .un] = some (l.map fun c => .bool (!isFig c), [a, .un]) := by
  have q := comp_fun (is := [1]) (set := sName 1) (el := xBin (inS true) (xVar 1) (PD.ret (.str (PySem.Str.ofString "0123456789")))) (ds := l.map fun c => PyData.str (sMk [c])) (δ := [a, .un])
    (fun d => match d with | .str s => (match s.cps.toList with | [c] => .bool (!isFig c) | _ => .none) | _ => .none) (by simpa using hz) fun d hd => by
      obtain ⟨c, hc, rfl⟩ := List.mem_map.mp hd
      walk_at "wp"
      refine w_lif (a := PyData.bool (!isFig c)) ?_ ?_
      · show some (PyData.bool (decide (c ∈ (PySem.Str.ofString "0123456789").cps.toList) != true)) = _
        rw [o_figs, fig_in]
        cases isFig c <;> rfl
      · exact ⟨rfl, rfl, rfl⟩
  rw [q, List.map_map]
  rfl
theorem w_runE {m : Nat} {g : MS} {cells : Sg} {d : PyData} (h : Gd g (cells ++ List.replicate (m - cells.length) .un) fun fl δ' => fl = .rt d ∧ cells.length ≤ δ'.length) : ∃ out, runD m g cells = some (.ok d, out) := by
  obtain ⟨fl, δ', e, rfl, k⟩ := h
  unfold runD keepO
  rw [e]
  dsimp only
  rw [if_pos k]
  exact ⟨_, rfl⟩
theorem figures_eq {l : List Nat} (h : Sml l) (hz : l.length ≤ 1000000) : ∃ c, g_is_figures [.fz (.str (sMk l))] = some (.ok (.bool (isNum l)), c) := by
  refine w_runE ?_
  simp only [List.length_cons, List.length_nil, List.replicate, List.cons_append, List.nil_append, Nat.reduceAdd, Nat.reduceSub]
  unfold B_is_figures
  walk_at "wp"
  rw [o_e]
  refine w_lif (eqS h sml0) ?_
  refine w_lif (a := decide (l = [])) rfl ?_
  cases l with
  | nil =>
    rw [decide_eq_true rfl]
    walk_at "wp"
    exact ⟨rfl, by simp⟩
  | cons c r =>
    rw [decide_eq_false (by simp)]
    walk_at "wp"
    refine w_bnd ⟨_, _, rfl, ?_⟩
    refine w_lif (a := (c :: r).map fun c => PyData.str (sMk [c])) rfl ?_
    refine ⟨rfl, _, _, figs_comp hz, ?_⟩
    walk_at "wp"
    refine w_lif (a := PyData.bool (!(c :: r).all isFig)) ?_ ?_
    · show (if ((c :: r).map fun c => PyData.bool (!isFig c)).all simpleD = true then some (PyData.bool (((c :: r).map fun c => PyData.bool (!isFig c)).any PyData.truthy)) else none) = _
      rw [any_notfig, if_pos]
      refine List.all_eq_true.mpr fun d hd => ?_
      obtain ⟨x, _, rfl⟩ := List.mem_map.mp hd
      rfl
    walk_at "wp"
    refine w_lif (a := !(c :: r).all isFig) rfl ?_
    cases ha : (c :: r).all isFig with
    | false =>
      show Gd (cond true _ _) _ _
      walk_at "wp"
      exact ⟨by unfold isNum; simp only [ha, Bool.false_and], by simp [backD]⟩
    | true =>
      show Gd (cond false _ _) [.fz (.str (sMk (c :: r))), .un] _
      walk_at "wp"
      rw [o_0]
      refine w_lif (eqS h (sml1 (n := 48) (by decide))) ?_
      refine ⟨_, rfl, ?_⟩
      by_cases e : c :: r = [48]
      · rw [decide_eq_true e]
        walk_at "wp"
        exact ⟨by unfold isNum; simp only [ha, decide_eq_true e, Bool.true_or, Bool.and_self], by simp [backD]⟩
      · rw [decide_eq_false e]
        walk_at "wp"
        refine w_lif (a := PyData.str (sMk [c])) ?_ ?_
        · show (if (c :: r).length ≤ 1000000 then (L2.atI (c :: r) ((0 : Nat) : Int)).map fun c => PyData.str (sMk [c]) else none) = _
          rw [if_pos hz, show L2.atI (c :: r) ((0 : Nat) : Int) = some c from by unfold L2.atI L2.ixN; simp]
          rfl
        walk_at "wp"
        refine w_lif (neS (sml1 (h c (List.mem_cons_self ..))) (sml1 (n := 48) (by decide))) ?_
        walk_at "wp"
        have e2 : decide ([c] = [48]) = decide (c = 48) := decide_eq_decide.mpr (by simp)
        exact ⟨by unfold isNum; simp only [ha, decide_eq_false e, e2, Bool.false_or, Bool.true_and], by simp [backD]⟩
theorem bad_num {l : List Nat} {c : Nat} (hc : c ∈ l) (h : isFig c = false) : isNum l = false := by
  cases l with
  | nil => cases hc
  | cons x r =>
    have : (x :: r).all isFig = false := by
      refine Bool.eq_false_iff.mpr fun z => ?_
      have := List.all_eq_true.mp z c hc
      rw [h] at this
      cases this
    show ((x :: r).all isFig && (decide (x :: r = [48]) || !decide (x = 48))) = false
    rw [this]
    rfl
end K01
end

section
set_option linter.all false
set_option maxRecDepth 100000
set_option maxHeartbeats 2000000
namespace K01
open PySem PD
def ALL : List Nat := [0, 1, 2, 4, 9, 10, 1000000]
structure NOk (n : Nat) : Prop where
  num : isNum (figL n) = true
  dig : ∀ c ∈ figL n, isFig c = true
  len : (figL n).length ≤ 7
  ne : figL n ≠ []
  int : intB [.str (sMk (figL n))] = some (.int (n : Int))
  str : strB [.int (n : Int)] = some (.str (sMk (figL n)))
  fmt : fmtB (.int (n : Int)) = some (.str (sMk (figL n)))
theorem allNum : ALL.all (fun n => isNum (figL n) && (figL n).all isFig && decide ((figL n).length ≤ 7)) = true := by decide +kernel
theorem nok {n : Nat} (h : n ∈ ALL) : NOk n := by
  have q := List.all_eq_true.mp allNum n h
  rw [Bool.and_eq_true, Bool.and_eq_true, decide_eq_true_eq] at q
  obtain ⟨⟨q1, q2⟩, q3⟩ := q
  have hne : figL n ≠ [] := fun z => by rw [z] at q1; cases q1
  refine ⟨q1, List.all_eq_true.mp q2, q3, hne, ?_, ?_, ?_⟩
  · unfold ALL at h
    simp only [List.mem_cons, List.not_mem_nil, or_false] at h
    rcases h with rfl | rfl | rfl | rfl | rfl | rfl | rfl <;> kernel_rfl
  · unfold ALL at h
    simp only [List.mem_cons, List.not_mem_nil, or_false] at h
    rcases h with rfl | rfl | rfl | rfl | rfl | rfl | rfl <;> kernel_rfl
  · unfold ALL at h
    simp only [List.mem_cons, List.not_mem_nil, or_false] at h
    rcases h with rfl | rfl | rfl | rfl | rfl | rfl | rfl <;> kernel_rfl
theorem NOk.sml {n : Nat} (k : NOk n) : Sml (figL n) := fun c hc => by
  have := k.dig c hc
  unfold isFig at this
  rw [Bool.and_eq_true, decide_eq_true_eq, decide_eq_true_eq] at this
  omega
theorem NOk.free {n c : Nat} (k : NOk n) (h : isFig c = false) : c ∉ figL n := fun hc => by
  have := k.dig c hc
  rw [h] at this
  cases this
def intL (t : List Nat) : List PyData := t.map fun (n : Nat) => PyData.int (n : Int)
def W (t : List Nat) : List Nat := match t with
  | [] => [45]
  | _ :: _ => joinL [44] (t.map figL)
theorem joinL_mem {s : List Nat} {c : Nat} : ∀ {ls : List (List Nat)}, c ∈ joinL s ls → c ∈ s ∨ ∃ l ∈ ls, c ∈ l
  | [], h => by cases h
  | [l], h => .inr ⟨l, List.mem_cons_self .., h⟩
  | l :: m :: r, h => by
    have h' : c ∈ l ++ s ++ joinL s (m :: r) := h
    rcases List.mem_append.mp h' with h' | h'
    · rcases List.mem_append.mp h' with h' | h'
      · exact .inr ⟨l, List.mem_cons_self .., h'⟩
      · exact .inl h'
    · rcases joinL_mem h' with h' | ⟨x, hx, h'⟩
      · exact .inl h'
      · exact .inr ⟨x, List.mem_cons_of_mem _ hx, h'⟩
theorem joinL_len {s : List Nat} {B : Nat} : ∀ {ls : List (List Nat)}, (∀ l ∈ ls, l.length ≤ B) → (joinL s ls).length ≤ ls.length * (B + s.length)
  | [], _ => by simp [joinL]
  | [l], h => by
    have := h l (List.mem_cons_self ..)
    simp only [joinL, List.length_cons, List.length_nil]
    omega
  | l :: m :: r, h => by
    have h1 := h l (List.mem_cons_self ..)
    have h2 := joinL_len (s := s) (ls := m :: r) fun x hx => h x (List.mem_cons_of_mem _ hx)
    have e : joinL s (l :: m :: r) = l ++ s ++ joinL s (m :: r) := rfl
    rw [e, List.length_append, List.length_append, List.length_cons, Nat.add_mul, Nat.one_mul]
    omega
theorem joinL_ne {s : List Nat} : ∀ {ls : List (List Nat)}, ls ≠ [] → (∀ l ∈ ls, l ≠ []) → joinL s ls ≠ []
  | [], h, _ => absurd rfl h
  | [l], _, h => h l (List.mem_cons_self ..)
  | l :: m :: r, _, h => fun z => by
    have e : joinL s (l :: m :: r) = l ++ s ++ joinL s (m :: r) := rfl
    rw [e] at z
    exact h l (List.mem_cons_self ..) (List.append_eq_nil_iff.mp (List.append_eq_nil_iff.mp z).1).1
/-- join as the program has it -/
theorem join_eq {s : Nat} {ls : List (List Nat)} {B : Nat} (hB : ∀ l ∈ ls, l.length ≤ B) (hB2 : B ≤ 1000) (hz : ls.length ≤ 100) : joinD (sMk [s]) (.list (ls.map fun l => PyData.str (sMk l))) = some (.str (sMk (joinL [s] ls))) := by
  have e : (ls.map fun l => PyData.str (sMk l)) = (ls.map sMk).map PyData.str := by rw [List.map_map]; rfl
  have e2 : (ls.map sMk).map (fun y => y.cps.toList) = ls := by
    rw [List.map_map]
    exact (List.map_congr_left fun l _ => rfl).trans (List.map_id _)
  have hs : ∀ {ls : List (List Nat)}, (∀ l ∈ ls, l.length ≤ B) → ((ls.map sMk).map fun y => y.cps.toList.length).sum ≤ ls.length * B := by
    intro ls
    induction ls with
    | nil => intro _; simp
    | cons l r ih =>
      intro h
      have h1 := h l (List.mem_cons_self ..)
      have h2 := ih fun x hx => h x (List.mem_cons_of_mem _ hx)
      rw [List.map_cons, List.map_cons, List.sum_cons, List.length_cons, Nat.add_mul, Nat.one_mul]
      have : (sMk l).cps.toList.length = l.length := rfl
      omega
  rw [e, joinD_eq (sMk [s]) (ls.map sMk) ?_, e2]
  · rfl
  · have h1 := hs hB
    have h2 : ls.length * B ≤ 100 * 1000 := Nat.mul_le_mul hz hB2
    have h3 : (ls.map sMk).length * (sMk [s]).cps.toList.length = ls.length := by
      rw [List.length_map]
      exact Nat.mul_one _
    omega
theorem neT_nil {ds : List PyData} {n : Nat} (h : Flat n (.tuple ds)) (hn : n ≤ 64) : neD (.tuple ds) (.tuple []) = some (.bool (!ds.isEmpty)) := by
  unfold neD
  rw [if_pos ⟨h.shaped hn, by decide +kernel⟩]
  cases ds <;> simp [PyData.eqv, PyData.eqvAll]
end K01
end

section
set_option linter.all false
set_option maxRecDepth 100000
set_option maxHeartbeats 2000000
namespace K01
open PySem PD
abbrev fsD (ls : List (List Nat)) : List PyData := ls.map fun l => PyData.str (sMk l)
abbrev strEl : M PyData := xCall strB (bnd (xVar 1) fun d => bnd (PD.ret []) fun ds => PD.ret (d :: ds))
theorem strs_comp {t : List Nat} {a : Cell} (h : ∀ n ∈ t, n ∈ ALL) (hz : t.length ≤ 1000) : compD [1] (sName 1) (PD.ret true) strEl (intL t) [] [a, .un] = some (fsD (t.map figL), [a, .un]) := by
  have q := comp_fun (is := [1]) (set := sName 1) (el := strEl) (ds := intL t) (δ := [a, .un])
    (fun d => match d with | .int i => .str (sMk (figL i.toNat)) | _ => .none) (by unfold intL; rw [List.length_map]; omega) fun d hd => by
      obtain ⟨n, hn, rfl⟩ := List.mem_map.mp hd
      unfold strEl
      walk_at "wp"
      refine w_lif (nok (h n hn)).str ?_
      exact ⟨rfl, rfl, rfl⟩
  rw [q]
  unfold intL fsD
  rw [List.map_map, List.map_map]
  rfl
theorem figs_len {t : List Nat} (h : ∀ n ∈ t, n ∈ ALL) : ∀ l ∈ t.map figL, l.length ≤ 7 := fun l hl => by
  obtain ⟨n, hn, rfl⟩ := List.mem_map.mp hl
  exact (nok (h n hn)).len
theorem truth_str {l : List Nat} (hz : l.length ≤ 1000000) : truthD (.str (sMk l)) = some (!l.isEmpty) := by
  show (if (sMk l).length ≤ sizeLine then some (((sMk l).length : Int) != 0) else none) = _
  have e : (sMk l).length = l.length := len_tl _
  rw [e, if_pos (le_line hz)]
  cases l <;> rfl
theorem jn_ne {s B : Nat} {ls : List (List Nat)} (n : ls ≠ []) (h : ∀ l ∈ ls, l ≠ []) (hB : ∀ l ∈ ls, l.length ≤ B) (hB2 : B ≤ 1000) (hz : ls.length ≤ 100) : truthD (.str (sMk (joinL [s] ls))) = some true := by
  have h1 := joinL_ne (s := [s]) n h
  have h2 := joinL_len (s := [s]) hB
  have h3 : ls.length * (B + [s].length) ≤ 100 * 1001 := Nat.mul_le_mul hz (by simp; omega)
  rw [truth_str (by omega)]
  cases e : joinL [s] ls with
  | nil => exact absurd e h1
  | cons => rfl
theorem seqS (d : PyData) (ds : List PyData) (h : d = .tuple ds ∨ d = .list ds) : seqD d = some ds := by rcases h with rfl | rfl <;> rfl
theorem word_of_eq {t : List Nat} {d : PyData} (hd : d = .tuple (intL t) ∨ d = .list (intL t)) (h : ∀ n ∈ t, n ∈ ALL) (hz : t.length ≤ 100) : ∃ c, g_word_of [.fz d] = some (.ok (.str (sMk (W t))), c) := by
  refine w_runE ?_
  simp only [List.length_cons, List.length_nil, List.replicate, List.cons_append, List.nil_append, Nat.reduceAdd, Nat.reduceSub]
  unfold B_word_of
  walk_at "wp"
  refine w_orV (w_m1 ?_)
  walk_at "wp"
  rw [o_c, o_m]
  refine ⟨_, rfl, ?_⟩
  walk_at "wp"
  refine w_lif (seqS d _ hd) ?_
  refine ⟨rfl, _, _, strs_comp h (by omega), ?_⟩
  walk_at "wp"
  refine w_lif (join_eq (B := 7) (figs_len h) (by decide) (by rw [List.length_map]; exact hz)) ?_
  cases t with
  | nil =>
    refine ⟨false, truth_str (l := []) (by decide), ?_⟩
    show Gd (cond false _ _) _ _
    walk_at "wp"
    exact ⟨rfl, by simp [backD]⟩
  | cons n t =>
    refine ⟨true, jn_ne (B := 7) (by simp) (fun l hl => ?_) (figs_len h) (by decide) (by rw [List.length_map]; exact hz), ?_⟩
    · obtain ⟨m, hm, rfl⟩ := List.mem_map.mp hl
      exact (nok (h m hm)).ne
    · show Gd (cond true _ _) _ _
      walk_at "wp"
      exact ⟨rfl, by simp [backD]⟩
theorem run_word_eq {t : List Nat} {d : PyData} (hd : d = .tuple (intL t) ∨ d = .list (intL t)) (h : ∀ n ∈ t, n ∈ ALL) (hz : t.length ≤ 100) : ∃ c, g_run_word [.fz d] = some (.ok (.str (sMk (W t))), c) := by
  obtain ⟨c, e⟩ := word_of_eq hd h hz
  refine w_runE ?_
  simp only [List.length_cons, List.length_nil, List.replicate, List.cons_append, List.nil_append, Nat.reduceAdd, Nat.reduceSub]
  unfold B_run_word
  walk_at "wp"
  refine ⟨_, _, e, ?_⟩
  exact ⟨rfl, by simp⟩
theorem row_word_eq {t : List Nat} (h : ∀ n ∈ t, n ∈ ALL) (hz : t.length ≤ 100) : ∃ c, g__law_row_word [.fz (.tuple (intL t))] = some (.ok (.str (sMk (W t))), c) := by
  refine w_runE ?_
  simp only [List.length_cons, List.length_nil, List.replicate, List.cons_append, List.nil_append, Nat.reduceAdd, Nat.reduceSub]
  unfold B__law_row_word
  walk_at "wp"
  have hf : Flat 1 (.tuple (intL t)) := flat_tup fun d hd => by
    obtain ⟨n, _, rfl⟩ := List.mem_map.mp hd
    exact flat_int _
  rw [o_c, o_m]
  refine w_lif (neT_nil hf (by decide)) ?_
  refine w_lif (a := !(intL t).isEmpty) rfl ?_
  cases t with
  | nil =>
    show Gd (cond false _ _) _ _
    walk_at "wp"
    exact ⟨rfl, by simp⟩
  | cons n t =>
    show Gd (cond true _ _) _ _
    walk_at "wp"
    refine w_m1 ?_
    walk_at "wp"
    refine ⟨_, rfl, ?_⟩
    walk_at "wp"
    refine w_lif rfl ?_
    refine ⟨rfl, _, _, strs_comp h (by omega), ?_⟩
    walk_at "wp"
    refine w_lif (join_eq (B := 7) (figs_len h) (by decide) (by rw [List.length_map]; exact hz)) ?_
    exact ⟨rfl, by simp [backD]⟩
end K01
end

section
set_option linter.all false
set_option maxRecDepth 100000
set_option maxHeartbeats 2000000
namespace K01
open PySem PD
theorem splitL_cons (c x : Nat) (l : List Nat) : (x = c ∧ splitL c (x :: l) = [] :: splitL c l) ∨ (x ≠ c ∧ ∃ p r, splitL c l = p :: r ∧ splitL c (x :: l) = (x :: p) :: r) := by
  by_cases h : x = c
  · left
    refine ⟨h, ?_⟩
    subst h
    simp [splitL]
  · right
    refine ⟨h, ?_⟩
    cases e : splitL c l with
    | nil => exact absurd e (splitL_ne c l)
    | cons p r => exact ⟨p, r, rfl, by simp [splitL, h, e]⟩
theorem splitL_sub {c : Nat} : ∀ {l p : List Nat}, p ∈ splitL c l → p.length ≤ l.length ∧ ∀ x ∈ p, x ∈ l
  | [], p, h => by
    have : p = [] := by simpa [splitL] using h
    subst this
    exact ⟨Nat.le_refl _, fun x hx => hx⟩
  | y :: l, p, h => by
    rcases splitL_cons c y l with ⟨_, e⟩ | ⟨_, q, r, e1, e2⟩
    · rw [e] at h
      rcases List.mem_cons.mp h with rfl | h
      · exact ⟨Nat.zero_le _, fun x hx => absurd hx List.not_mem_nil⟩
      · obtain ⟨h1, h2⟩ := splitL_sub h
        exact ⟨Nat.le_succ_of_le h1, fun x hx => List.mem_cons_of_mem _ (h2 x hx)⟩
    · rw [e2] at h
      rcases List.mem_cons.mp h with rfl | h
      · obtain ⟨h1, h2⟩ := splitL_sub (c := c) (l := l) (p := q) (by rw [e1]; exact List.mem_cons_self ..)
        refine ⟨Nat.succ_le_succ h1, fun x hx => ?_⟩
        rcases List.mem_cons.mp hx with rfl | hx
        · exact List.mem_cons_self ..
        · exact List.mem_cons_of_mem _ (h2 x hx)
      · obtain ⟨h1, h2⟩ := splitL_sub (c := c) (l := l) (p := p) (by rw [e1]; exact List.mem_cons_of_mem _ h)
        exact ⟨Nat.le_succ_of_le h1, fun x hx => List.mem_cons_of_mem _ (h2 x hx)⟩
theorem splitL_has {c x : Nat} (n : x ≠ c) : ∀ {l : List Nat}, x ∈ l → ∃ p ∈ splitL c l, x ∈ p
  | [], h => by cases h
  | y :: l, h => by
    rcases splitL_cons c y l with ⟨e0, e⟩ | ⟨_, q, r, e1, e2⟩
    · rcases List.mem_cons.mp h with rfl | h
      · exact absurd e0 n
      · obtain ⟨p, hp, hx⟩ := splitL_has n h
        exact ⟨p, by rw [e]; exact List.mem_cons_of_mem _ hp, hx⟩
    · rw [e2]
      rcases List.mem_cons.mp h with rfl | h
      · exact ⟨_, List.mem_cons_self .., List.mem_cons_self ..⟩
      · obtain ⟨p, hp, hx⟩ := splitL_has n h
        rw [e1] at hp
        rcases List.mem_cons.mp hp with rfl | hp
        · exact ⟨_, List.mem_cons_self .., List.mem_cons_of_mem _ hx⟩
        · exact ⟨p, List.mem_cons_of_mem _ hp, hx⟩
abbrev numEl : M PyData := xDef g_is_figures (bnd (xVar 2) fun d => bnd (PD.ret []) fun ds => PD.ret (d :: ds))
theorem nums_comp {ls : List (List Nat)} {a b : Cell} (h : ∀ l ∈ ls, Sml l ∧ l.length ≤ 1000000) (hz : ls.length ≤ 1000000) : compD [2] (sName 2) (PD.ret true) numEl (fsD ls) [] [a, b, .un] = some (ls.map fun l => .bool (isNum l), [a, b, .un]) := by
  have q := comp_fun (is := [2]) (set := sName 2) (el := numEl) (ds := fsD ls) (δ := [a, b, .un])
    (fun d => match d with | .str s => .bool (isNum s.cps.toList) | _ => .none) (by rw [List.length_map]; exact hz) fun d hd => by
      obtain ⟨l, hl, rfl⟩ := List.mem_map.mp hd
      obtain ⟨c, e⟩ := figures_eq (h l hl).1 (h l hl).2
      unfold numEl
      walk_at "wp"
      refine ⟨_, _, e, ?_⟩
      exact ⟨rfl, rfl, rfl⟩
  rw [q]
  unfold fsD
  rw [List.map_map]
  rfl
theorem all_bools (ls : List (List Nat)) (f : List Nat → Bool) : allD [.list (ls.map fun l => .bool (f l))] = some (.bool (ls.all f)) := by
  have := all_map (f := fun d => match d with | .str s => f s.cps.toList | _ => false) (ds := fsD ls)
  unfold fsD at this
  rw [List.map_map, List.all_map] at this
  exact this
theorem figures_in_eq {l : List Nat} (h : Sml l) (hz : l.length ≤ 100000) (n : l ≠ [45]) : ∃ c, g_figures_in [.fz (.str (sMk l))] = some (.ok (if (splitL 44 l).all isNum = true then .list (fsD (splitL 44 l)) else .none), c) := by
  have hp : ∀ p ∈ splitL 44 l, Sml p ∧ p.length ≤ 1000000 := fun p hp => by
    obtain ⟨h1, h2⟩ := splitL_sub hp
    exact ⟨fun c hc => h c (h2 c hc), by omega⟩
  have hl := splitL_len 44 l
  refine w_runE ?_
  simp only [List.length_cons, List.length_nil, List.replicate, List.cons_append, List.nil_append, Nat.reduceAdd, Nat.reduceSub]
  unfold B_figures_in
  walk_at "wp"
  rw [o_m, o_c]
  refine w_lif (eqS h (sml1 (n := 45) (by decide))) ?_
  refine w_lif (a := decide (l = [45])) rfl ?_
  rw [decide_eq_false n]
  show Gd (cond false _ _) _ _
  walk_at "wp"
  refine w_m1F ?_
  walk_at "wp"
  refine ⟨_, rfl, ?_⟩
  walk_at "wp"
  refine w_lif (splitD_eq (sMk l) (c := 44) rfl (by show l.length ≤ _; omega)) ?_
  walk_at "wp"
  refine w_lif rfl ?_
  refine ⟨rfl, _, _, nums_comp (ls := splitL 44 l) hp (by omega), ?_⟩
  walk_at "wp"
  refine w_lif (all_bools _ isNum) ?_
  refine w_lif (a := (splitL 44 l).all isNum) rfl ?_
  cases hb : (splitL 44 l).all isNum with
  | true =>
    show Gd (cond true _ _) [.fz (.str (sMk l)), .fz (.list (fsD (splitL 44 l))), .un] _
    walk_at "wp"
    exact ⟨by rw [if_pos rfl], by simp⟩
  | false =>
    show Gd (cond false _ _) _ _
    walk_at "wp"
    exact ⟨by rw [if_neg (by simp)], by simp [backD]⟩
abbrev intEl : M PyData := xCall intB (bnd (xVar 1) fun d => bnd (PD.ret []) fun ds => PD.ret (d :: ds))
theorem numbers_eq {t : List Nat} (h : ∀ n ∈ t, n ∈ ALL) (hz : t.length ≤ 100) : ∃ c, g_numbers_of [.fz (.list (fsD (t.map figL)))] = some (.ok (.tuple (intL t)), c) := by
  refine w_runE ?_
  simp only [List.length_cons, List.length_nil, List.replicate, List.cons_append, List.nil_append, Nat.reduceAdd, Nat.reduceSub]
  unfold B_numbers_of
  walk_at "wp"
  refine w_lif rfl ?_
  have q := comp_fun (is := [1]) (set := sName 1) (el := intEl) (ds := fsD (t.map figL)) (δ := [.fz (.list (fsD (t.map figL))), .un])
    (fun d => .int (match intB [d] with | some (.int i) => i | _ => 0)) (by rw [List.length_map, List.length_map]; omega) fun d hd => by
      obtain ⟨l, hl, rfl⟩ := List.mem_map.mp hd
      obtain ⟨n, hn, rfl⟩ := List.mem_map.mp hl
      unfold intEl
      walk_at "wp"
      have e := (nok (h n hn)).int
      refine w_lif e ?_
      exact ⟨by rw [e], rfl, rfl⟩
  have e2 : (fsD (t.map figL)).map (fun d => PyData.int (match intB [d] with | some (.int i) => i | _ => 0)) = intL t := by
    unfold fsD intL
    rw [List.map_map, List.map_map]
    refine List.map_congr_left fun n hn => ?_
    show PyData.int (match intB [.str (sMk (figL n))] with | some (.int i) => i | _ => 0) = _
    rw [(nok (h n hn)).int]
  rw [e2] at q
  refine ⟨rfl, _, _, q, ?_⟩
  walk_at "wp"
  refine w_lif rfl ?_
  exact ⟨rfl, by simp [backD]⟩
theorem W_ne {t : List Nat} (h : ∀ n ∈ t, n ∈ ALL) (n : t ≠ []) : W t ≠ [45] ∧ Sml (W t) ∧ splitL 44 (W t) = t.map figL := by
  cases t with
  | nil => exact absurd rfl n
  | cons x t =>
    have key : ∀ c ∈ W (x :: t), c = 44 ∨ isFig c = true := fun c hc => by
      rcases joinL_mem (show c ∈ joinL [44] ((x :: t).map figL) from hc) with hc | ⟨l, hl, hc⟩
      · exact .inl (List.mem_singleton.mp hc)
      · obtain ⟨m, hm, rfl⟩ := List.mem_map.mp hl
        exact .inr ((nok (h m hm)).dig c hc)
    refine ⟨fun z => ?_, fun c hc => ?_, ?_⟩
    · rcases key 45 (by rw [z]; exact List.mem_cons_self ..) with e | e
      · cases e
      · cases e
    · rcases key c hc with e | e
      · omega
      · unfold isFig at e
        rw [Bool.and_eq_true, decide_eq_true_eq, decide_eq_true_eq] at e
        omega
    · refine split_join (fun p hp => ?_) (by simp)
      obtain ⟨m, hm, rfl⟩ := List.mem_map.mp hp
      exact (nok (h m hm)).free rfl
theorem W_len {t : List Nat} (h : ∀ n ∈ t, n ∈ ALL) (hz : t.length ≤ 100) : (W t).length ≤ 1000 := by
  cases t with
  | nil => decide
  | cons x t =>
    have h1 := joinL_len (s := [44]) (figs_len h)
    have h2 : ((x :: t).map figL).length * (7 + [44].length) ≤ 100 * 8 := Nat.mul_le_mul (by rw [List.length_map]; exact hz) (by decide)
    exact Nat.le_trans h1 (by omega)
theorem run_read_good {t : List Nat} (h : ∀ n ∈ t, n ∈ ALL) (hz : t.length ≤ 100) : ∃ c, g_run_read [.fz (.str (sMk (W t)))] = some (.ok (.tuple (intL t)), c) := by
  have hf : ∃ c, g_figures_in [.fz (.str (sMk (W t)))] = some (.ok (.list (fsD (t.map figL))), c) := by
    cases t with
    | nil => exact ⟨[.fz (.str (sMk [45]))], by kernel_rfl⟩
    | cons x r =>
      obtain ⟨h1, h2, h3⟩ := W_ne h (by simp)
      obtain ⟨c, e⟩ := figures_in_eq h2 (by have := W_len h hz; omega) h1
      rw [h3, if_pos] at e
      · exact ⟨c, e⟩
      · refine List.all_eq_true.mpr fun l hl => ?_
        obtain ⟨m, hm, rfl⟩ := List.mem_map.mp hl
        exact (nok (h m hm)).num
  obtain ⟨c, e⟩ := hf
  obtain ⟨c2, e2⟩ := numbers_eq h hz
  refine w_runE ?_
  simp only [List.length_cons, List.length_nil, List.replicate, List.cons_append, List.nil_append, Nat.reduceAdd, Nat.reduceSub]
  unfold B_run_read
  walk_at "wp"
  refine ⟨_, _, e, ?_⟩
  walk_at "wp"
  refine w_lif (a := PyData.bool false) rfl ?_
  refine w_lif (a := false) rfl ?_
  show Gd (cond false _ _) _ _
  walk_at "wp"
  refine ⟨_, _, e2, ?_⟩
  exact ⟨rfl, by simp⟩
theorem run_read_bad {l : List Nat} (h : Sml l) (hz : l.length ≤ 100000) (n : l ≠ [45]) {c : Nat} (hc : c ∈ l) (h1 : isFig c = false) (h2 : c ≠ 44) : ∃ o, g_run_read [.fz (.str (sMk l))] = some (.ok .none, o) := by
  obtain ⟨o, e⟩ := figures_in_eq h hz n
  obtain ⟨p, hp, hcp⟩ := splitL_has h2 hc
  have hall : (splitL 44 l).all isNum = false := by
    refine Bool.eq_false_iff.mpr fun z => ?_
    have := List.all_eq_true.mp z p hp
    rw [bad_num hcp h1] at this
    cases this
  rw [hall, if_neg (by simp)] at e
  refine w_runE ?_
  simp only [List.length_cons, List.length_nil, List.replicate, List.cons_append, List.nil_append, Nat.reduceAdd, Nat.reduceSub]
  unfold B_run_read
  walk_at "wp"
  refine ⟨_, _, e, ?_⟩
  walk_at "wp"
  refine w_lif (a := PyData.bool true) rfl ?_
  refine w_lif (a := true) rfl ?_
  show Gd (cond true _ _) _ _
  walk_at "wp"
  exact ⟨rfl, by simp⟩
end K01
end

section
set_option linter.all false
set_option maxRecDepth 100000
set_option maxHeartbeats 2000000
namespace K01
open PySem PD
theorem addX_str {a b : Str} (h : a.cps.toList.length + b.cps.toList.length ≤ 1000000) : addX (.str a) (.str b) = some (.str (sMk (a.cps.toList ++ b.cps.toList))) := by
  show catS (.str a) (.str b) = _
  unfold catS
  dsimp only
  rw [if_pos h]

theorem w_joined3 {f g h : M PyData} {δ : Sg} {Q : PyData → Sg → Prop} (hh : Gd f δ fun a δ1 => ∃ x, a = .str (sMk x) ∧ x.length ≤ 1000 ∧ Gd g δ1 fun b δ2 => ∃ y, b = .str (sMk y) ∧ y.length ≤ 1000 ∧ Gd h δ2 fun c δ3 => ∃ z, c = .str (sMk z) ∧ z.length ≤ 1000 ∧ Q (.str (sMk (x ++ y ++ z))) δ3) :
    Gd (xJoined (xJ1 f (xJ1 g (xJ1 h xJ0)))) δ Q := by
  refine w_bnd (w_bnd (hh.imp fun a δ1 hh => ?_))
  obtain ⟨x, rfl, hx, hh⟩ := hh
  show Gd (if ([] ++ x).length ≤ 1000000 then xJ1 g (xJ1 h xJ0) ([] ++ x) else fun _ => none) δ1 _
  rw [if_pos (by simp; omega)]
  refine w_bnd (hh.imp fun b δ2 hh => ?_)
  obtain ⟨y, rfl, hy, hh⟩ := hh
  show Gd (if ([] ++ x ++ y).length ≤ 1000000 then xJ1 h xJ0 ([] ++ x ++ y) else fun _ => none) δ2 _
  rw [if_pos (by simp; omega)]
  refine w_bnd (hh.imp fun c δ3 hh => ?_)
  obtain ⟨z, rfl, hz, hh⟩ := hh
  show Gd (if ([] ++ x ++ y ++ z).length ≤ 1000000 then xJ0 ([] ++ x ++ y ++ z) else fun _ => none) δ3 _
  rw [if_pos (by simp; omega)]
  exact w_ret (w_ret (by simpa using hh))
structure MOk (m : List (Nat × Nat)) : Prop where
  one : ∀ p ∈ m, p.1 ∈ ALL
  two : ∀ p ∈ m, p.2 ∈ ALL ∧ p.2 ≠ 0
  asc : (m.map Prod.fst).Pairwise (· < ·)
  len : m.length ≤ 100
def prT (p : Nat × Nat) : PyData := .tuple [.int (p.1 : Int), .int (p.2 : Int)]
def prLs (p : Nat × Nat) : PyData := .list [.int (p.1 : Int), .int (p.2 : Int)]
def pw (p : Nat × Nat) : List Nat := figL p.1 ++ [58] ++ figL p.2
def MW (m : List (Nat × Nat)) : List Nat := match m with
  | [] => [45]
  | _ :: _ => joinL [43] (m.map pw)
theorem pw_len {p : Nat × Nat} (h1 : p.1 ∈ ALL) (h2 : p.2 ∈ ALL) : (pw p).length ≤ 15 := by
  have a := (nok h1).len
  have b := (nok h2).len
  unfold pw
  simp only [List.length_append, List.length_cons, List.length_nil]
  omega
theorem pws_len {m : List (Nat × Nat)} (h : MOk m) : ∀ l ∈ m.map pw, l.length ≤ 15 := fun l hl => by
  obtain ⟨p, hp, rfl⟩ := List.mem_map.mp hl
  exact pw_len (h.one p hp) (h.two p hp).1
theorem pws_ne {m : List (Nat × Nat)} : ∀ l ∈ m.map pw, l ≠ [] := fun l hl => by
  obtain ⟨p, hp, rfl⟩ := List.mem_map.mp hl
  unfold pw
  simp
abbrev sumEl : M PyData := xJoined (xJ1 (xUn fmtB (xVar 1)) (xJ1 (PD.ret (.str (PySem.Str.ofString ":"))) (xJ1 (xUn fmtB (xVar 2)) xJ0)))
theorem sums_comp {m : List (Nat × Nat)} {mk : Nat × Nat → PyData} {a : Cell} (hk : mk = prT ∨ mk = prLs) (h : MOk m) : compD [1, 2] (sTupX 2 (sCons (sName 1) (sCons (sName 2) sNil))) (PD.ret true) sumEl (m.map mk) [] [a, .un, .un] = some (fsD (m.map pw), [a, .un, .un]) := by
  have q := comp_fun (is := [1, 2]) (set := sTupX 2 (sCons (sName 1) (sCons (sName 2) sNil))) (el := sumEl) (ds := m.map mk) (δ := [a, .un, .un])
    (fun d => match d with | .tuple [.int i, .int j] => .str (sMk (pw (i.toNat, j.toNat))) | .list [.int i, .int j] => .str (sMk (pw (i.toNat, j.toNat))) | _ => .none) (by rw [List.length_map]; have := h.len; omega) fun d hd => by
      obtain ⟨p, hp, rfl⟩ := List.mem_map.mp hd
      have k1 := nok (h.one p hp)
      have k2 := nok (h.two p hp).1
      refine ⟨[a, .fz (.int (p.1 : Int)), .fz (.int (p.2 : Int))], by rcases hk with rfl | rfl <;> rfl, ?_⟩
      unfold sumEl
      refine w_joined3 ?_
      walk_at "wp"
      refine w_lif k1.fmt ?_
      refine ⟨_, rfl, Nat.le_trans k1.len (by decide), ?_⟩
      walk_at "wp"
      rw [o_k]
      refine ⟨_, rfl, by decide, ?_⟩
      walk_at "wp"
      refine w_lif k2.fmt ?_
      refine ⟨_, rfl, Nat.le_trans k2.len (by decide), ?_⟩
      refine ⟨?_, rfl, rfl⟩
      rcases hk with rfl | rfl <;> rfl
  rw [q]
  unfold fsD
  rw [List.map_map, List.map_map]
  refine congrArg (fun x => some (x, _)) (List.map_congr_left fun p _ => ?_)
  rcases hk with rfl | rfl <;> rfl
theorem word_of_sum_eq {m : List (Nat × Nat)} {mk : Nat × Nat → PyData} {d : PyData} (hk : mk = prT ∨ mk = prLs) (hd : d = .tuple (m.map mk) ∨ d = .list (m.map mk)) (h : MOk m) : ∃ c, g_word_of_sum [.fz d] = some (.ok (.str (sMk (MW m))), c) := by
  refine w_runE ?_
  simp only [List.length_cons, List.length_nil, List.replicate, List.cons_append, List.nil_append, Nat.reduceAdd, Nat.reduceSub]
  unfold B_word_of_sum
  walk_at "wp"
  refine w_orV (w_m1 ?_)
  walk_at "wp"
  rw [o_p, o_m]
  refine ⟨_, rfl, ?_⟩
  walk_at "wp"
  refine w_lif (seqS d _ hd) ?_
  refine ⟨rfl, _, _, sums_comp hk h, ?_⟩
  walk_at "wp"
  refine w_lif (join_eq (B := 15) (pws_len h) (by decide) (by rw [List.length_map]; exact h.len)) ?_
  cases m with
  | nil =>
    refine ⟨false, truth_str (l := []) (by decide), ?_⟩
    show Gd (cond false _ _) _ _
    walk_at "wp"
    exact ⟨rfl, by simp [backD]⟩
  | cons n t =>
    refine ⟨true, jn_ne (B := 15) (by simp) pws_ne (pws_len h) (by decide) (by rw [List.length_map]; exact h.len), ?_⟩
    show Gd (cond true _ _) _ _
    walk_at "wp"
    exact ⟨rfl, by simp [backD]⟩
theorem sum_word_eq {m : List (Nat × Nat)} {mk : Nat × Nat → PyData} {d : PyData} (hk : mk = prT ∨ mk = prLs) (hd : d = .tuple (m.map mk) ∨ d = .list (m.map mk)) (h : MOk m) : ∃ c, g_sum_word [.fz d] = some (.ok (.str (sMk (MW m))), c) := by
  obtain ⟨c, e⟩ := word_of_sum_eq hk hd h
  refine w_runE ?_
  simp only [List.length_cons, List.length_nil, List.replicate, List.cons_append, List.nil_append, Nat.reduceAdd, Nat.reduceSub]
  unfold B_sum_word
  walk_at "wp"
  refine ⟨_, _, e, ?_⟩
  exact ⟨rfl, by simp⟩
abbrev mixEl : M PyData := xBin addX (xBin addX (xCall strB (bnd (xBin ixD (xVar 1) (PD.ret (.int 0))) fun d => bnd (PD.ret []) fun ds => PD.ret (d :: ds))) (PD.ret (.str (PySem.Str.ofString ":")))) (xCall strB (bnd (xBin ixD (xVar 1) (PD.ret (.int 1))) fun d => bnd (PD.ret []) fun ds => PD.ret (d :: ds)))
theorem mix_comp {m : List (Nat × Nat)} {a : Cell} (h : MOk m) : compD [1] (sName 1) (PD.ret true) mixEl (m.map prT) [] [a, .un] = some (fsD (m.map pw), [a, .un]) := by
  have q := comp_fun (is := [1]) (set := sName 1) (el := mixEl) (ds := m.map prT) (δ := [a, .un])
    (fun d => match d with | .tuple [.int i, .int j] => .str (sMk (pw (i.toNat, j.toNat))) | _ => .none) (by rw [List.length_map]; have := h.len; omega) fun d hd => by
      obtain ⟨p, hp, rfl⟩ := List.mem_map.mp hd
      have k1 := nok (h.one p hp)
      have k2 := nok (h.two p hp).1
      have l1 := k1.len
      have l2 := k2.len
      unfold mixEl
      walk_at "wp"
      refine w_lif (a := PyData.int (p.1 : Int)) rfl ?_
      walk_at "wp"
      refine w_lif k1.str ?_
      walk_at "wp"
      rw [o_k]
      refine w_lif (addX_str (by show (figL p.1).length + 1 ≤ _; omega)) ?_
      walk_at "wp"
      refine w_lif (a := PyData.int (p.2 : Int)) rfl ?_
      walk_at "wp"
      refine w_lif k2.str ?_
      refine w_lif (addX_str (by show (figL p.1 ++ [58]).length + (figL p.2).length ≤ _; rw [List.length_append]; simp; omega)) ?_
      exact ⟨rfl, rfl, rfl⟩
  rw [q]
  unfold fsD
  rw [List.map_map, List.map_map]
  rfl
theorem mix_word_eq {m : List (Nat × Nat)} (h : MOk m) : ∃ c, g__law_mix_word [.fz (.tuple (m.map prT))] = some (.ok (.str (sMk (MW m))), c) := by
  refine w_runE ?_
  simp only [List.length_cons, List.length_nil, List.replicate, List.cons_append, List.nil_append, Nat.reduceAdd, Nat.reduceSub]
  unfold B__law_mix_word
  walk_at "wp"
  have hf : Flat 2 (.tuple (m.map prT)) := flat_tup fun d hd => by
    obtain ⟨n, _, rfl⟩ := List.mem_map.mp hd
    refine flat_tup fun d hd => ?_
    simp only [List.mem_cons, List.not_mem_nil, or_false] at hd
    rcases hd with rfl | rfl
    · exact flat_int _
    · exact flat_int _
  rw [o_p, o_m]
  refine w_lif (neT_nil hf (by decide)) ?_
  refine w_lif (a := !(m.map prT).isEmpty) rfl ?_
  cases m with
  | nil =>
    show Gd (cond false _ _) _ _
    walk_at "wp"
    exact ⟨rfl, by simp⟩
  | cons n t =>
    show Gd (cond true _ _) _ _
    walk_at "wp"
    refine w_m1 ?_
    walk_at "wp"
    refine ⟨_, rfl, ?_⟩
    walk_at "wp"
    refine w_lif rfl ?_
    refine ⟨rfl, _, _, mix_comp h, ?_⟩
    walk_at "wp"
    refine w_lif (join_eq (B := 15) (pws_len h) (by decide) (by rw [List.length_map]; exact h.len)) ?_
    exact ⟨rfl, by simp [backD]⟩
end K01
end

section
set_option linter.all false
set_option maxRecDepth 100000
set_option maxHeartbeats 2000000
namespace K01
open PySem PD
def keyD (l : List Nat) : PyData := .tuple [.int (l.length : Int), .str (sMk l)]
def ltT (a b : Nat) : Bool := match ltN (keyD (figL a)) (keyD (figL b)) with
  | some (.bool true) => true
  | _ => false
theorem lt_pairs : ALL.all (fun a => ALL.all fun b => !decide (a < b) || ltT a b) = true := by decide +kernel
theorem lt_of {a b : Nat} (ha : a ∈ ALL) (hb : b ∈ ALL) (h : a < b) : ltN (keyD (figL a)) (keyD (figL b)) = some (.bool true) := by
  have q := List.all_eq_true.mp (List.all_eq_true.mp lt_pairs a ha) b hb
  rw [decide_eq_true h] at q
  have q2 : ltT a b = true := q
  unfold ltT at q2
  split at q2
  · assumption
  · cases q2
abbrev keyEl : M PyData := xTup (bnd (xCall lenX (bnd (xVar 2) fun d => bnd (PD.ret []) fun ds => PD.ret (d :: ds))) fun d => bnd (bnd (xVar 2) fun d => bnd (PD.ret []) fun ds => PD.ret (d :: ds)) fun ds => PD.ret (d :: ds))
theorem keys_comp {ls : List (List Nat)} {a : Cell} (h : ∀ l ∈ ls, l.length ≤ 1000) (hz : ls.length ≤ 1000) : compD [2] (sName 2) (PD.ret true) keyEl (fsD ls) [] [a, .un, .un, .un] = some (ls.map keyD, [a, .un, .un, .un]) := by
  have q := comp_fun (is := [2]) (set := sName 2) (el := keyEl) (ds := fsD ls) (δ := [a, .un, .un, .un])
    (fun d => match d with | .str s => keyD s.cps.toList | _ => .none) (by rw [List.length_map]; omega) fun d hd => by
      obtain ⟨l, hl, rfl⟩ := List.mem_map.mp hd
      unfold keyEl
      walk_at "wp"
      refine w_lif (a := PyData.int (l.length : Int)) ?_ ?_
      · show (if l.length ≤ 1000000 then some (PyData.int (l.length : Int)) else none) = _
        rw [if_pos (by have := h l hl; omega)]
      walk_at "wp"
      exact ⟨rfl, rfl, rfl⟩
  rw [q]
  unfold fsD
  rw [List.map_map]
  rfl
theorem ix_at {xs : List PyData} {k : Nat} {x : PyData} (h : xs[k]? = some x) : ixD (.list xs) (.int (k : Int)) = some x := by
  show L2.atI xs (k : Int) = _
  obtain ⟨hk, e⟩ := List.getElem?_eq_some_iff.mp h
  unfold L2.atI L2.ixN
  rw [if_pos (by omega), if_pos (by omega)]
  simpa using h
theorem ascend_eq {ks : List Nat} (h : ∀ n ∈ ks, n ∈ ALL) (hp : ks.Pairwise (· < ·)) (hz : ks.length ≤ 100) (n : ks ≠ []) : ∃ c, g_figures_ascend [.fz (.list (fsD (ks.map figL)))] = some (.ok (.bool true), c) := by
  have hl : ∀ l ∈ ks.map figL, l.length ≤ 1000 := fun l hl => Nat.le_trans (figs_len h l hl) (by decide)
  refine w_runE ?_
  simp only [List.length_cons, List.length_nil, List.replicate, List.cons_append, List.nil_append, Nat.reduceAdd, Nat.reduceSub]
  unfold B_figures_ascend
  walk_at "wp"
  refine w_lif rfl ?_
  refine ⟨rfl, _, _, keys_comp hl (by rw [List.length_map]; omega), ?_⟩
  walk_at "wp"
  show Gs (sName 1) _ [.fz (.list (fsD (ks.map figL))), .un, .un, .un] _
  walk_at "wp"
  refine w_lif rfl ?_
  walk_at "wp"
  refine w_lif rfl ?_
  walk_at "wp"
  have hk : 0 < ks.length := List.length_pos_iff.mpr n
  refine w_lif (range_take (by simp; omega) (by simp; omega)) ?_
  have q := comp_fun (is := [3]) (set := sName 3) (el := xBin ltN (xBin ixD (xVar 1) (xVar 3)) (xBin ixD (xVar 1) (xBin addD (xVar 3) (PD.ret (.int 1))))) (ds := rangeL 0 (((((ks.map figL).map keyD).length : Nat) : Int) - 1).toNat)
    (δ := [.fz (.list (fsD (ks.map figL))), .fz (.list ((ks.map figL).map keyD)), .un, .un]) (fun _ => .bool ((fun _ => true) PyData.none)) (by rw [rangeL_length]; simp; omega) fun d hd => by
    obtain ⟨i, hi, rfl⟩ : ∃ i : Nat, i + 1 < ks.length ∧ d = .int i := by
      unfold rangeL at hd
      obtain ⟨i, hi, rfl⟩ := List.mem_map.mp hd
      have := List.mem_range.mp hi
      simp at this
      exact ⟨i, by omega, by simp⟩
    have g1 : ((ks.map figL).map keyD)[i]? = some (keyD (figL (ks[i]'(by omega)))) := by simp [show i < ks.length by omega]
    have g2 : ((ks.map figL).map keyD)[i + 1]? = some (keyD (figL (ks[i + 1]'(by omega)))) := by simp [hi]
    walk_at "wp"
    refine w_lif (ix_at g1) ?_
    walk_at "wp"
    refine w_lif (o_add _ _) ?_
    refine w_lif (ix_at (k := i + 1) g2) ?_
    refine w_lif (lt_of (h _ (List.getElem_mem _)) (h _ (List.getElem_mem _)) (List.pairwise_iff_getElem.mp hp i (i + 1) (by omega) hi (by omega))) ?_
    exact ⟨rfl, rfl, rfl⟩
  refine ⟨rfl, _, _, q, ?_⟩
  walk_at "wp"
  refine w_lif (all_map (f := fun _ => true)) ?_
  exact ⟨by simp, by simp [backD]⟩
/-! ### pairs -/
def qD (q : List (List Nat)) : PyData := .list (fsD q)
def tstB (q : List (List Nat)) : Bool := match q with
  | [a, b] => isNum a && (isNum b && !decide (b = [48]))
  | _ => false
abbrev spEl : M PyData := bnd (xM1F splitD (xVar 2) (PD.ret (.str (PySem.Str.ofString ":")))) fun ds => PD.ret (.list ds)
theorem sp_comp {ps : List (List Nat)} {a : Cell} (h : ∀ p ∈ ps, p.length ≤ 1000000) (hz : ps.length ≤ 1000000) : compD [2] (sName 2) (PD.ret true) spEl (fsD ps) [] [a, .un, .un] = some ((ps.map (splitL 58)).map qD, [a, .un, .un]) := by
  have q := comp_fun (is := [2]) (set := sName 2) (el := spEl) (ds := fsD ps) (δ := [a, .un, .un])
    (fun d => match d with | .str s => qD (splitL 58 s.cps.toList) | _ => .none) (by rw [List.length_map]; exact hz) fun d hd => by
      obtain ⟨l, hl, rfl⟩ := List.mem_map.mp hd
      unfold spEl
      refine ⟨[a, .un, .fz (.str (sMk l))], rfl, ?_⟩
      refine w_bnd (w_m1F ?_)
      walk_at "wp"
      rw [o_k]
      refine ⟨_, rfl, ?_⟩
      walk_at "wp"
      refine w_lif (splitD_eq (sMk l) (c := 58) rfl (h l hl)) ?_
      walk_at "wp"
      exact ⟨rfl, rfl, rfl⟩
  rw [q]
  unfold fsD
  rw [List.map_map, List.map_map]
  rfl
abbrev tsEl : M PyData := (xAnd (xBin eqD (xCall lenX (bnd (xVar 2) fun d => bnd (PD.ret []) fun ds => PD.ret (d :: ds))) (PD.ret (.int 2))) (xAnd (xDef g_is_figures (bnd (xBin ixD (xVar 2) (PD.ret (.int 0))) fun d => bnd (PD.ret []) fun ds => PD.ret (d :: ds))) (xAnd (xDef g_is_figures (bnd (xBin ixD (xVar 2) (PD.ret (.int 1))) fun d => bnd (PD.ret []) fun ds => PD.ret (d :: ds))) (xBin neD (xBin ixD (xVar 2) (PD.ret (.int 1))) (PD.ret (.str (PySem.Str.ofString "0")))))))
theorem ts_comp {qs : List (List (List Nat))} {a b : Cell} (h : ∀ q ∈ qs, ∀ p ∈ q, Sml p ∧ p.length ≤ 1000000) (hz : qs.length ≤ 1000000) : compD [2] (sName 2) (PD.ret true) tsEl (qs.map qD) [] [a, b, .un] = some (qs.map fun q => .bool (tstB q), [a, b, .un]) := by
  have q := comp_fun (is := [2]) (set := sName 2) (el := tsEl) (ds := qs.map qD) (δ := [a, b, .un])
    (fun d => match d with | .list ds => .bool (tstB (ds.map fun d => match d with | .str s => s.cps.toList | _ => [])) | _ => .none) (by rw [List.length_map]; exact hz) fun d hd => by
      obtain ⟨q, hq, rfl⟩ := List.mem_map.mp hd
      have hq2 := h q hq
      have e0 : ((fsD q).map fun d => match d with | .str s => s.cps.toList | _ => []) = q := by
        unfold fsD
        rw [List.map_map]
        exact (List.map_congr_left fun _ _ => rfl).trans (List.map_id _)
      show Gs (sName 2) (qD q) [a, b, .un] fun δ1 => Gd tsEl δ1 fun y δ3 => y = PyData.bool (tstB ((fsD q).map fun d => match d with | .str s => s.cps.toList | _ => [])) ∧ _
      rw [e0]
      unfold tsEl
      walk_at "wp"
      refine w_lif (a := PyData.int ((fsD q).length : Int)) rfl ?_
      walk_at "wp"
      refine w_lif (o_eqI _ _) ?_
      refine ⟨_, rfl, ?_⟩
      match q, hq2 with
      | [], _ => exact ⟨_, _, rfl, rfl, rfl, rfl⟩
      | [_], _ => exact ⟨_, _, rfl, rfl, rfl, rfl⟩
      | x :: y :: z :: r, _ =>
        have e : decide ((((fsD (x :: y :: z :: r)).length : Nat) : Int) = 2) = false := decide_eq_false (by simp; omega)
        rw [e]
        exact ⟨_, _, rfl, rfl, rfl, rfl⟩
      | [x, y], hq2 =>
        have e : decide ((((fsD [x, y]).length : Nat) : Int) = 2) = true := rfl
        rw [e]
        show Gd (cond true _ _) _ _
        walk_at "wp"
        refine w_lif (a := PyData.str (sMk x)) rfl ?_
        obtain ⟨c1, e1⟩ := figures_eq (hq2 x (by simp)).1 (hq2 x (by simp)).2
        obtain ⟨c2, e2⟩ := figures_eq (hq2 y (by simp)).1 (hq2 y (by simp)).2
        walk_at "wp"
        refine ⟨_, _, e1, ?_⟩
        refine ⟨_, rfl, ?_⟩
        cases h1 : isNum x with
        | false => exact ⟨_, _, rfl, by simp [tstB, h1], rfl, rfl⟩
        | true =>
          show Gd (cond true _ _) _ _
          walk_at "wp"
          refine w_lif (a := PyData.str (sMk y)) rfl ?_
          walk_at "wp"
          refine ⟨_, _, e2, ?_⟩
          refine ⟨_, rfl, ?_⟩
          cases h2 : isNum y with
          | false => exact ⟨_, _, rfl, by simp [tstB, h1, h2], rfl, rfl⟩
          | true =>
            show Gd (cond true _ _) _ _
            walk_at "wp"
            rw [o_0]
            refine w_lif (a := PyData.str (sMk y)) rfl ?_
            walk_at "wp"
            refine w_lif (neS (hq2 y (by simp)).1 (sml1 (n := 48) (by decide))) ?_
            exact ⟨by simp [tstB, h1, h2], rfl, rfl⟩
  rw [q, List.map_map]
  refine congrArg (fun x => some (x, _)) (List.map_congr_left fun q _ => ?_)
  have e0 : ((fsD q).map fun d => match d with | .str s => s.cps.toList | _ => []) = q := by
    unfold fsD
    rw [List.map_map]
    exact (List.map_congr_left fun _ _ => rfl).trans (List.map_id _)
  show PyData.bool (tstB ((fsD q).map fun d => match d with | .str s => s.cps.toList | _ => [])) = _
  rw [e0]
end K01
end

section
set_option linter.all false
set_option maxRecDepth 100000
set_option maxHeartbeats 2000000
namespace K01
open PySem PD
def qsL (l : List Nat) : List (List (List Nat)) := (splitL 43 l).map (splitL 58)
theorem qs_sml {l : List Nat} (h : Sml l) (hz : l.length ≤ 100000) : ∀ q ∈ qsL l, ∀ p ∈ q, Sml p ∧ p.length ≤ 1000000 := fun q hq p hp => by
  obtain ⟨x, hx, rfl⟩ := List.mem_map.mp hq
  obtain ⟨h1, h2⟩ := splitL_sub hx
  obtain ⟨h3, h4⟩ := splitL_sub hp
  exact ⟨fun c hc => h c (h2 c (h4 c hc)), by omega⟩
theorem pairs_pre {l : List Nat} (h : Sml l) (hz : l.length ≤ 100000) (n : l ≠ [45]) {Q : Flo → Sg → Prop}
    (hb : (qsL l).all tstB = false → Q (.rt .none) [.fz (.str (sMk l)), .fz (.list ((qsL l).map qD)), .un])
    (hg : (qsL l).all tstB = true → Gd (sRet (xIf (xTru (xDef g_figures_ascend (bnd (bnd (xComp (xSeq (xVar 1)) [2] (sName 2) (PD.ret true) (xBin ixD (xVar 2) (PD.ret (.int 0)))) fun ds => PD.ret (.list ds)) fun d => bnd (PD.ret []) fun ds => PD.ret (d :: ds)))) (bnd (xComp (xSeq (xVar 1)) [2] (sName 2) (PD.ret true) (xTup (bnd (xBin ixD (xVar 2) (PD.ret (.int 0))) fun d => bnd (bnd (xBin ixD (xVar 2) (PD.ret (.int 1))) fun d => bnd (PD.ret []) fun ds => PD.ret (d :: ds)) fun ds => PD.ret (d :: ds)))) fun ds => PD.ret (.list ds)) (PD.ret .none)))
      [.fz (.str (sMk l)), .fz (.list ((qsL l).map qD)), .un] Q) :
    Gd B_pairs_in [.fz (.str (sMk l)), .un, .un] Q := by
  have hl := splitL_len 43 l
  unfold B_pairs_in
  walk_at "wp"
  rw [o_m, o_p]
  refine w_lif (eqS h (sml1 (n := 45) (by decide))) ?_
  refine w_lif (a := decide (l = [45])) rfl ?_
  rw [decide_eq_false n]
  show Gd (cond false _ _) _ _
  walk_at "wp"
  refine w_m1F ?_
  walk_at "wp"
  refine ⟨_, rfl, ?_⟩
  walk_at "wp"
  refine w_lif (splitD_eq (sMk l) (c := 43) rfl (by show l.length ≤ _; omega)) ?_
  walk_at "wp"
  refine w_lif rfl ?_
  refine ⟨rfl, _, _, sp_comp (ps := splitL 43 l) (fun p hp => by have := (splitL_sub hp).1; omega) (by omega), ?_⟩
  walk_at "wp"
  show Gs (sName 1) _ [.fz (.str (sMk l)), .un, .un] _
  walk_at "wp"
  refine w_lif rfl ?_
  refine ⟨rfl, _, _, ts_comp (qs := qsL l) (qs_sml h hz) (by unfold qsL; rw [List.length_map]; omega), ?_⟩
  walk_at "wp"
  have ha : allD [.list ((qsL l).map fun q => .bool (tstB q))] = some (.bool ((qsL l).all tstB)) := by
    have e : ((qsL l).map fun q => PyData.bool (tstB q)) = ((qsL l).map tstB).map .bool := by rw [List.map_map]; rfl
    rw [e, o_all]
    simp
  refine w_lif ha ?_
  refine w_lif (a := (qsL l).all tstB) rfl ?_
  cases hh : (qsL l).all tstB with
  | false =>
    show Gd (cond true _ _) [.fz (.str (sMk l)), .fz (.list ((qsL l).map qD)), .un] _
    walk_at "wp"
    exact hb hh
  | true =>
    show Gd (cond false _ _) [.fz (.str (sMk l)), .fz (.list ((qsL l).map qD)), .un] _
    refine PD.w_ie ?_
    apply PD.w_skip
    apply PD.nx_nx
    exact hg hh
theorem pairs_bad {l : List Nat} (h : Sml l) (hz : l.length ≤ 100000) (n : l ≠ [45]) (hb : (qsL l).all tstB = false) : ∃ c, g_pairs_in [.fz (.str (sMk l))] = some (.ok .none, c) := by
  refine w_runE ?_
  simp only [List.length_cons, List.length_nil, List.replicate, List.cons_append, List.nil_append, Nat.reduceAdd, Nat.reduceSub]
  exact pairs_pre h hz n (fun _ => ⟨rfl, by simp⟩) fun z => by rw [hb] at z; cases z
def pq (p : Nat × Nat) : List (List Nat) := [figL p.1, figL p.2]
def pS (p : Nat × Nat) : PyData := .tuple [.str (sMk (figL p.1)), .str (sMk (figL p.2))]
theorem tst_pq {p : Nat × Nat} (h1 : p.1 ∈ ALL) (h2 : p.2 ∈ ALL) (h0 : p.2 ≠ 0) : tstB (pq p) = true := by
  have k2 : figL p.2 ≠ [48] := fun z => h0 (by
    have e := (nok h2).int
    rw [z] at e
    have e2 : intB [.str (sMk [48])] = some (.int 0) := by kernel_rfl
    rw [e2] at e
    have : (0 : Int) = (p.2 : Int) := by
      injection e with e
      injection e with e
    omega)
  show (isNum (figL p.1) && (isNum (figL p.2) && !decide (figL p.2 = [48]))) = true
  rw [(nok h1).num, (nok h2).num, decide_eq_false k2]
  rfl
theorem MW_ok {m : List (Nat × Nat)} (h : MOk m) (n : m ≠ []) : MW m ≠ [45] ∧ Sml (MW m) ∧ qsL (MW m) = m.map pq ∧ (MW m).length ≤ 2000 ∧ (∀ c ∈ MW m, c = 43 ∨ c = 58 ∨ isFig c = true) := by
  cases m with
  | nil => exact absurd rfl n
  | cons x t =>
    have key : ∀ c ∈ MW (x :: t), c = 43 ∨ c = 58 ∨ isFig c = true := fun c hc => by
      rcases joinL_mem (show c ∈ joinL [43] ((x :: t).map pw) from hc) with hc | ⟨l, hl, hc⟩
      · exact .inl (List.mem_singleton.mp hc)
      · obtain ⟨p, hp, rfl⟩ := List.mem_map.mp hl
        unfold pw at hc
        rcases List.mem_append.mp hc with hc | hc
        · rcases List.mem_append.mp hc with hc | hc
          · exact .inr (.inr ((nok (h.one p hp)).dig c hc))
          · exact .inr (.inl (List.mem_singleton.mp hc))
        · exact .inr (.inr ((nok (h.two p hp).1).dig c hc))
    refine ⟨fun z => ?_, fun c hc => ?_, ?_, ?_, key⟩
    · rcases key 45 (by rw [z]; exact List.mem_cons_self ..) with e | e | e <;> cases e
    · rcases key c hc with e | e | e
      · omega
      · omega
      · unfold isFig at e
        rw [Bool.and_eq_true, decide_eq_true_eq, decide_eq_true_eq] at e
        omega
    · unfold qsL
      have e1 : splitL 43 (MW (x :: t)) = (x :: t).map pw := split_join (fun l hl => by
        obtain ⟨p, hp, rfl⟩ := List.mem_map.mp hl
        intro hc
        unfold pw at hc
        rcases List.mem_append.mp hc with hc | hc
        · rcases List.mem_append.mp hc with hc | hc
          · exact (nok (h.one p hp)).free (c := 43) rfl hc
          · cases List.mem_singleton.mp hc
        · exact (nok (h.two p hp).1).free (c := 43) rfl hc) (by simp)
      rw [e1, List.map_map]
      refine List.map_congr_left fun p hp => ?_
      show splitL 58 (pw p) = pq p
      unfold pw pq
      rw [List.append_assoc]
      show splitL 58 (figL p.1 ++ 58 :: figL p.2) = _
      rw [splitL_app ((nok (h.one p hp)).free rfl), splitL_free ((nok (h.two p hp).1).free rfl)]
    · have h1 := joinL_len (s := [43]) (pws_len h)
      have h2 : ((x :: t).map pw).length * (15 + [43].length) ≤ 100 * 16 := Nat.mul_le_mul (by rw [List.length_map]; exact h.len) (by decide)
      exact Nat.le_trans h1 (by omega)
theorem pairs_good {m : List (Nat × Nat)} (h : MOk m) (n : m ≠ []) : ∃ c, g_pairs_in [.fz (.str (sMk (MW m)))] = some (.ok (.list (m.map pS)), c) := by
  obtain ⟨h1, h2, h3, h4, _⟩ := MW_ok h n
  have hall : (qsL (MW m)).all tstB = true := by
    rw [h3]
    refine List.all_eq_true.mpr fun q hq => ?_
    obtain ⟨p, hp, rfl⟩ := List.mem_map.mp hq
    exact tst_pq (h.one p hp) (h.two p hp).1 (h.two p hp).2
  obtain ⟨ca, ea⟩ := ascend_eq (ks := m.map Prod.fst) (fun k hk => by obtain ⟨p, hp, rfl⟩ := List.mem_map.mp hk; exact h.one p hp) h.asc (by rw [List.length_map]; exact h.len) (by simpa using n)
  have hz := h.len
  refine w_runE ?_
  simp only [List.length_cons, List.length_nil, List.replicate, List.cons_append, List.nil_append, Nat.reduceAdd, Nat.reduceSub]
  refine pairs_pre h2 (by omega) h1 (fun z => by rw [hall] at z; cases z) fun _ => ?_
  rw [h3, List.map_map]
  have q1 := comp_fun (is := [2]) (set := sName 2) (el := xBin ixD (xVar 2) (PD.ret (.int 0))) (ds := m.map (qD ∘ pq)) (δ := [.fz (.str (sMk (MW m))), .fz (.list (m.map (qD ∘ pq))), .un])
    (fun d => match d with | .list (x :: _) => x | _ => .none) (by rw [List.length_map]; omega) fun d hd => by
      obtain ⟨p, hp, rfl⟩ := List.mem_map.mp hd
      show Gs (sName 2) (qD (pq p)) _ _
      walk_at "wp"
      refine w_lif (a := PyData.str (sMk (figL p.1))) rfl ?_
      exact ⟨rfl, rfl, rfl⟩
  have q2 := comp_fun (is := [2]) (set := sName 2) (el := xTup (bnd (xBin ixD (xVar 2) (PD.ret (.int 0))) fun d => bnd (bnd (xBin ixD (xVar 2) (PD.ret (.int 1))) fun d => bnd (PD.ret []) fun ds => PD.ret (d :: ds)) fun ds => PD.ret (d :: ds))) (ds := m.map (qD ∘ pq)) (δ := [.fz (.str (sMk (MW m))), .fz (.list (m.map (qD ∘ pq))), .un])
    (fun d => match d with | .list [x, y] => .tuple [x, y] | _ => .none) (by rw [List.length_map]; omega) fun d hd => by
      obtain ⟨p, hp, rfl⟩ := List.mem_map.mp hd
      show Gs (sName 2) (qD (pq p)) _ _
      walk_at "wp"
      refine w_lif (a := PyData.str (sMk (figL p.1))) rfl ?_
      walk_at "wp"
      refine w_lif (a := PyData.str (sMk (figL p.2))) rfl ?_
      walk_at "wp"
      exact ⟨rfl, rfl, rfl⟩
  rw [List.map_map] at q1 q2
  have e1 : m.map ((fun d => match d with | PyData.list (x :: _) => x | _ => PyData.none) ∘ (qD ∘ pq)) = fsD ((m.map Prod.fst).map figL) := by
    unfold fsD
    rw [List.map_map, List.map_map]
    rfl
  have e2 : m.map ((fun d => match d with | PyData.list [x, y] => PyData.tuple [x, y] | _ => PyData.none) ∘ (qD ∘ pq)) = m.map pS := rfl
  rw [e1] at q1
  rw [e2] at q2
  walk_at "wp"
  refine w_lif rfl ?_
  refine ⟨rfl, _, _, q1, ?_⟩
  walk_at "wp"
  refine ⟨_, _, ea, ?_⟩
  refine w_lif (a := true) rfl ?_
  show Gd (cond true _ _) [.fz (.str (sMk (MW m))), .fz (.list (m.map (qD ∘ pq))), .un] _
  walk_at "wp"
  refine w_lif rfl ?_
  refine ⟨rfl, _, _, q2, ?_⟩
  walk_at "wp"
  exact ⟨rfl, by simp [backD]⟩
end K01
end

section
set_option linter.all false
set_option maxRecDepth 100000
set_option maxHeartbeats 2000000
namespace K01
open PySem PD
abbrev npEl : M PyData := xTup (bnd (xCall intB (bnd (xVar 1) fun d => bnd (PD.ret []) fun ds => PD.ret (d :: ds))) fun d => bnd (bnd (xCall intB (bnd (xVar 2) fun d => bnd (PD.ret []) fun ds => PD.ret (d :: ds))) fun d => bnd (PD.ret []) fun ds => PD.ret (d :: ds)) fun ds => PD.ret (d :: ds))
theorem intv {n : Nat} (h : n ∈ ALL) : (match intB [.str (sMk (figL n))] with | some (.int i) => i | _ => 0) = (n : Int) := by rw [(nok h).int]
theorem number_pairs_eq {m : List (Nat × Nat)} (h : MOk m) : ∃ c, g_numbers_of_pairs [.fz (.list (m.map pS))] = some (.ok (.tuple (m.map prT)), c) := by
  have hz := h.len
  refine w_runE ?_
  simp only [List.length_cons, List.length_nil, List.replicate, List.cons_append, List.nil_append, Nat.reduceAdd, Nat.reduceSub]
  unfold B_numbers_of_pairs
  walk_at "wp"
  refine w_lif rfl ?_
  have q := comp_fun (is := [1, 2]) (set := sTup 2 (sCons (sName 1) (sCons (sName 2) sNil))) (el := npEl) (ds := m.map pS) (δ := [.fz (.list (m.map pS)), .un, .un])
    (fun d => match d with | .tuple [x, y] => .tuple [.int (match intB [x] with | some (.int i) => i | _ => 0), .int (match intB [y] with | some (.int i) => i | _ => 0)] | _ => .none) (by rw [List.length_map]; omega) fun d hd => by
      obtain ⟨p, hp, rfl⟩ := List.mem_map.mp hd
      refine ⟨[.fz (.list (m.map pS)), .fz (.str (sMk (figL p.1))), .fz (.str (sMk (figL p.2)))], rfl, ?_⟩
      unfold npEl
      walk_at "wp"
      refine w_lif (nok (h.one p hp)).int ?_
      walk_at "wp"
      refine w_lif (nok (h.two p hp).1).int ?_
      walk_at "wp"
      refine ⟨?_, rfl, rfl⟩
      show PyData.tuple [.int (p.1 : Int), .int (p.2 : Int)] = .tuple [.int (match intB [.str (sMk (figL p.1))] with | some (.int i) => i | _ => 0), .int (match intB [.str (sMk (figL p.2))] with | some (.int i) => i | _ => 0)]
      rw [intv (h.one p hp), intv (h.two p hp).1]
  have e2 : (m.map pS).map (fun d => match d with | PyData.tuple [x, y] => PyData.tuple [.int (match intB [x] with | some (.int i) => i | _ => 0), .int (match intB [y] with | some (.int i) => i | _ => 0)] | _ => PyData.none) = m.map prT := by
    rw [List.map_map]
    refine List.map_congr_left fun p hp => ?_
    show PyData.tuple [.int (match intB [.str (sMk (figL p.1))] with | some (.int i) => i | _ => 0), .int (match intB [.str (sMk (figL p.2))] with | some (.int i) => i | _ => 0)] = _
    rw [intv (h.one p hp), intv (h.two p hp).1]
    rfl
  rw [e2] at q
  refine ⟨rfl, _, _, q, ?_⟩
  walk_at "wp"
  refine w_lif rfl ?_
  exact ⟨rfl, by simp [backD]⟩
theorem sum_read_good {m : List (Nat × Nat)} (h : MOk m) : ∃ c, g_sum_read [.fz (.str (sMk (MW m)))] = some (.ok (.tuple (m.map prT)), c) := by
  have hf : ∃ c, g_pairs_in [.fz (.str (sMk (MW m)))] = some (.ok (.list (m.map pS)), c) := by
    cases m with
    | nil => exact ⟨[.fz (.str (sMk [45]))], by kernel_rfl⟩
    | cons x r => exact pairs_good h (by simp)
  obtain ⟨c, e⟩ := hf
  obtain ⟨c2, e2⟩ := number_pairs_eq h
  refine w_runE ?_
  simp only [List.length_cons, List.length_nil, List.replicate, List.cons_append, List.nil_append, Nat.reduceAdd, Nat.reduceSub]
  unfold B_sum_read
  walk_at "wp"
  refine ⟨_, _, e, ?_⟩
  walk_at "wp"
  refine w_lif (a := PyData.bool false) rfl ?_
  refine w_lif (a := false) rfl ?_
  show Gd (cond false _ _) _ _
  walk_at "wp"
  refine ⟨_, _, e2, ?_⟩
  exact ⟨rfl, by simp⟩
theorem sum_read_bad {l : List Nat} (h : Sml l) (hz : l.length ≤ 100000) (n : l ≠ [45]) {c : Nat} (hc : c ∈ l) (h1 : isFig c = false) (h2 : c ≠ 43) (h3 : c ≠ 58) : ∃ o, g_sum_read [.fz (.str (sMk l))] = some (.ok .none, o) := by
  have hb : (qsL l).all tstB = false := by
    obtain ⟨p, hp, hcp⟩ := splitL_has h2 hc
    obtain ⟨x, hx, hcx⟩ := splitL_has h3 hcp
    refine Bool.eq_false_iff.mpr fun z => ?_
    have q := List.all_eq_true.mp z (splitL 58 p) (List.mem_map.mpr ⟨p, hp, rfl⟩)
    have bx := bad_num hcx h1
    unfold tstB at q
    split at q
    · rename_i a b e
      rw [e] at hx
      simp only [List.mem_cons, List.not_mem_nil, or_false] at hx
      rcases hx with rfl | rfl
      · rw [bx] at q; cases q
      · rw [bx] at q; simp at q
    · cases q
  obtain ⟨o, e⟩ := pairs_bad h hz n hb
  refine w_runE ?_
  simp only [List.length_cons, List.length_nil, List.replicate, List.cons_append, List.nil_append, Nat.reduceAdd, Nat.reduceSub]
  unfold B_sum_read
  walk_at "wp"
  refine ⟨_, _, e, ?_⟩
  walk_at "wp"
  refine w_lif (a := PyData.bool true) rfl ?_
  refine w_lif (a := true) rfl ?_
  show Gd (cond true _ _) _ _
  walk_at "wp"
  exact ⟨rfl, by simp⟩
end K01
end

section
set_option linter.all false
set_option maxRecDepth 100000
set_option maxHeartbeats 2000000
namespace K01
open PySem PD
theorem w_defK {G : Sg → Option (Ans PyData × Sg)} {fs : M (List PyData)} {δ : Sg} {Q : PyData → Sg → Prop} (h : Gd fs δ fun ds δ1 => ∃ x, ds = [x] ∧ ∃ d o, G [.fz x] = some (.ok d, o) ∧ Q d δ1) : Gd (xDefK G [0] fs) δ Q := by
  refine w_bnd (h.imp fun ds δ1 h => ?_)
  obtain ⟨x, rfl, d, o, e, q⟩ := h
  rw [if_pos (show [x].length = [0].length from rfl), show pick [0] [x] = [x] from rfl]
  exact w_def (w_ret ⟨d, o, e, q⟩)

def farL : List Nat := 49 :: List.replicate 30 48
def deepL : List Nat := 49 :: List.replicate 999 48
theorem far_add : addX (.str (PySem.Str.ofString "1")) (.str (sMk (List.replicate 30 48))) = some (.str (sMk farL)) := by kernel_rfl
theorem far_mul : mulX (.str (PySem.Str.ofString "0")) (.int 30) = some (.str (sMk (List.replicate 30 48))) := by kernel_rfl
theorem deep_add : addX (.str (PySem.Str.ofString "1")) (.str (sMk (List.replicate 999 48))) = some (.str (sMk deepL)) := by kernel_rfl
theorem deep_mul : mulX (.str (PySem.Str.ofString "0")) (.int 999) = some (.str (sMk (List.replicate 999 48))) := by kernel_rfl
theorem deep_num : isNum deepL = true := by decide +kernel
theorem deep_int : intB [.str (sMk deepL)] = some (.int ((10 ^ 999 : Nat) : Int)) := by kernel_rfl
theorem deep_fig : figL (10 ^ 999) = deepL := of_decide_eq_true (by decide +kernel)
theorem deep_numB : numB ((10 ^ 999 : Nat) : Int) = true := by decide +kernel
theorem deep_str : strB [.int ((10 ^ 999 : Nat) : Int)] = some (.str (sMk deepL)) := by
  show (if numB ((10 ^ 999 : Nat) : Int) = true then some (PyData.str (sMk (figL ((10 ^ 999 : Nat) : Int).toNat))) else none) = _
  rw [if_pos deep_numB, Int.toNat_natCast, deep_fig]
theorem deep_fmt : fmtB (.int ((10 ^ 999 : Nat) : Int)) = some (.str (sMk deepL)) := by
  show (if numB ((10 ^ 999 : Nat) : Int) = true then some (PyData.str (sMk (figL ((10 ^ 999 : Nat) : Int).toNat))) else none) = _
  rw [if_pos deep_numB, Int.toNat_natCast, deep_fig]
theorem pow30 : powD (.int 10) (.int 30) = some (.int 1000000000000000000000000000000) := by kernel_rfl
theorem c1 : g_run_word [.fz (.tuple [])] = some (.ok (.str (sMk [45])), [.fz (.tuple [])]) := by kernel_rfl
theorem c2 : g_run_word [.fz (.tuple [.int 0])] = some (.ok (.str (sMk [48])), [.fz (.tuple [.int 0])]) := by kernel_rfl
theorem c3 : g_run_word [.fz (.list [.int 1, .int 0, .int 12])] = some (.ok (.str (sMk [49, 44, 48, 44, 49, 50])), [.fz (.list [.int 1, .int 0, .int 12])]) := by kernel_rfl
theorem c4 : g_run_read [.fz (.str (PySem.Str.ofString "-"))] = some (.ok (.tuple []), [.fz (.str (PySem.Str.ofString "-"))]) := by kernel_rfl
theorem c5 : g_run_read [.fz (.str (PySem.Str.ofString "0"))] = some (.ok (.tuple [.int 0]), [.fz (.str (PySem.Str.ofString "0"))]) := by kernel_rfl
theorem c6 : g_run_read [.fz (.str (PySem.Str.ofString "1,0,12"))] = some (.ok (.tuple [.int 1, .int 0, .int 12]), [.fz (.str (PySem.Str.ofString "1,0,12"))]) := by kernel_rfl
theorem c7 : g_run_read [.fz (.str (PySem.Str.ofString "1,1,0"))] = some (.ok (.tuple [.int 1, .int 1, .int 0]), [.fz (.str (PySem.Str.ofString "1,1,0"))]) := by kernel_rfl
theorem c8 : g_sum_word [.fz (.tuple [])] = some (.ok (.str (sMk [45])), [.fz (.tuple [])]) := by kernel_rfl
theorem c9 : g_sum_word [.fz (.tuple [.tuple [.int 0, .int 1], .tuple [.int 12, .int 4]])] = some (.ok (.str (sMk [48, 58, 49, 43, 49, 50, 58, 52])), [.fz (.tuple [.tuple [.int 0, .int 1], .tuple [.int 12, .int 4]])]) := by kernel_rfl
theorem c10 : g_sum_word [.fz (.list [.list [.int 2, .int 1]])] = some (.ok (.str (sMk [50, 58, 49])), [.fz (.list [.list [.int 2, .int 1]])]) := by kernel_rfl
theorem c11 : g_sum_read [.fz (.str (PySem.Str.ofString "-"))] = some (.ok (.tuple []), [.fz (.str (PySem.Str.ofString "-"))]) := by kernel_rfl
theorem c12 : g_sum_read [.fz (.str (PySem.Str.ofString "0:1+12:4"))] = some (.ok (.tuple [.tuple [.int 0, .int 1], .tuple [.int 12, .int 4]]), [.fz (.str (PySem.Str.ofString "0:1+12:4"))]) := by kernel_rfl
theorem c13 : g_sum_read [.fz (.str (PySem.Str.ofString "9:1+10:1"))] = some (.ok (.tuple [.tuple [.int 9, .int 1], .tuple [.int 10, .int 1]]), [.fz (.str (PySem.Str.ofString "9:1+10:1"))]) := by kernel_rfl
theorem c14 : g_run_read [.fz (.str (sMk farL))] = some (.ok (.tuple [.int 1000000000000000000000000000000]), [.fz (.str (sMk farL))]) := by kernel_rfl
theorem c15 : g_sum_read [.fz (.str (sMk (farL ++ [58] ++ farL)))] = some (.ok (.tuple [.tuple [.int 1000000000000000000000000000000, .int 1000000000000000000000000000000]]), [.fz (.str (sMk (farL ++ [58] ++ farL)))]) := by kernel_rfl
theorem c16 : g_run_word [.fz (.tuple [.int 1000000000000000000000000000000])] = some (.ok (.str (sMk farL)), [.fz (.tuple [.int 1000000000000000000000000000000])]) := by kernel_rfl

theorem deep_sml : Sml deepL := fun c hc => by
  have := List.all_eq_true.mp (show deepL.all (fun c => decide (c < 200)) = true by decide +kernel) c hc
  exact of_decide_eq_true this
theorem deep_len : deepL.length = 1000 := by decide +kernel
abbrev BIG : PyData := .int ((10 ^ 999 : Nat) : Int)
theorem d_num : g_numbers_of [.fz (.list (fsD [deepL]))] = some (.ok (.tuple [BIG]), [.fz (.list (fsD [deepL]))]) := by kernel_rfl
theorem d_split : splitL 44 deepL = [deepL] := of_decide_eq_true (by decide +kernel)
theorem d_read : ∃ c, g_run_read [.fz (.str (sMk deepL))] = some (.ok (.tuple [BIG]), c) := by
  obtain ⟨c, e⟩ := figures_in_eq deep_sml (by rw [deep_len]; decide) (fun z => by have := congrArg List.length z; rw [deep_len] at this; cases this)
  rw [d_split, if_pos (by simp [deep_num])] at e
  refine w_runE ?_
  simp only [List.length_cons, List.length_nil, List.replicate, List.cons_append, List.nil_append, Nat.reduceAdd, Nat.reduceSub]
  unfold B_run_read
  walk_at "wp"
  refine ⟨_, _, e, ?_⟩
  walk_at "wp"
  refine w_lif (a := PyData.bool false) rfl ?_
  refine w_lif (a := false) rfl ?_
  show Gd (cond false _ _) _ _
  walk_at "wp"
  refine ⟨_, _, d_num, ?_⟩
  exact ⟨rfl, by simp⟩
theorem d_word : g_run_word [.fz (.tuple [BIG])] = some (.ok (.str (sMk deepL)), [.fz (.tuple [BIG])]) := by kernel_rfl
def zdL : List Nat := 48 :: 58 :: deepL
theorem zd_add : addX (.str (PySem.Str.ofString "0:")) (.str (sMk deepL)) = some (.str (sMk zdL)) := by kernel_rfl
theorem zd_sml : Sml zdL := fun c hc => by
  rcases List.mem_cons.mp hc with rfl | hc
  · decide
  · rcases List.mem_cons.mp hc with rfl | hc
    · decide
    · exact deep_sml c hc
theorem zd_qs : qsL zdL = [[[48], deepL]] := of_decide_eq_true (by decide +kernel)
abbrev zS : PyData := .list [.tuple [.str (sMk [48]), .str (sMk deepL)]]
theorem zd_pairs : ∃ c, g_pairs_in [.fz (.str (sMk zdL))] = some (.ok zS, c) := by
  refine w_runE ?_
  simp only [List.length_cons, List.length_nil, List.replicate, List.cons_append, List.nil_append, Nat.reduceAdd, Nat.reduceSub]
  have hl : zdL.length = 1002 := by show (48 :: 58 :: deepL).length = _; rw [List.length_cons, List.length_cons, deep_len]
  refine pairs_pre zd_sml (by rw [hl]; decide) (fun z => by have := congrArg List.length z; rw [hl] at this; cases this) (fun z => ?_) fun _ => ?_
  · rw [zd_qs] at z
    have : ([[[48], deepL]] : List (List (List Nat))).all tstB = true := by
      show (tstB [[48], deepL] && true) = true
      show (isNum [48] && (isNum deepL && !decide (deepL = [48])) && true) = true
      rw [deep_num, decide_eq_false (fun z => by have := congrArg List.length z; rw [deep_len] at this; cases this)]
      rfl
    rw [this] at z
    cases z
  · rw [zd_qs]
    exact ⟨.rt zS, [.fz (.str (sMk zdL)), .fz (.list ([[[48], deepL]].map qD)), .un], by kernel_rfl, rfl, by simp⟩
abbrev zT : PyData := .tuple [.tuple [.int 0, BIG]]
theorem zd_num : g_numbers_of_pairs [.fz zS] = some (.ok zT, [.fz zS]) := by kernel_rfl
theorem zd_read : ∃ c, g_sum_read [.fz (.str (sMk zdL))] = some (.ok zT, c) := by
  obtain ⟨c, e⟩ := zd_pairs
  refine w_runE ?_
  simp only [List.length_cons, List.length_nil, List.replicate, List.cons_append, List.nil_append, Nat.reduceAdd, Nat.reduceSub]
  unfold B_sum_read
  walk_at "wp"
  refine ⟨_, _, e, ?_⟩
  walk_at "wp"
  refine w_lif (a := PyData.bool false) rfl ?_
  refine w_lif (a := false) rfl ?_
  show Gd (cond false _ _) _ _
  walk_at "wp"
  refine ⟨_, _, zd_num, ?_⟩
  exact ⟨rfl, by simp⟩
theorem zd_word : g_sum_word [.fz zT] = some (.ok (.str (sMk zdL)), [.fz zT]) := by kernel_rfl
def okT2 (r : Option (Ans PyData × Sg)) : Bool := match r with
  | some (.ok (.bool true), _) => true
  | _ => false
theorem odd_true : okT2 (g__law_odd_right []) = true := by decide +kernel
end K01
end

section
set_option linter.all false
set_option maxRecDepth 100000
set_option maxHeartbeats 4000000
namespace K01
open PySem PD
theorem cat_ok {xs ys : List PyData} (h : xs.length + ys.length ≤ 1000000) : catL (.list xs) (.list ys) = some (xs ++ ys) := o_cat h
theorem eqS_refl {a : List Nat} (h : Sml a) : eqD (.str (sMk a)) (.str (sMk a)) = some (.bool true) := by
  rw [eqS h h, decide_eq_true rfl]
theorem far_k : addX (.str (sMk farL)) (.str (PySem.Str.ofString ":")) = some (.str (sMk (farL ++ [58]))) := by kernel_rfl
theorem far_kf : addX (.str (sMk (farL ++ [58]))) (.str (sMk farL)) = some (.str (sMk (farL ++ [58] ++ farL))) := by kernel_rfl
theorem far_sml : Sml farL := fun c hc => of_decide_eq_true (List.all_eq_true.mp (show farL.all (fun c => decide (c < 200)) = true by decide +kernel) c hc)
def DUE : List PyData := [.str (sMk [45]), .str (sMk [48]), .str (sMk [49, 44, 48, 44, 49, 50]), .tuple [], .tuple [.int 0], .tuple [.int 1, .int 0, .int 12], .tuple [.int 1, .int 1, .int 0], .str (sMk [45]), .str (sMk [48, 58, 49, 43, 49, 50, 58, 52]), .str (sMk [50, 58, 49]), .tuple [], .tuple [.tuple [.int 0, .int 1], .tuple [.int 12, .int 4]], .tuple [.tuple [.int 9, .int 1], .tuple [.int 10, .int 1]], .tuple [.int 1000000000000000000000000000000], .tuple [.tuple [.int 1000000000000000000000000000000, .int 1000000000000000000000000000000]], .bool true, .bool true, .bool true]
theorem same_of {d e : PyData} (h1 : d = .list DUE) (h2 : e = .list DUE) (hs : Sm 3 (.list DUE)) : g__law_same [.fz d, .fz e] = some (.ok (.bool true), [.fz d, .fz e]) := by
  rw [h1, h2]
  exact same_eq hs 16 (by decide)
theorem sm_due : Sm 3 (.list DUE) := by
  refine .lst (by decide) fun d hd => ?_
  unfold DUE at hd
  simp only [List.mem_cons, List.not_mem_nil, or_false] at hd
  have hi : ∀ (l : List Int) (n : Nat), l.length ≤ 1000000 → Sm (n + 1) (.tuple (l.map .int)) := fun l n hl => .tup (by rw [List.length_map]; exact hl) fun d hd => by
    obtain ⟨x, _, rfl⟩ := List.mem_map.mp hd
    exact .int x
  have hp : ∀ (l : List (List Int)), l.length ≤ 1000 → (∀ x ∈ l, x.length ≤ 1000) → Sm 2 (.tuple (l.map fun x => .tuple (x.map .int))) := fun l hl hx => .tup (by rw [List.length_map]; omega) fun d hd => by
    obtain ⟨x, hx1, rfl⟩ := List.mem_map.mp hd
    exact hi x 0 (by have := hx x hx1; omega)
  rcases hd with rfl | rfl | rfl | rfl | rfl | rfl | rfl | rfl | rfl | rfl | rfl | rfl | rfl | rfl | rfl | rfl | rfl | rfl
  · exact .str _ (by decide +kernel)
  · exact .str _ (by decide +kernel)
  · exact .str _ (by decide +kernel)
  · exact hi [] 1 (by decide)
  · exact hi [0] 1 (by decide)
  · exact hi [1, 0, 12] 1 (by decide)
  · exact hi [1, 1, 0] 1 (by decide)
  · exact .str _ (by decide +kernel)
  · exact .str _ (by decide +kernel)
  · exact .str _ (by decide +kernel)
  · exact hi [] 1 (by decide)
  · exact hp [[0, 1], [12, 4]] (by decide) (by decide)
  · exact hp [[9, 1], [10, 1]] (by decide) (by decide)
  · exact hi [1000000000000000000000000000000] 1 (by decide)
  · exact hp [[1000000000000000000000000000000, 1000000000000000000000000000000]] (by decide) (by decide)
  · exact .bl _
  · exact .bl _
  · exact .bl _
theorem odd_eq : ∃ o, g__law_odd_right [] = some (.ok (.bool true), o) := by
  have h := odd_true
  unfold okT2 at h
  split at h
  · rename_i o e
    exact ⟨o, e⟩
  · cases h
theorem hand_eq : ∃ o, g__law_by_hand_right [] = some (.ok (.bool true), o) := by
  refine w_runE ?_
  simp only [List.length_cons, List.length_nil, List.replicate, List.cons_append, List.nil_append, Nat.reduceAdd, Nat.reduceSub]
  unfold B__law_by_hand_right
  walk_at "wp"
  refine w_lif far_mul ?_
  refine w_lif far_add ?_
  walk_at "wp"
  refine ⟨_, _, c1, ?_⟩
  walk_at "wp"
  refine ⟨_, _, c2, ?_⟩
  walk_at "wp"
  refine w_defK ?_
  walk_at "wp"
  refine ⟨_, rfl, _, _, c3, ?_⟩
  walk_at "wp"
  refine ⟨_, _, c4, ?_⟩
  walk_at "wp"
  refine ⟨_, _, c5, ?_⟩
  walk_at "wp"
  refine ⟨_, _, c6, ?_⟩
  walk_at "wp"
  refine ⟨_, _, c7, ?_⟩
  walk_at "wp"
  refine ⟨_, _, c8, ?_⟩
  walk_at "wp"
  refine ⟨_, _, c9, ?_⟩
  walk_at "wp"
  refine w_defK ?_
  walk_at "wp"
  refine ⟨_, rfl, _, _, c10, ?_⟩
  walk_at "wp"
  refine ⟨_, _, c11, ?_⟩
  walk_at "wp"
  refine ⟨_, _, c12, ?_⟩
  walk_at "wp"
  refine w_lif (cat_ok (by decide)) ?_
  walk_at "wp"
  refine w_lif (cat_ok (by decide)) ?_
  walk_at "wp"
  refine ⟨_, _, c13, ?_⟩
  walk_at "wp"
  refine ⟨_, _, c14, ?_⟩
  walk_at "wp"
  refine w_lif far_k ?_
  walk_at "wp"
  refine w_lif far_kf ?_
  walk_at "wp"
  refine ⟨_, _, c15, ?_⟩
  walk_at "wp"
  refine w_lif pow30 ?_
  walk_at "wp"
  refine ⟨_, _, c16, ?_⟩
  walk_at "wp"
  refine w_lif (eqS_refl far_sml) ?_
  walk_at "wp"
  refine w_lif (cat_ok (by decide)) ?_
  walk_at "wp"
  refine w_lif pow30 ?_
  walk_at "wp"
  refine w_lif pow30 ?_
  walk_at "wp"
  refine w_lif pow30 ?_
  walk_at "wp"
  refine w_lif (cat_ok (by decide)) ?_
  walk_at "wp"
  refine w_lif deep_mul ?_
  refine w_lif deep_add ?_
  walk_at "wp"
  obtain ⟨o1, e1⟩ := d_read
  refine ⟨_, _, e1, ?_⟩
  walk_at "wp"
  refine ⟨_, _, d_word, ?_⟩
  walk_at "wp"
  refine w_lif (eqS_refl deep_sml) ?_
  walk_at "wp"
  refine w_lif zd_add ?_
  walk_at "wp"
  obtain ⟨o2, e2⟩ := zd_read
  refine ⟨_, _, e2, ?_⟩
  walk_at "wp"
  refine ⟨_, _, zd_word, ?_⟩
  walk_at "wp"
  refine w_lif zd_add ?_
  refine w_lif (eqS_refl zd_sml) ?_
  walk_at "wp"
  refine w_lif (cat_ok (by decide)) ?_
  walk_at "wp"
  refine w_lif (cat_ok (by decide)) ?_
  walk_at "wp"
  refine ⟨_, _, same_of (by kernel_rfl) (by kernel_rfl) sm_due, ?_⟩
  obtain ⟨o3, e3⟩ := odd_eq
  refine ⟨_, rfl, ?_⟩
  show Gd (cond true _ _) _ _
  walk_at "wp"
  refine ⟨_, _, e3, ?_⟩
  exact ⟨rfl, by simp⟩
end K01
end

section
set_option linter.all false
set_option maxRecDepth 100000
set_option maxHeartbeats 2000000
namespace K01
open PySem PD
theorem lists_int (k : Nat) (i : Int) : gr__law_lists (k + 1) [.fz (.int i)] = some (.ok (.int i), [.fz (.int i)]) := by
  show runD 2 (B__law_lists (gr__law_lists k)) _ = _
  walk_at "w_run"
  unfold B__law_lists
  walk_at "wp"
  refine w_lif (a := .bool false) rfl ?_
  refine w_lif (a := false) rfl ?_
  show Gd (cond false _ _) _ _
  walk_at "wp"
  exact ⟨rfl, rfl⟩
theorem lists_tup {k : Nat} {ds : List PyData} (f : PyData → PyData) (hz : ds.length ≤ 1000) (h : ∀ d ∈ ds, gr__law_lists k [.fz d] = some (.ok (f d), [.fz d])) : gr__law_lists (k + 1) [.fz (.tuple ds)] = some (.ok (.list (ds.map f)), [.fz (.tuple ds)]) := by
  show runD 2 (B__law_lists (gr__law_lists k)) _ = _
  walk_at "w_run"
  unfold B__law_lists
  walk_at "wp"
  refine w_lif (a := .bool true) rfl ?_
  refine w_lif (a := true) rfl ?_
  show Gd (cond true _ _) _ _
  walk_at "wp"
  refine w_lif (a := ds) rfl ?_
  have q := comp_fun (is := [1]) (set := sName 1) (el := xDef (gr__law_lists k) (bnd (xVar 1) fun d => bnd (PD.ret []) fun ds => PD.ret (d :: ds))) (ds := ds) (δ := [.fz (.tuple ds), .un]) f (by omega) fun d hd => by
    walk_at "wp"
    exact ⟨_, _, h d hd, rfl, rfl, rfl⟩
  refine ⟨rfl, _, _, q, ?_⟩
  walk_at "wp"
  exact ⟨rfl, rfl⟩
theorem lists_row {t : List Nat} (hz : t.length ≤ 100) : ∃ c, g__law_lists [.fz (.tuple (intL t))] = some (.ok (.list (intL t)), c) := by
  have e := lists_tup (k := 15) (ds := intL t) (fun d => d) (by unfold intL; rw [List.length_map]; omega) fun d hd => by
    obtain ⟨n, _, rfl⟩ := List.mem_map.mp hd
    exact lists_int 14 _
  rw [List.map_id'] at e
  exact ⟨_, e⟩
theorem lists_mix {m : List (Nat × Nat)} (hz : m.length ≤ 100) : ∃ c, g__law_lists [.fz (.tuple (m.map prT))] = some (.ok (.list (m.map prLs)), c) := by
  have e := lists_tup (k := 15) (ds := m.map prT) (fun d => match d with | .tuple ds => .list ds | _ => .none) (by rw [List.length_map]; omega) fun d hd => by
    obtain ⟨p, _, rfl⟩ := List.mem_map.mp hd
    have e2 := lists_tup (k := 14) (ds := [.int (p.1 : Int), .int (p.2 : Int)]) (fun d => d) (by simp) fun d hd => by
      simp only [List.mem_cons, List.not_mem_nil, or_false] at hd
      rcases hd with rfl | rfl <;> exact lists_int 13 _
    rw [List.map_id'] at e2
    exact e2
  rw [List.map_map] at e
  exact ⟨_, e⟩
def SG (c : Nat) : Prop := c < 200 ∧ isFig c = false ∧ c ≠ 44 ∧ c ≠ 43 ∧ c ≠ 58
def bentL (l : List Nat) (k c : Nat) : List Nat := l.take k ++ [c] ++ l.drop k
theorem cut_to {l : List Nat} {k : Nat} (hk : k ≤ l.length) (hz : l.length ≤ 100000) : cutSD (.str (sMk l)) none (some (k : Int)) = some (.str (sMk (l.take k))) := by
  show (if l.length ≤ 1000000 then some (PyData.str (sMk ((l.drop (HT.sIx l.length 0 none)).take (HT.sIx l.length l.length (some (k : Int)) - HT.sIx l.length 0 none)))) else none) = _
  rw [if_pos (by omega)]
  have e1 : HT.sIx l.length 0 none = 0 := rfl
  have e2 : HT.sIx l.length l.length (some (k : Int)) = k := by unfold HT.sIx; simp; rw [if_neg (by omega)]; omega
  rw [e1, e2]
  rfl
theorem cut_from {l : List Nat} {k : Nat} (hk : k ≤ l.length) (hz : l.length ≤ 100000) : cutSD (.str (sMk l)) (some (k : Int)) none = some (.str (sMk (l.drop k))) := by
  show (if l.length ≤ 1000000 then some (PyData.str (sMk ((l.drop (HT.sIx l.length 0 (some (k : Int)))).take (HT.sIx l.length l.length none - HT.sIx l.length 0 (some (k : Int)))))) else none) = _
  rw [if_pos (by omega)]
  have e1 : HT.sIx l.length l.length none = l.length := rfl
  have e2 : HT.sIx l.length 0 (some (k : Int)) = k := by unfold HT.sIx; simp; rw [if_neg (by omega)]; omega
  rw [e1, e2, List.take_of_length_le (by rw [List.length_drop]; omega)]
theorem bent_sml {l : List Nat} {k c : Nat} (h : Sml l) (g : SG c) : Sml (bentL l k c) := fun x hx => by
  rcases List.mem_append.mp hx with hx | hx
  · rcases List.mem_append.mp hx with hx | hx
    · exact h x (List.mem_of_mem_take hx)
    · rw [List.mem_singleton.mp hx]; exact g.1
  · exact h x (List.mem_of_mem_drop hx)
theorem bent_len {l : List Nat} {k c : Nat} (hk : k ≤ l.length) : (bentL l k c).length = l.length + 1 := by
  unfold bentL
  simp
  omega
theorem bent_has {l : List Nat} {k c : Nat} : c ∈ bentL l k c := by
  unfold bentL
  simp
theorem bent_ne {l : List Nat} {k c : Nat} (hk : k ≤ l.length) (h : l ≠ []) : bentL l k c ≠ [45] := fun z => by
  have e := congrArg List.length z
  rw [bent_len hk] at e
  have h1 := List.length_pos_iff.mpr h
  simp only [List.length_cons, List.length_nil] at e
  omega
theorem bent_add {l : List Nat} {k c : Nat} (hk : k ≤ l.length) (hz : l.length ≤ 100000) : ∃ x, addX (.str (sMk (l.take k))) (.str (sMk [c])) = some x ∧ addX x (.str (sMk (l.drop k))) = some (.str (sMk (bentL l k c))) := by
  refine ⟨_, addX_str (by show (l.take k).length + 1 ≤ _; rw [List.length_take]; omega), addX_str (by show (l.take k ++ [c]).length + (l.drop k).length ≤ _; rw [List.length_append, List.length_take, List.length_drop]; simp; omega)⟩

def signs : List PyData := [.str (PySem.Str.ofString " "), .str (PySem.Str.ofString "-"), .str (PySem.Str.ofString "a"), .str (PySem.Str.ofString "_"), .str (PySem.Str.ofString "."), .str (PySem.Str.ofString ";"), .str (PySem.Str.ofString "\n")]
theorem sg_of {d : PyData} (h : d ∈ signs) : ∃ c, SG c ∧ d = .str (sMk [c]) := by
  unfold signs at h
  simp only [List.mem_cons, List.not_mem_nil, or_false] at h
  have g : ∀ c, (c < 200 ∧ isFig c = false ∧ c ≠ 44 ∧ c ≠ 43 ∧ c ≠ 58) → SG c := fun c h => h
  rcases h with rfl | rfl | rfl | rfl | rfl | rfl | rfl
  · exact ⟨32, g _ (by decide), by kernel_rfl⟩
  · exact ⟨45, g _ (by decide), by kernel_rfl⟩
  · exact ⟨97, g _ (by decide), by kernel_rfl⟩
  · exact ⟨95, g _ (by decide), by kernel_rfl⟩
  · exact ⟨46, g _ (by decide), by kernel_rfl⟩
  · exact ⟨59, g _ (by decide), by kernel_rfl⟩
  · exact ⟨10, g _ (by decide), by kernel_rfl⟩
theorem W_all {t : List Nat} (h : ∀ n ∈ t, n ∈ ALL) (hz : t.length ≤ 100) : Sml (W t) ∧ W t ≠ [] ∧ (W t).length ≤ 1000 := by
  refine ⟨?_, ?_, W_len h hz⟩
  · cases t with
    | nil => exact sml1 (by decide)
    | cons x r => exact (W_ne h (by simp)).2.1
  · cases t with
    | nil => simp [W]
    | cons x r => exact joinL_ne (by simp) fun l hl => by obtain ⟨n, hn, rfl⟩ := List.mem_map.mp hl; exact (nok (h n hn)).ne
theorem MW_all {m : List (Nat × Nat)} (h : MOk m) : Sml (MW m) ∧ MW m ≠ [] ∧ (MW m).length ≤ 2000 := by
  cases m with
  | nil => exact ⟨sml1 (by decide), by simp [MW], by decide⟩
  | cons x r =>
    have q := MW_ok h (by simp)
    exact ⟨q.2.1, joinL_ne (by simp) pws_ne, q.2.2.2.1⟩
abbrev spotEl : M PyData := xDefO g__law_take 0 (bnd (xBin addX (xCall lenX (bnd (xVar 8) fun d => bnd (PD.ret []) fun ds => PD.ret (d :: ds))) (PD.ret (.int 1))) fun d => bnd (PD.ret []) fun ds => PD.ret (d :: ds))
def PI (ls : List (List Nat)) (N : Int) (r : Sg) (j : Nat) (acc : List PyData) (δ : Sg) : Prop := ∃ (ks : List Nat) (os : List PyData), acc = ks.map (fun (k : Nat) => PyData.int (k : Int)) ∧ ks.length = j ∧ (∀ (i k : Nat) (l : List Nat), ks[i]? = some k → ls[i]? = some l → k ≤ l.length) ∧ Tin (N + j) os ∧ δ = .ow true os :: r
theorem spots_comp {ls : List (List Nat)} {a b c e f g h i : Cell} {N : Int} {os : List PyData} (hl : ∀ l ∈ ls, l.length ≤ 100000) (hz : ls.length ≤ 100) (tn : Tin N os) (hN : N < 100000) :
    ∃ (ks : List Nat) (os' : List PyData), ks.length = ls.length ∧ (∀ (i k : Nat) (l : List Nat), ks[i]? = some k → ls[i]? = some l → k ≤ l.length) ∧ Tin (N + ls.length) os' ∧
      compD [8] (sName 8) (PD.ret true) spotEl (fsD ls) [] [.ow true os, a, b, c, e, f, g, h, .un, i] = some (ks.map (fun (k : Nat) => PyData.int (k : Int)), [.ow true os', a, b, c, e, f, g, h, .un, i]) := by
  obtain ⟨acc, δ, e1, ks, os', rfl, h1, h2, h3, rfl⟩ := comp_inv (is := [8]) (set := sName 8) (el := spotEl) (ds := fsD ls) (acc := []) (δ := [.ow true os, a, b, c, e, f, g, h, .un, i]) (PI ls N [a, b, c, e, f, g, h, .un, i])
    ⟨[], os, rfl, rfl, fun i k l q => by simp at q, by simpa using tn, rfl⟩ (by simp; omega) fun j d hj acc δ hi => by
      obtain ⟨ks, os, rfl, h1, h2, h3, rfl⟩ := hi
      rw [List.getElem?_map] at hj
      obtain ⟨l, hl1, rfl⟩ := Option.map_eq_some_iff.mp hj
      have hjl : j < ls.length := (List.getElem?_eq_some_iff.mp hl1).1
      have hll := hl l (List.mem_of_getElem? hl1)
      obtain ⟨y, δ3, ey, v, os2, rfl, rfl, v0, v1, t2⟩ : Gd spotEl [.ow true os, a, b, c, e, f, g, h, .fz (.str (sMk l)), i] fun y δ3 => ∃ (v : Int) (os2 : List PyData), y = .int v ∧ δ3 = [.ow true os2, a, b, c, e, f, g, h, .fz (.str (sMk l)), i] ∧ 0 ≤ v ∧ v < (l.length : Int) + 1 ∧ Tin (N + j + 1) os2 := by
        unfold spotEl
        refine w_take (k := (l.length : Int) + 1) h3 (by omega) (by omega) (by unfold divOk; simp only [Bool.and_eq_true, decide_eq_true_eq]; omega) ?_ fun v os2 v0 v1 t2 => ⟨v, os2, rfl, rfl, v0, v1, t2⟩
        walk_at "wp"
        refine w_lif (a := PyData.int (l.length : Int)) ?_ ?_
        · show (if l.length ≤ 1000000 then some (PyData.int (l.length : Int)) else none) = _
          rw [if_pos (by omega)]
        walk_at "wp"
        refine w_lif (a := PyData.int ((l.length : Int) + 1)) rfl ?_
        walk_at "wp"
        exact ⟨rfl, rfl⟩
      refine ⟨[.ow true os, a, b, c, e, f, g, h, .fz (.str (sMk l)), i], _, _, rfl, ey, rfl, ks ++ [v.toNat], os2, ?_, by simp [h1], ?_, by rw [Int.natCast_add]; simpa [Int.add_assoc] using t2, rfl⟩
      · rw [List.map_append, List.map_cons, List.map_nil, Int.toNat_of_nonneg v0]
      · intro i k l2 q1 q2
        rcases Nat.lt_or_ge i ks.length with hi | hi
        · rw [List.getElem?_append_left hi] at q1
          exact h2 i k l2 q1 q2
        · have hij : i = j := by
            have := (List.getElem?_eq_some_iff.mp q1).1
            simp at this
            omega
          subst hij
          rw [hl1] at q2
          cases q2
          rw [← h1] at q1
          have : v.toNat = k := by simpa using q1
          omega
  have hfl : (fsD ls).length = ls.length := by rw [List.length_map]
  rw [hfl] at h1 h3
  exact ⟨ks, os', h1, h2, h3, e1⟩
end K01
end

section
set_option linter.all false
set_option maxRecDepth 100000
set_option maxHeartbeats 4000000
namespace K01
open PySem PD
theorem catL4 {xs ys : List PyData} (h : xs.length + ys.length ≤ 1000000) : catL (.list xs) (.list ys) = some (xs ++ ys) := o_cat h
abbrev bentEl : M PyData := xBin addX (xBin addX (xSlS (xVar 8) (PD.ret none) (xPart (xVar 9))) (xVar 6)) (xSlS (xVar 8) (xPart (xVar 9)) (PD.ret none))
theorem case_eq {t : List Nat} (ht : ∀ n ∈ t, n ∈ ALL) (hz : t.length ≤ 100) {m : List (Nat × Nat)} (hm : MOk m) {N : Int} {os : List PyData} (tn : Tin N os) (hN : N < 900) :
    ∃ os', g__law_case_right [.ow true os, .fz (.tuple (intL t)), .fz (.tuple (m.map prT))] = some (.ok (.bool true), [.ow true os', .fz (.tuple (intL t)), .fz (.tuple (m.map prT))]) := by
  obtain ⟨q1, e1⟩ := row_word_eq ht hz
  obtain ⟨q2, e2⟩ := mix_word_eq hm
  obtain ⟨q3, e3⟩ := run_word_eq (.inl rfl) ht hz
  obtain ⟨q4, e4⟩ := lists_row (t := t) hz
  obtain ⟨q5, e5⟩ := run_word_eq (.inr rfl) ht hz
  obtain ⟨q6, e6⟩ := sum_word_eq (.inl rfl) (.inl rfl) hm
  obtain ⟨q7, e7⟩ := lists_mix (m := m) hm.len
  obtain ⟨q8, e8⟩ := sum_word_eq (.inr rfl) (.inr rfl) hm
  obtain ⟨q9, e9⟩ := run_read_good ht hz
  obtain ⟨q10, e10⟩ := sum_read_good hm
  obtain ⟨w1, w2, w3⟩ := W_all ht hz
  obtain ⟨m1, m2, m3⟩ := MW_all hm
  have hsm : Sm 4 (.list [.str (sMk (W t)), .str (sMk (W t)), .str (sMk (MW m)), .str (sMk (MW m)), .tuple (intL t), .tuple (m.map prT)]) := .lst (by simp) fun x hx => by
    simp only [List.mem_cons, List.not_mem_nil, or_false] at hx
    rcases hx with rfl | rfl | rfl | rfl | rfl | rfl
    · exact .str _ (strOk_small w1)
    · exact .str _ (strOk_small w1)
    · exact .str _ (strOk_small m1)
    · exact .str _ (strOk_small m1)
    · refine .tup (by unfold intL; rw [List.length_map]; omega) fun d hd => ?_
      obtain ⟨n, _, rfl⟩ := List.mem_map.mp hd
      exact .int _
    · refine .tup (by rw [List.length_map]; have := hm.len; omega) fun d hd => ?_
      obtain ⟨p, _, rfl⟩ := List.mem_map.mp hd
      refine .tup (by simp) fun d hd => ?_
      simp only [List.mem_cons, List.not_mem_nil, or_false] at hd
      rcases hd with rfl | rfl <;> exact .int _
  have hs1 := same_eq hsm 16 (by omega)
  suffices H : Gd B__law_case_right [.ow true os, .fz (.tuple (intL t)), .fz (.tuple (m.map prT)), .un, .un, .un, .un, .un, .un, .un] (fun fl δ' => fl = .rt (.bool true) ∧ ∃ os', keepO [.ow true os, .fz (.tuple (intL t)), .fz (.tuple (m.map prT))] δ' = some [.ow true os', .fz (.tuple (intL t)), .fz (.tuple (m.map prT))]) by
    obtain ⟨fl, δ', e, rfl, os', h⟩ := H
    exact ⟨os', w_runD ⟨_, _, e, rfl, h⟩⟩
  unfold B__law_case_right
  walk_at "wp"
  refine ⟨_, _, e1, ?_⟩
  walk_at "wp"
  refine ⟨_, _, e2, ?_⟩
  walk_at "wp"
  refine ⟨_, _, e3, ?_⟩
  walk_at "wp"
  refine w_defK ?_
  walk_at "wp"
  refine ⟨_, _, e4, ?_⟩
  walk_at "wp"
  refine ⟨_, rfl, _, _, e5, ?_⟩
  walk_at "wp"
  refine ⟨_, _, e6, ?_⟩
  walk_at "wp"
  refine w_defK ?_
  walk_at "wp"
  refine ⟨_, _, e7, ?_⟩
  walk_at "wp"
  refine ⟨_, rfl, _, _, e8, ?_⟩
  walk_at "wp"
  refine w_lif (a := PyData.str (sMk (W t))) rfl ?_
  walk_at "wp"
  refine ⟨_, _, e9, ?_⟩
  walk_at "wp"
  refine w_lif (a := PyData.str (sMk (MW m))) rfl ?_
  walk_at "wp"
  refine ⟨_, _, e10, ?_⟩
  walk_at "wp"
  refine w_lif (catL4 (by simp)) ?_
  walk_at "wp"
  refine w_lif (a := PyData.str (sMk (W t))) rfl ?_
  walk_at "wp"
  refine w_lif (a := PyData.str (sMk (W t))) rfl ?_
  walk_at "wp"
  refine w_lif (a := PyData.str (sMk (MW m))) rfl ?_
  walk_at "wp"
  refine w_lif (a := PyData.str (sMk (MW m))) rfl ?_
  walk_at "wp"
  refine ⟨_, _, hs1, ?_⟩
  refine w_lif (a := true) rfl ?_
  show Gd (cond false _ _) _ _
  walk_at "wp"
  refine w_lif rfl ?_
  obtain ⟨ks, os1, k1, k2, t1, q⟩ := spots_comp (ls := [W t, MW m]) (a := .fz (.tuple (intL t))) (b := .fz (.tuple (m.map prT))) (c := .fz (.list [.str (sMk (W t)), .str (sMk (MW m))])) (e := .fz (.list [.str (sMk (W t)), .str (sMk (W t)), .str (sMk (MW m)), .str (sMk (MW m)), .tuple (intL t), .tuple (m.map prT)])) (f := .un) (g := .un) (h := .un) (i := .un)
    (fun l hl => by
      simp only [List.mem_cons, List.not_mem_nil, or_false] at hl
      rcases hl with rfl | rfl <;> omega) (by simp) tn (by omega)
  obtain ⟨ka, kb, rfl⟩ : ∃ ka kb, ks = [ka, kb] := by
    match ks, k1 with
    | [x, y], _ => exact ⟨x, y, rfl⟩
  have la := k2 0 ka (W t) rfl rfl
  have lb := k2 1 kb (MW m) rfl rfl
  refine ⟨rfl, _, _, q, ?_⟩
  walk_at "wp"
  show Gs (sName 5) _ [.ow true os1, .fz (.tuple (intL t)), .fz (.tuple (m.map prT)), .fz (.list [.str (sMk (W t)), .str (sMk (MW m))]), .fz (.list [.str (sMk (W t)), .str (sMk (W t)), .str (sMk (MW m)), .str (sMk (MW m)), .tuple (intL t), .tuple (m.map prT)]), .un, .un, .un, .un, .un] _
  walk_at "wp"
  refine w_defO .z ?_
  walk_at "wp"
  obtain ⟨d, hd, os2, eof, t2⟩ := of_eq (xs := signs) t1 (by simp; omega) (by decide) (by decide)
  refine ⟨_, _, _, _, _, _, _, .z, eof, .z, ?_⟩
  obtain ⟨c, sg, rfl⟩ := sg_of hd
  walk_at "wp"
  have hz2 : listZipD [.list [.str (sMk (W t)), .str (sMk (MW m))], .list [.int (ka : Int), .int (kb : Int)]] = some [.tuple [.str (sMk (W t)), .int (ka : Int)], .tuple [.str (sMk (MW m)), .int (kb : Int)]] := rfl
  refine w_lif hz2 ?_
  walk_at "wp"
  refine w_lif rfl ?_
  have qb := comp_fun (is := [8, 9]) (set := sTup 2 (sCons (sName 8) (sCons (sName 9) sNil))) (el := bentEl) (ds := [.tuple [.str (sMk (W t)), .int (ka : Int)], .tuple [.str (sMk (MW m)), .int (kb : Int)]])
    (δ := [.ow true os2, .fz (.tuple (intL t)), .fz (.tuple (m.map prT)), .fz (.list [.str (sMk (W t)), .str (sMk (MW m))]), .fz (.list [.str (sMk (W t)), .str (sMk (W t)), .str (sMk (MW m)), .str (sMk (MW m)), .tuple (intL t), .tuple (m.map prT)]), .fz (.list [.int (ka : Int), .int (kb : Int)]), .fz (.str (sMk [c])), .un, .un, .un])
    (fun d => match d with | .tuple [.str s, .int k] => .str (sMk (bentL s.cps.toList k.toNat c)) | _ => .none) (by simp) fun d hd => by
      obtain ⟨l, k, hk, hl, rfl⟩ : ∃ (l : List Nat) (k : Nat), k ≤ l.length ∧ l.length ≤ 100000 ∧ d = .tuple [.str (sMk l), .int (k : Int)] := by
        simp only [List.mem_cons, List.not_mem_nil, or_false] at hd
        rcases hd with rfl | rfl
        · exact ⟨W t, ka, la, by omega, rfl⟩
        · exact ⟨MW m, kb, lb, by omega, rfl⟩
      refine ⟨[.ow true os2, .fz (.tuple (intL t)), .fz (.tuple (m.map prT)), .fz (.list [.str (sMk (W t)), .str (sMk (MW m))]), .fz (.list [.str (sMk (W t)), .str (sMk (W t)), .str (sMk (MW m)), .str (sMk (MW m)), .tuple (intL t), .tuple (m.map prT)]), .fz (.list [.int (ka : Int), .int (kb : Int)]), .fz (.str (sMk [c])), .un, .fz (.str (sMk l)), .fz (.int (k : Int))], rfl, ?_⟩
      obtain ⟨x, x1, x2⟩ := bent_add (c := c) hk hl
      unfold bentEl
      walk_at "wp"
      refine w_slS ?_
      walk_at "wp"
      refine ⟨_, rfl, ?_⟩
      refine w_lif (cut_to hk hl) ?_
      walk_at "wp"
      refine w_lif x1 ?_
      refine w_slS ?_
      walk_at "wp"
      refine ⟨_, rfl, ?_⟩
      walk_at "wp"
      refine w_lif (cut_from hk hl) ?_
      refine w_lif x2 ?_
      exact ⟨rfl, rfl, rfl⟩
  refine ⟨rfl, _, _, qb, ?_⟩
  obtain ⟨o1, b1⟩ := run_read_bad (bent_sml (k := ka) w1 sg) (by rw [bent_len la]; omega) (bent_ne la w2) bent_has sg.2.1 sg.2.2.1
  obtain ⟨o2, b2⟩ := sum_read_bad (bent_sml (k := kb) m1 sg) (by rw [bent_len lb]; omega) (bent_ne lb m2) bent_has sg.2.1 sg.2.2.2.1 sg.2.2.2.2
  walk_at "wp"
  show Gs (sName 7) _ [.ow true os2, .fz (.tuple (intL t)), .fz (.tuple (m.map prT)), .fz (.list [.str (sMk (W t)), .str (sMk (MW m))]), .fz (.list [.str (sMk (W t)), .str (sMk (W t)), .str (sMk (MW m)), .str (sMk (MW m)), .tuple (intL t), .tuple (m.map prT)]), .fz (.list [.int (ka : Int), .int (kb : Int)]), .fz (.str (sMk [c])), .un, .un, .un] _
  walk_at "wp"
  refine w_lif (a := PyData.str (sMk (bentL (W t) ka c))) rfl ?_
  walk_at "wp"
  refine ⟨_, _, b1, ?_⟩
  walk_at "wp"
  refine w_lif (a := PyData.str (sMk (bentL (MW m) kb c))) rfl ?_
  walk_at "wp"
  refine ⟨_, _, b2, ?_⟩
  walk_at "wp"
  have hs2 := same_eq (n := 1) (d := .list [.none, .none]) (.lst (by simp) fun x hx => by
    simp only [List.mem_cons, List.not_mem_nil, or_false] at hx
    rcases hx with rfl | rfl <;> exact .non) 16 (by omega)
  refine ⟨_, _, hs2, ?_⟩
  exact ⟨rfl, os2, rfl⟩
end K01
end

section
set_option linter.all false
set_option maxRecDepth 100000
set_option maxHeartbeats 4000000
namespace K01
open PySem PD
theorem comp_invT {is : List Nat} {set : Tg} {t : M Bool} {el : M PyData} : ∀ {ds : List PyData} {acc : List PyData} {δ : Sg} (I : Nat → List PyData → Sg → Prop), I 0 acc δ → acc.length + ds.length ≤ 1000000 →
    (∀ (j : Nat) (d : PyData), ds[j]? = some d → ∀ acc δ, I j acc δ → ∃ δ1 b δ2, set d δ = some δ1 ∧ t δ1 = some (.ok b, δ2) ∧ (b = false → noOw δ2 is = true ∧ I (j + 1) acc (wipeD δ2 is)) ∧ (b = true → ∃ y δ3, el δ2 = some (.ok y, δ3) ∧ noOw δ3 is = true ∧ I (j + 1) (acc ++ [y]) (wipeD δ3 is))) →
    ∃ acc' δ', compD is set t el ds acc δ = some (acc', δ') ∧ I ds.length acc' δ'
  | [], acc, δ, I, h0, _, _ => ⟨acc, δ, rfl, h0⟩
  | d :: ds, acc, δ, I, h0, hl, step => by
    obtain ⟨δ1, b, δ2, e1, e2, hf, ht⟩ := step 0 d rfl acc δ h0
    have hz : acc.length < sizeLine := by
      have : (1000000 : Nat) ≤ sizeLine := le_line (Nat.le_refl _)
      simp at hl
      omega
    cases b with
    | false =>
      obtain ⟨n, h1⟩ := hf rfl
      obtain ⟨acc', δ', e3, h2⟩ := comp_invT (ds := ds) (acc := acc) (δ := wipeD δ2 is) (fun j => I (j + 1)) h1 (by simp at hl; omega) fun j d' q a δ hi => step (j + 1) d' (by simpa using q) a δ hi
      refine ⟨acc', δ', ?_, h2⟩
      show (match set d δ with
        | none => none
        | some δ1 => _) = _
      rw [e1]
      dsimp only
      rw [e2]
      dsimp only
      rw [if_pos n]
      exact e3
    | true =>
      obtain ⟨y, δ3, e4, n, h1⟩ := ht rfl
      obtain ⟨acc', δ', e3, h2⟩ := comp_invT (ds := ds) (acc := acc ++ [y]) (δ := wipeD δ3 is) (fun j => I (j + 1)) h1 (by simp at hl ⊢; omega) fun j d' q a δ hi => step (j + 1) d' (by simpa using q) a δ hi
      refine ⟨acc', δ', ?_, h2⟩
      show (match set d δ with
        | none => none
        | some δ1 => _) = _
      rw [e1]
      dsimp only
      rw [e2]
      dsimp only
      rw [e4]
      dsimp only
      rw [if_pos ⟨hz, n⟩]
      exact e3
/-- so many of a list, drawn -/
theorem comp_of {b : Bool} {i : Nat} {r : Sg} {fs : M (List PyData)} {xs : List PyData} (rv : PyData → Sg) (hs : ∀ os d, sName i d (.ow b os :: r) = some (.ow b os :: rv d)) (hw : ∀ os d, wipeD (.ow b os :: rv d) [i] = .ow b os :: r) (hn : ∀ os d, noOw (.ow b os :: rv d) [i] = true)
    (he : ∀ os d, Gd fs (.ow b os :: rv d) fun ds δ1 => ds = [.list xs] ∧ δ1 = .ow b os :: rv d) (h0 : 0 < xs.length) (h1 : xs.length < 1000000) {N : Int} {os ds : List PyData} (t : Tin N os) (hN : 0 ≤ N) (hl : N + ds.length < 1000000) :
    ∃ (l : List PyData) (os' : List PyData), l.length = ds.length ∧ (∀ d ∈ l, d ∈ xs) ∧ Tin (N + ds.length) os' ∧ compD [i] (sName i) (PD.ret true) (xDefO g__law_of 0 fs) ds [] (.ow b os :: r) = some (l, .ow b os' :: r) := by
  obtain ⟨acc, δ', e, l, os', rfl, hj, hr, t', rfl⟩ := comp_inv (is := [i]) (set := sName i) (el := xDefO g__law_of 0 fs) (ds := ds) (acc := []) (δ := .ow b os :: r)
    (fun j acc δ => ∃ (l : List PyData) (os' : List PyData), acc = l ∧ l.length = j ∧ (∀ d ∈ l, d ∈ xs) ∧ Tin (N + j) os' ∧ δ = .ow b os' :: r)
    ⟨[], os, rfl, rfl, (fun x h => absurd h (List.not_mem_nil)), by simpa using t, rfl⟩ (by simp; omega) fun j d hj acc δ ⟨l, os', ea, el, hr, t', ed⟩ => by
      subst ea ed
      have hj' : j < ds.length := (List.getElem?_eq_some_iff.mp hj).1
      obtain ⟨x, hx, os2, eo, t2⟩ := of_eq (xs := xs) t' (by omega) h0 h1
      have hg : Gd (xDefO g__law_of 0 fs) (.ow b os' :: rv d) fun y δ3 => y = x ∧ δ3 = .ow b os2 :: rv d := by
        refine w_defO .z ((he os' d).imp fun ds δ1 q => ?_)
        obtain ⟨rfl, rfl⟩ := q
        exact ⟨_, _, _, _, _, _, _, .z, eo, .z, rfl, rfl⟩
      obtain ⟨y, δ3, e, rfl, rfl⟩ := hg
      refine ⟨_, _, _, hs os' d, e, hn _ _, acc ++ [y], os2, by simp, by simp [el], ?_, by rw [Int.natCast_add]; simpa [Int.add_assoc] using t2, hw _ _⟩
      intro z hz
      rcases List.mem_append.mp hz with hz | hz
      · exact hr z hz
      · rw [List.mem_singleton.mp hz]
        exact hx
  exact ⟨acc, os', hj, hr, t', e⟩

def GL : List Nat := [0, 1, 2, 9, 1000000]
def GI (N : Int) (a : Cell) (j : Nat) (acc : List PyData) (δ : Sg) : Prop := ∃ (ks : List Nat) (os : List PyData), acc = intL ks ∧ (∀ k ∈ ks, k ∈ GL) ∧ ks.Pairwise (· < ·) ∧ (∀ k ∈ ks, ∀ x ∈ GL.drop j, k < x) ∧ ks.length ≤ j ∧ Tin (N + j) os ∧ δ = [.ow true os, a, .un, .un, .un]
abbrev gT : M Bool := xBool (xBin eqD (xDefO g__law_take 0 (bnd (PD.ret (.int 2)) fun d => bnd (PD.ret []) fun ds => PD.ret (d :: ds))) (PD.ret (.int 0)))
theorem g_test {N : Int} {os : List PyData} {a b c d : Cell} (t : Tin N os) (hN : N < 1000000) : ∃ (v : Bool) (os' : List PyData), gT [.ow true os, a, b, c, d] = some (.ok v, [.ow true os', a, b, c, d]) ∧ Tin (N + 1) os' := by
  suffices h : Gd gT [.ow true os, a, b, c, d] fun v δ => ∃ os', δ = [.ow true os', a, b, c, d] ∧ Tin (N + 1) os' by
    obtain ⟨v, δ, e1, os', rfl, t'⟩ := h
    exact ⟨v, os', e1, t'⟩
  unfold gT
  walk_at "wp"
  refine w_take (k := 2) t hN (by decide) (by decide) (by walk_at "wp"; exact ⟨rfl, rfl⟩) fun v os' h0 h1 t' => ?_
  walk_at "wp"
  refine w_lif (o_eqI _ _) ?_
  walk_at "wp"
  refine w_lif (a := decide (v = 0)) rfl ?_
  exact ⟨os', rfl, t'⟩
theorem gl_asc : ∀ j g, GL[j]? = some g → ∀ x ∈ GL.drop (j + 1), g < x := by
  intro j g hj x hx
  have hl : j < 5 := (List.getElem?_eq_some_iff.mp hj).1
  have : ((List.range 5).all fun j => match GL[j]? with | some g => (GL.drop (j + 1)).all fun x => decide (g < x) | none => true) = true := by decide +kernel
  have q := List.all_eq_true.mp this j (List.mem_range.mpr hl)
  rw [hj] at q
  exact of_decide_eq_true (List.all_eq_true.mp q x hx)
theorem goods_comp {N : Int} {os : List PyData} {a : Cell} (tn : Tin N os) (hN : N < 900000) :
    ∃ (ks : List Nat) (os' : List PyData), (∀ k ∈ ks, k ∈ GL) ∧ ks.Pairwise (· < ·) ∧ ks.length ≤ 5 ∧ Tin (N + 5) os' ∧ compD [4] (sName 4) gT (xVar 4) (intL GL) [] [.ow true os, a, .un, .un, .un] = some (intL ks, [.ow true os', a, .un, .un, .un]) := by
  obtain ⟨acc, δ, e, ks, os', rfl, h1, h2, h3, h4, h5, rfl⟩ := comp_invT (is := [4]) (set := sName 4) (t := gT) (el := xVar 4) (ds := intL GL) (acc := []) (δ := [.ow true os, a, .un, .un, .un]) (GI N a)
    ⟨[], os, rfl, fun q h => absurd h List.not_mem_nil, List.Pairwise.nil, fun q h => absurd h List.not_mem_nil, Nat.le_refl _, by simpa using tn, rfl⟩ (by decide) fun j d hj acc δ hi => by
      obtain ⟨ks, os, rfl, h1, h2, h3, h4, h5, rfl⟩ := hi
      unfold intL at hj
      rw [List.getElem?_map] at hj
      obtain ⟨g, hg, rfl⟩ := Option.map_eq_some_iff.mp hj
      have hjl : j < 5 := (List.getElem?_eq_some_iff.mp hg).1
      obtain ⟨hjg, egj⟩ := List.getElem?_eq_some_iff.mp hg
      have hd : GL.drop j = g :: GL.drop (j + 1) := by rw [← egj]; exact List.drop_eq_getElem_cons hjg
      obtain ⟨v, os1, e1, t1⟩ := g_test (a := a) (b := .un) (c := .un) (d := .fz (.int (g : Int))) h5 (by omega)
      refine ⟨[.ow true os, a, .un, .un, .fz (.int (g : Int))], v, _, rfl, e1, fun hv => ?_, fun hv => ?_⟩
      · refine ⟨rfl, ks, os1, rfl, h1, h2, fun k hk x hx => h3 k hk x (by rw [hd]; exact List.mem_cons_of_mem _ hx), by omega, by rw [Int.natCast_add]; simpa [Int.add_assoc] using t1, rfl⟩
      · refine ⟨.int (g : Int), _, rfl, rfl, ks ++ [g], os1, by unfold intL; simp, fun k hk => ?_, ?_, fun k hk x hx => ?_, by simp; omega, by rw [Int.natCast_add]; simpa [Int.add_assoc] using t1, rfl⟩
        · rcases List.mem_append.mp hk with hk | hk
          · exact h1 k hk
          · rw [List.mem_singleton.mp hk]; exact List.mem_of_getElem? hg
        · rw [List.pairwise_append]
          refine ⟨h2, List.pairwise_singleton _ _, fun x hx y hy => ?_⟩
          rw [List.mem_singleton.mp hy]
          exact h3 x hx g (by rw [hd]; exact List.mem_cons_self ..)
        · rcases List.mem_append.mp hk with hk | hk
          · exact h3 k hk x (by rw [hd]; exact List.mem_cons_of_mem _ hx)
          · rw [List.mem_singleton.mp hk]; exact gl_asc j g hg x hx
  exact ⟨ks, os', h1, h2, h4, h5, e⟩
def vals4 : List PyData := [.int 1, .int 2, .int 4, .int 10]
theorem val_of {d : PyData} (h : d ∈ vals4) : ∃ n : Nat, d = .int (n : Int) ∧ n ∈ ALL ∧ n ≠ 0 := by
  unfold vals4 at h
  simp only [List.mem_cons, List.not_mem_nil, or_false] at h
  rcases h with rfl | rfl | rfl | rfl
  · exact ⟨1, rfl, by decide, by decide⟩
  · exact ⟨2, rfl, by decide, by decide⟩
  · exact ⟨4, rfl, by decide, by decide⟩
  · exact ⟨10, rfl, by decide, by decide⟩
abbrev mEl : M PyData := xTup (bnd (xVar 4) fun d => bnd (bnd (xDefO g__law_of 0 (bnd (bnd (xLst (bnd (PD.ret (.int 1)) fun d => bnd (bnd (PD.ret (.int 2)) fun d => bnd (bnd (PD.ret (.int 4)) fun d => bnd (bnd (PD.ret (.int 10)) fun d => bnd (PD.ret []) fun ds => PD.ret (d :: ds)) fun ds => PD.ret (d :: ds)) fun ds => PD.ret (d :: ds)) fun ds => PD.ret (d :: ds))) fun ds => PD.ret (.list ds)) fun d => bnd (PD.ret []) fun ds => PD.ret (d :: ds))) fun d => bnd (PD.ret []) fun ds => PD.ret (d :: ds)) fun ds => PD.ret (d :: ds))
def MI (ks : List Nat) (N : Int) (a b : Cell) (j : Nat) (acc : List PyData) (δ : Sg) : Prop := ∃ (m : List (Nat × Nat)) (os : List PyData), acc = m.map prT ∧ m.map Prod.fst = ks.take j ∧ (∀ p ∈ m, p.2 ∈ ALL ∧ p.2 ≠ 0) ∧ Tin (N + j) os ∧ δ = [.ow true os, a, b, .un, .un]
theorem mixs_comp {ks : List Nat} (hz : ks.length ≤ 5) {N : Int} {os : List PyData} {a b : Cell} (tn : Tin N os) (hN : N < 900000) :
    ∃ (m : List (Nat × Nat)) (os' : List PyData), m.map Prod.fst = ks ∧ (∀ p ∈ m, p.2 ∈ ALL ∧ p.2 ≠ 0) ∧ Tin (N + ks.length) os' ∧ compD [4] (sName 4) (PD.ret true) mEl (intL ks) [] [.ow true os, a, b, .un, .un] = some (m.map prT, [.ow true os', a, b, .un, .un]) := by
  obtain ⟨acc, δ, e, m, os', rfl, h1, h2, h3, rfl⟩ := comp_inv (is := [4]) (set := sName 4) (el := mEl) (ds := intL ks) (acc := []) (δ := [.ow true os, a, b, .un, .un]) (MI ks N a b)
    ⟨[], os, rfl, rfl, fun q h => absurd h List.not_mem_nil, by simpa using tn, rfl⟩ (by unfold intL; simp; omega) fun j d hj acc δ hi => by
      obtain ⟨m, os, rfl, h1, h2, h3, rfl⟩ := hi
      unfold intL at hj
      rw [List.getElem?_map] at hj
      obtain ⟨g, hg, rfl⟩ := Option.map_eq_some_iff.mp hj
      have hjl : j < ks.length := (List.getElem?_eq_some_iff.mp hg).1
      obtain ⟨d, hd, os2, eof, t2⟩ := of_eq (xs := vals4) h3 (by omega) (by decide) (by decide)
      obtain ⟨n, rfl, n1, n2⟩ := val_of hd
      obtain ⟨y, δ3, ey, rfl, rfl⟩ : Gd mEl [.ow true os, a, b, .un, .fz (.int (g : Int))] fun y δ3 => y = prT (g, n) ∧ δ3 = [.ow true os2, a, b, .un, .fz (.int (g : Int))] := by
        unfold mEl
        walk_at "wp"
        refine w_defO .z ?_
        walk_at "wp"
        refine ⟨_, _, _, _, _, _, _, .z, eof, .z, ?_⟩
        walk_at "wp"
        exact ⟨rfl, rfl⟩
      refine ⟨[.ow true os, a, b, .un, .fz (.int (g : Int))], _, _, rfl, ey, rfl, m ++ [(g, n)], os2, by simp, ?_, fun p hp => ?_, by rw [Int.natCast_add]; simpa [Int.add_assoc] using t2, rfl⟩
      · rw [List.map_append, h1, List.take_add_one, hg]
        rfl
      · rcases List.mem_append.mp hp with hp | hp
        · exact h2 p hp
        · rw [List.mem_singleton.mp hp]; exact ⟨n1, n2⟩
  have hl : (intL ks).length = ks.length := by unfold intL; rw [List.length_map]
  rw [hl] at h1 h3
  rw [List.take_length] at h1
  exact ⟨m, os', h1, h2, h3, e⟩
end K01
end

section
set_option linter.all false
set_option maxRecDepth 100000
set_option maxHeartbeats 4000000
namespace K01
open PySem PD
abbrev fs6 : M (List PyData) := (bnd (bnd (xLst (bnd (PD.ret (.int 0)) fun d => bnd (bnd (PD.ret (.int 0)) fun d => bnd (bnd (PD.ret (.int 1)) fun d => bnd (bnd (PD.ret (.int 2)) fun d => bnd (bnd (PD.ret (.int 10)) fun d => bnd (bnd (xBin powD (PD.ret (.int 10)) (PD.ret (.int 6))) fun d => bnd (PD.ret []) fun ds => PD.ret (d :: ds)) fun ds => PD.ret (d :: ds)) fun ds => PD.ret (d :: ds)) fun ds => PD.ret (d :: ds)) fun ds => PD.ret (d :: ds)) fun ds => PD.ret (d :: ds))) fun ds => PD.ret (.list ds)) fun d => bnd (PD.ret []) fun ds => PD.ret (d :: ds))
theorem pow6 : powD (.int 10) (.int 6) = some (.int 1000000) := by kernel_rfl
def r6 : List PyData := [.int 0, .int 0, .int 1, .int 2, .int 10, .int 1000000]
theorem row_pick {l : List PyData} (h : ∀ d ∈ l, d ∈ r6) : ∃ t : List Nat, t.length = l.length ∧ l = intL t ∧ ∀ x ∈ t, x ∈ ALL := by
  induction l with
  | nil => exact ⟨[], rfl, rfl, fun x hx => absurd hx List.not_mem_nil⟩
  | cons d l ih =>
    obtain ⟨t, e, e2, ht⟩ := ih fun d hd => h d (List.mem_cons_of_mem _ hd)
    have hd : ∃ n : Nat, d = .int (n : Int) ∧ n ∈ ALL := by
      have := h d (List.mem_cons_self ..)
      unfold r6 at this
      simp only [List.mem_cons, List.not_mem_nil, or_false] at this
      rcases this with rfl | rfl | rfl | rfl | rfl | rfl
      · exact ⟨0, rfl, by decide⟩
      · exact ⟨0, rfl, by decide⟩
      · exact ⟨1, rfl, by decide⟩
      · exact ⟨2, rfl, by decide⟩
      · exact ⟨10, rfl, by decide⟩
      · exact ⟨1000000, rfl, by decide⟩
    obtain ⟨n, rfl, hn⟩ := hd
    refine ⟨n :: t, by simp [e], by rw [e2]; rfl, fun x hx => ?_⟩
    rcases List.mem_cons.mp hx with rfl | hx
    · exact hn
    · exact ht x hx
theorem gl_all {k : Nat} (h : k ∈ GL) : k ∈ ALL := by
  unfold GL at h
  simp only [List.mem_cons, List.not_mem_nil, or_false] at h
  rcases h with rfl | rfl | rfl | rfl | rfl <;> decide
theorem right_all {os : List PyData} {N : Int} (tn : Tin N os) (h0 : 0 ≤ N) (h1 : N < 800) : ∃ o, g__law_right [.ow true os] = some (.ok (.bool true), o) := by
  refine w_runE ?_
  simp only [List.length_cons, List.length_nil, List.replicate, List.cons_append, List.nil_append, Nat.reduceAdd, Nat.reduceSub]
  unfold B__law_right
  walk_at "wp"
  refine w_take (k := 7) tn (by omega) (by decide) (by decide) (by walk_at "wp"; exact ⟨rfl, rfl⟩) fun v os1 a0 a1 t1 => ?_
  walk_at "wp"
  refine w_lif (range_take (by omega) (by omega)) ?_
  obtain ⟨l, os2, hl, hm, t2, q2⟩ := comp_of (b := true) (i := 3) (r := [.un, .un, .un, .un]) (fs := fs6) (xs := r6) (fun y => [.un, .un, .fz y, .un]) (fun _ _ => rfl) (fun _ _ => rfl) (fun _ _ => rfl)
    (fun _ _ => by unfold fs6; walk_at "wp"; refine w_lif pow6 ?_; walk_at "wp"; exact ⟨rfl, rfl⟩) (by decide) (by decide) t1 (by omega) (ds := rangeL 0 v.toNat) (by rw [rangeL_length]; omega)
  rw [rangeL_length] at hl t2
  refine ⟨rfl, _, _, q2, ?_⟩
  obtain ⟨t, ht1, rfl, ht2⟩ := row_pick hm
  walk_at "wp"
  refine w_lif rfl ?_
  show Gs (sName 1) _ [.ow true os2, .un, .un, .un, .un] _
  walk_at "wp"
  refine w_lif (a := PyData.int 1000000) pow6 ?_
  walk_at "wp"
  refine w_lif (a := intL GL) rfl ?_
  obtain ⟨ks, os3, k1, k2, k3, t3, q3⟩ := goods_comp (a := .fz (.tuple (intL t))) t2 (by omega)
  refine ⟨rfl, _, _, q3, ?_⟩
  walk_at "wp"
  show Gs (sName 2) _ [.ow true os3, .fz (.tuple (intL t)), .un, .un, .un] _
  walk_at "wp"
  refine w_defO .z ?_
  walk_at "wp"
  refine w_lif (a := intL ks) rfl ?_
  obtain ⟨m, os4, m1, m2, t4, q4⟩ := mixs_comp (ks := ks) k3 (a := .fz (.tuple (intL t))) (b := .fz (.list (intL ks))) t3 (by omega)
  refine ⟨rfl, _, _, q4, ?_⟩
  walk_at "wp"
  refine w_lif rfl ?_
  walk_at "wp"
  have hm2 : MOk m := ⟨fun p hp => gl_all (k1 _ (by rw [← m1]; exact List.mem_map.mpr ⟨p, hp, rfl⟩)), m2, by rw [m1]; exact k2, by have := congrArg List.length m1; rw [List.length_map] at this; omega⟩
  obtain ⟨os5, e5⟩ := case_eq ht2 (by omega) hm2 t4 (by omega)
  exact ⟨_, _, _, _, _, _, _, .z, e5, .z, rfl, by simp [backD]⟩
theorem cut_take {ns : List Int} : cutD (ns.map PyData.int) none (some 3) = (ns.take 3).map .int := by
  unfold cutD HT.sIx
  simp [List.map_take]
theorem cut_drop {ns : List Int} : ∃ zs : List Int, cutD (ns.map PyData.int) (some 3) (some 63) = zs.map .int ∧ zs.length ≤ 63 ∧ (ns.length ≤ 3 → zs = []) := by
  refine ⟨(ns.drop (min 3 ns.length)).take (min 63 ns.length - min 3 ns.length), ?_, ?_, fun h => ?_⟩
  · unfold cutD HT.sIx
    simp [List.map_take]
  · simp
    omega
  · simp
    omega
theorem w_runFE {m : Nat} {g : MS} {cells : Sg} {P : List PyData → Prop} (h : Gd g (cells ++ List.replicate (m - cells.length) .un) fun fl δ' => ∃ ds, fl = .rf ds ∧ P ds ∧ cells.length ≤ δ'.length) : ∃ ds o, runF m g cells = some (.ok ds, o) ∧ P ds := by
  obtain ⟨fl, δ', e, ds, rfl, p, k⟩ := h
  unfold runF keepO
  rw [e]
  dsimp only
  rw [if_pos k]
  exact ⟨_, _, rfl, p⟩
theorem box_eq (cs : List Int) (i : Nat) (hi : i < cs.length) (h2 : cs.length ≤ 3) : ∃ os o, g__law_box [.fz (.list (cs.map .int)), .fz (.int i)] = some (.ok os, o) ∧ Tin 0 os := by
  have hx : ixD (.list (cs.map .int)) (.int i) = some (.int cs[i]) := by
    show L2.atI (cs.map PyData.int) (i : Int) = _
    unfold L2.atI L2.ixN
    rw [if_pos (by omega), if_pos (by simp; omega)]
    simp [hi]
  have hp : powD (.int 10) (.int 18) = some (.int 1000000000000000000) := by
    unfold powD intsD powOk
    simp
  have hs : ∀ b : Bool, small64 (if b = true then 1 else 0) = true := by decide
  refine w_runFE (P := Tin 0) ?_
  simp only [List.length_cons, List.length_nil, List.replicate, List.cons_append, List.nil_append, Nat.reduceAdd, Nat.reduceSub]
  unfold B__law_box
  walk_at "wp"
  refine w_lif rfl ?_
  walk_at "wp"
  refine w_lif (o_lt _ _) ?_
  refine w_lif rfl ?_
  rw [decide_eq_true (by simp; omega)]
  walk_at "wp"
  refine w_lif hx ?_
  walk_at "wp"
  refine w_lif rfl ?_
  walk_at "wp"
  refine w_lif rfl ?_
  walk_at "wp"
  refine w_lif hp ?_
  refine w_lif (o_ge _ _) ?_
  walk_at "wp"
  refine w_lif rfl ?_
  refine w_lif (o_mul ?_) ?_
  · unfold mulOk
    rw [hs, Bool.or_true]
  walk_at "wp"
  refine w_lif rfl ?_
  walk_at "wp"
  refine w_lif (o_mod (by decide)) ?_
  walk_at "wp"
  refine w_lif (o_mul ?_) ?_
  · unfold mulOk
    rw [show small64 39373 = true by decide]
    rfl
  refine w_lif (o_add _ _) ?_
  walk_at "wp"
  refine w_lif (o_add _ _) ?_
  walk_at "wp"
  exact ⟨_, rfl, ⟨_, _, 0, rfl, by omega, by omega⟩, by simp⟩
/-- what a turn of the loop over the rest leaves -/
def CI (s : PyData) (δ : Sg) : Prop := ∃ (cs : List Int) (c3 c4 c5 : Cell), cs.length = 3 ∧ c3.free = true ∧ c4.free = true ∧ c5.free = true ∧ δ = [.fz s, .fz (.int 3), .ow false (cs.map .int), c3, c4, c5]
theorem cells_eq (ns : List Int) (h : ns.length ≤ 63) : ∃ (cs : List Int), 0 < cs.length ∧ cs.length ≤ 3 ∧ ∃ o, g__law_cells [.fz (.list (ns.map .int)), .fz (.int 3)] = some (.ok (.list (cs.map .int)), o) := by
  obtain ⟨zs, hz1, hz2, hz3⟩ := cut_drop (ns := ns)
  suffices H : ∃ cs : List Int, 0 < cs.length ∧ cs.length ≤ 3 ∧ Gd B__law_cells [.fz (.list (ns.map .int)), .fz (.int 3), .un, .un, .un, .un] (fun fl δ' => fl = .rt (.list (cs.map .int)) ∧ 2 ≤ δ'.length) by
    obtain ⟨cs, h1, h2, H⟩ := H
    exact ⟨cs, h1, h2, w_runE H⟩
  by_cases hn : ns.length < 3
  · have hz : zs = [] := hz3 (by omega)
    refine ⟨if ns = [] then [0] else ns, ?_, ?_, ?_⟩
    · split
      · simp
      · rename_i e; exact List.length_pos_iff.mpr e
    · split
      · simp
      · omega
    · unfold B__law_cells
      walk_at "wp"
      refine ⟨_, rfl, ?_⟩
      refine w_lif rfl ?_
      walk_at "wp"
      rw [cut_take]
      refine w_lif (o_listL (by simp; omega)) ?_
      have ht : ns.take 3 = ns := List.take_of_length_le (by omega)
      rw [ht]
      refine Gd.imp (Q := fun ds δ => ds = (if ns = [] then [0] else ns).map PyData.int ∧ δ = [.fz (.list (ns.map .int)), .fz (.int 3), .un, .un, .un, .un]) ?_ ?_
      · refine w_by (fun h => ?_) fun h => ?_
        · walk_at "wp"
          have : ns = [] := by simpa using h
          simp [this]
        · walk_at "wp"
          have : ns ≠ [] := by rintro rfl; simp at h
          simp [this]
      rintro _ _ ⟨rfl, rfl⟩
      refine ⟨_, _, .s (.s .z), rfl, .s (.s .z), ?_⟩
      walk_at "wp"
      refine ⟨_, rfl, ?_⟩
      walk_at "wp"
      refine ⟨_, rfl, ?_⟩
      refine w_lif rfl ?_
      walk_at "wp"
      rw [hz1, hz]
      refine w_lif rfl ?_
      refine w_eq rfl ?_
      walk_at "wp"
      refine w_varO (.s (.s .z)) (.s (.s .z)) ?_
      exact ⟨rfl, by simp⟩
  · suffices H : Gd B__law_cells [.fz (.list (ns.map .int)), .fz (.int 3), .un, .un, .un, .un] (fun fl δ' => ∃ cs : List Int, cs.length = 3 ∧ fl = .rt (.list (cs.map .int)) ∧ 2 ≤ δ'.length) by
      obtain ⟨fl, δ', e, cs, h1, h2, h3⟩ := H
      exact ⟨cs, by omega, by omega, fl, δ', e, h2, h3⟩
    unfold B__law_cells
    walk_at "wp"
    refine ⟨_, rfl, ?_⟩
    refine w_lif rfl ?_
    walk_at "wp"
    rw [cut_take]
    refine w_lif (o_listL (by simp; omega)) ?_
    have hl : (ns.take 3).length = 3 := by simp; omega
    have he : ((ns.take 3).map PyData.int).isEmpty = false := by
      cases e : ns.take 3 with
      | nil => rw [e] at hl; cases hl
      | cons => rfl
    rw [he]
    walk_at "wp"
    refine ⟨_, _, .s (.s .z), rfl, .s (.s .z), ?_⟩
    walk_at "wp"
    refine ⟨_, rfl, ?_⟩
    walk_at "wp"
    refine ⟨_, rfl, ?_⟩
    refine w_lif rfl ?_
    walk_at "wp"
    rw [hz1]
    refine w_lif rfl ?_
    refine w_loop (fun _ δ => CI (.list (ns.map .int)) δ) ⟨ns.take 3, .un, .un, .un, hl, rfl, rfl, rfl, rfl⟩ (fun j d hj δ hi => ?_) ?_
    · obtain ⟨cs, c3, c4, c5, hc, f3, f4, f5, rfl⟩ := hi
      obtain ⟨v, rfl⟩ : ∃ v : Int, d = .tuple [.int (j : Nat), .int v] := by
        unfold enumL at hj
        rw [List.getElem?_map, List.getElem?_zipIdx, List.getElem?_map] at hj
        cases e : zs[j]? with
        | none => rw [e] at hj; cases hj
        | some v => rw [e] at hj; cases hj; exact ⟨v, by simp⟩
      have hjl : j < 63 := by
        obtain ⟨h, _⟩ := List.getElem?_eq_some_iff.mp hj
        simp [enumL] at h
        omega
      have b0 : 0 ≤ (j : Int).fmod 3 := Int.fmod_nonneg_of_pos _ (by omega)
      have b1 : (j : Int).fmod 3 < 3 := Int.fmod_lt_of_pos _ (by omega)
      have hix : ixD (.list (cs.map .int)) (.int ((j : Int).fmod 3)) = some (.int (cs[((j : Int).fmod 3).toNat]'(by omega))) := by
        show L2.atI (cs.map PyData.int) _ = _
        unfold L2.atI L2.ixN
        rw [if_pos b0, if_pos (by simp; omega)]
        have : ((j : Int).fmod 3).toNat < cs.length := by omega
        simp [this]
      walk_at "wp"
      refine w_lif rfl ?_
      walk_at "wp"
      refine w_lif (o_mod (by decide)) ?_
      walk_at "wp"
      refine w_sub ?_
      walk_at "wp"
      refine w_ixO (.s (.s .z)) ?_
      walk_at "wp"
      refine ⟨_, _, .s (.s .z), ?_⟩
      refine w_lif hix ?_
      walk_at "wp"
      refine w_lif (o_add _ _) ?_
      refine w_lif (o_mul ?_) ?_
      · unfold mulOk small64
        simp only [Bool.or_eq_true, Bool.and_eq_true, decide_eq_true_eq]
        right
        omega
      refine w_lif (o_add _ _) ?_
      refine ⟨_, _, .s (.s .z), ?_⟩
      walk_at "wp"
      refine ⟨_, _, (j : Int).fmod 3, ((j : Int).fmod 3).toNat, _, rfl, .s (.s .z), ?_, .s (.s .z), rfl, ?_⟩
      · unfold L2.ixN
        rw [if_pos b0, if_pos (by simp; omega)]
      · rw [← List.map_set]
        exact ⟨_, _, _, _, by simpa using hc, rfl, rfl, rfl, rfl⟩
    · rintro δ ⟨cs, c3, c4, c5, hc, f3, f4, f5, rfl⟩
      walk_at "wp"
      refine w_varO (.s (.s .z)) (.s (.s .z)) ?_
      exact ⟨cs, hc, rfl, by simp⟩
theorem law_true : ∀ ns : List Int, ns.length ≤ 63 → ∃ c, g_law [.fz (.list (ns.map .int))] = some (.ok (.bool true), c) := by
  intro ns h
  obtain ⟨cs, h1, h2, o, e⟩ := cells_eq ns h
  obtain ⟨oh, eh⟩ := hand_eq
  refine w_runE ?_
  simp only [List.length_cons, List.length_nil, List.replicate, List.cons_append, List.nil_append, Nat.reduceAdd, Nat.reduceSub]
  unfold B_law
  walk_at "wp"
  refine ⟨_, _, eh, ?_⟩
  refine w_lif rfl ?_
  show Gd (cond false _ _) _ _
  walk_at "wp"
  refine ⟨_, _, e, ?_⟩
  walk_at "wp"
  refine w_lif rfl ?_
  walk_at "wp"
  refine w_lif (range_take (by omega) (by simp; omega)) ?_
  have q := comp_fun (is := [2]) (set := sName 2) (el := xDefT g__law_right (xDefF g__law_box (bnd (xVar 1) fun d => bnd (bnd (xVar 2) fun d => bnd (PD.ret []) fun ds => PD.ret (d :: ds)) fun ds => PD.ret (d :: ds)))) (ds := rangeL 0 (((cs.map PyData.int).length : Nat) : Int).toNat)
    (δ := [.fz (.list (ns.map .int)), .fz (.list (cs.map .int)), .un]) (fun _ => .bool ((fun _ => true) PyData.none)) (by rw [rangeL_length]; simp; omega) fun d hd => by
    obtain ⟨i, hi, rfl⟩ : ∃ i : Nat, i < cs.length ∧ d = .int i := by
      unfold rangeL at hd
      obtain ⟨i, hi, rfl⟩ := List.mem_map.mp hd
      have := List.mem_range.mp hi
      exact ⟨i, by simpa using this, by simp⟩
    obtain ⟨os, ob, eb, tb⟩ := box_eq cs i hi h2
    obtain ⟨orr, er⟩ := right_all tb (by omega) (by omega)
    walk_at "wp"
    refine ⟨_, _, eb, ?_⟩
    exact ⟨_, _, er, rfl, rfl, rfl⟩
  refine ⟨rfl, _, _, q, ?_⟩
  walk_at "wp"
  refine w_lif (all_map (f := fun _ => true)) ?_
  exact ⟨by simp, by simp [backD]⟩
end K01
end

section
set_option linter.all false
set_option maxRecDepth 100000
set_option maxHeartbeats 4000000
namespace K01
open PySem PySem.Spec PyProof.Rows L2 PD
theorem fn_weak {P : Program} {w : World} {K : PySem.W.Frag} {mg : Str → Option Value} {base : Heap} {k : Nat} {f : Addr} {fd : FuncData} {ps : List Str} {sp sp2 : Sp} {CX : CXT} (F : FnOk P w K mg base CX k f fd ps sp) (h : ∀ vs H Q E, sp2 vs H Q E → sp vs H Q E) : FnOk P w K mg base CX k f fd ps sp2 :=
  ⟨fun vs H Q E q => F.1 vs H Q E (h _ _ _ _ q), fun A outer s H args us vs Q E a b c d q => F.2 A outer s H args us vs Q E a b c d (h _ _ _ _ q)⟩
theorem kit_exc {K : PySem.W.Frag} {C : Addr} {T : String} {b : Bool} (hm : PySem.W.kitMeta T = true) (hs : PySem.W.subIn K (.ref C) (.type T) = some b) : PySem.W.kitOne K (.ref C) (.type T) = some b := by
  unfold PySem.W.kitOne PySem.W.kitCls
  rw [if_neg (by simp)]
  show (if PySem.W.kitMeta T = true then PySem.W.subIn K (.ref C) (.type T) else none) = some b
  rw [if_pos hm]
  exact hs
theorem ints_dq {K : PySem.W.Frag} {H : Hp} : ∀ ns : List Int, DqAll K H (ns.map V.int) (ns.map PyData.int)
  | [] => .nil
  | n :: r => .cons (.int n) (ints_dq r)
/-- the promise of the law, whatever the names stand for -/
def spL (K : PySem.W.Frag) : Sp := fun vs H Q E => ∀ mg, spD K mg 1 g_law vs H Q E
theorem law_start {K : PySem.W.Frag} {H : Hp} {a : Addr} {ns : List Int} (hS : SqL K H a (ns.map V.int)) (hm : ∃ c, g_law [.fz (.list (ns.map .int))] = some (.ok (.bool true), c)) :
    spL K [.ref a] H (fun v _ => v = .bl true) fun _ _ _ => False := by
  intro mg
  obtain ⟨c, hm⟩ := hm
  have e : hid ⟨fun _ => False, fun _ => none⟩ (fun _ => none) H = H := by
    funext b
    unfold hid Hid
    simp
  refine ⟨rfl, ⟨fun _ => False, fun _ => none⟩, [.fz (.list (ns.map .int))], _, c, ⟨rfl, fun i d q => ?_, fun i b ds q => ?_, fun i a q => (by cases q), fun i j a q => (by cases q), fun b q => q.elim, fun i a q => (by cases q), fun i o q => ?_⟩, hm, fun d ed v H' _ _ dv => ?_, fun c fs z => by cases z⟩
  · match i, q with
    | 0, q =>
      cases q
      refine ⟨.ref a, rfl, ?_⟩
      rw [e]
      exact .lst hS (ints_dq ns)
  · match i, q with
    | 0, q => cases q
  · match i, q with
    | 0, q => cases q
  · cases ed
    cases dv with
    | bl b => rfl
set_option maxHeartbeats 0 in
theorem all_mk {l : PySem.W.OpenLaw} {w : World} {K : PySem.W.Frag} {h : Heap} {mg : Str → Option Value} {fa : Addr} {f_is_figures f_figures_ascend f_figures_in f_pairs_in f_numbers_of f_numbers_of_pairs f_word_of f_word_of_sum f_run_word f_sum_word f_run_read f_sum_read f__law_box f__law_take f__law_cells f__law_of f__law_lists f__law_same f__law_row_word f__law_mix_word f__law_odd_right f__law_by_hand_right f__law_case_right f__law_right f_law : Addr} {od_is_figures an_is_figures od_figures_ascend an_figures_ascend od_figures_in an_figures_in od_pairs_in an_pairs_in od_numbers_of an_numbers_of od_numbers_of_pairs an_numbers_of_pairs od_word_of an_word_of od_word_of_sum an_word_of_sum od_run_word an_run_word od_sum_word an_sum_word od_run_read an_run_read od_sum_read an_sum_read od__law_box an__law_box od__law_take an__law_take od__law_cells an__law_cells od__law_of an__law_of od__law_lists an__law_lists od__law_same an__law_same od__law_row_word an__law_row_word od__law_mix_word an__law_mix_word od__law_odd_right an__law_odd_right od__law_by_hand_right an__law_by_hand_right od__law_case_right an__law_case_right od__law_right an__law_right od_law an_law : Option Addr} {sl_is_figures sl_figures_ascend sl_figures_in sl_pairs_in sl_numbers_of sl_numbers_of_pairs sl_word_of sl_word_of_sum sl_run_word sl_sum_word sl_run_read sl_sum_read sl__law_box sl__law_take sl__law_cells sl__law_of sl__law_lists sl__law_same sl__law_row_word sl__law_mix_word sl__law_odd_right sl__law_by_hand_right sl__law_case_right sl__law_right sl_law : Array (Option Value)} {oc_is_figures kV_is_figures dc_is_figures pm_is_figures cd_is_figures ct_is_figures oc_figures_ascend kV_figures_ascend dc_figures_ascend pm_figures_ascend cd_figures_ascend ct_figures_ascend oc_figures_in kV_figures_in dc_figures_in pm_figures_in cd_figures_in ct_figures_in oc_pairs_in kV_pairs_in dc_pairs_in pm_pairs_in cd_pairs_in ct_pairs_in oc_numbers_of kV_numbers_of dc_numbers_of pm_numbers_of cd_numbers_of ct_numbers_of oc_numbers_of_pairs kV_numbers_of_pairs dc_numbers_of_pairs pm_numbers_of_pairs cd_numbers_of_pairs ct_numbers_of_pairs oc_word_of kV_word_of dc_word_of pm_word_of cd_word_of ct_word_of oc_word_of_sum kV_word_of_sum dc_word_of_sum pm_word_of_sum cd_word_of_sum ct_word_of_sum oc_run_word kV_run_word dc_run_word pm_run_word cd_run_word ct_run_word oc_sum_word kV_sum_word dc_sum_word pm_sum_word cd_sum_word ct_sum_word oc_run_read kV_run_read dc_run_read pm_run_read cd_run_read ct_run_read oc_sum_read kV_sum_read dc_sum_read pm_sum_read cd_sum_read ct_sum_read oc__law_box kV__law_box dc__law_box pm__law_box cd__law_box ct__law_box oc__law_take kV__law_take dc__law_take pm__law_take cd__law_take ct__law_take oc__law_cells kV__law_cells dc__law_cells pm__law_cells cd__law_cells ct__law_cells oc__law_of kV__law_of dc__law_of pm__law_of cd__law_of ct__law_of oc__law_lists kV__law_lists dc__law_lists pm__law_lists cd__law_lists ct__law_lists oc__law_same kV__law_same dc__law_same pm__law_same cd__law_same ct__law_same oc__law_row_word kV__law_row_word dc__law_row_word pm__law_row_word cd__law_row_word ct__law_row_word oc__law_mix_word kV__law_mix_word dc__law_mix_word pm__law_mix_word cd__law_mix_word ct__law_mix_word oc__law_odd_right kV__law_odd_right dc__law_odd_right pm__law_odd_right cd__law_odd_right ct__law_odd_right oc__law_by_hand_right kV__law_by_hand_right dc__law_by_hand_right pm__law_by_hand_right cd__law_by_hand_right ct__law_by_hand_right oc__law_case_right kV__law_case_right dc__law_case_right pm__law_case_right cd__law_case_right ct__law_case_right oc__law_right kV__law_right dc__law_right pm__law_right cd__law_right ct__law_right oc_law kV_law dc_law pm_law cd_law ct_law : Value} {t__FIGURES : Tok} (X : K.In h) (G : h.Ns mainGlobals mg) (hfa : mg "law" = some (.ref fa))
    (a_is_figures : PySem.W.nsIn K mainGlobals "is_figures" = some (some (.ref f_is_figures))) (l_is_figures : K.lookup f_is_figures = some ⟨oc_is_figures, od_is_figures, .func (PySem.W.fnOf "is_figures" "is_figures" (defArgs s_is_figures) (defBody s_is_figures) (defScope s_is_figures) .none kV_is_figures dc_is_figures pm_is_figures an_is_figures cd_is_figures ct_is_figures), sl_is_figures⟩) (c_is_figures : PySem.W.codeIn K cd_is_figures "is_figures" = true) (k_is_figures : PySem.W.keepIn K (.ref f_is_figures) = true)
    (a_figures_ascend : PySem.W.nsIn K mainGlobals "figures_ascend" = some (some (.ref f_figures_ascend))) (l_figures_ascend : K.lookup f_figures_ascend = some ⟨oc_figures_ascend, od_figures_ascend, .func (PySem.W.fnOf "figures_ascend" "figures_ascend" (defArgs s_figures_ascend) (defBody s_figures_ascend) (defScope s_figures_ascend) .none kV_figures_ascend dc_figures_ascend pm_figures_ascend an_figures_ascend cd_figures_ascend ct_figures_ascend), sl_figures_ascend⟩) (c_figures_ascend : PySem.W.codeIn K cd_figures_ascend "figures_ascend" = true) (k_figures_ascend : PySem.W.keepIn K (.ref f_figures_ascend) = true)
    (a_figures_in : PySem.W.nsIn K mainGlobals "figures_in" = some (some (.ref f_figures_in))) (l_figures_in : K.lookup f_figures_in = some ⟨oc_figures_in, od_figures_in, .func (PySem.W.fnOf "figures_in" "figures_in" (defArgs s_figures_in) (defBody s_figures_in) (defScope s_figures_in) .none kV_figures_in dc_figures_in pm_figures_in an_figures_in cd_figures_in ct_figures_in), sl_figures_in⟩) (c_figures_in : PySem.W.codeIn K cd_figures_in "figures_in" = true) (k_figures_in : PySem.W.keepIn K (.ref f_figures_in) = true)
    (a_pairs_in : PySem.W.nsIn K mainGlobals "pairs_in" = some (some (.ref f_pairs_in))) (l_pairs_in : K.lookup f_pairs_in = some ⟨oc_pairs_in, od_pairs_in, .func (PySem.W.fnOf "pairs_in" "pairs_in" (defArgs s_pairs_in) (defBody s_pairs_in) (defScope s_pairs_in) .none kV_pairs_in dc_pairs_in pm_pairs_in an_pairs_in cd_pairs_in ct_pairs_in), sl_pairs_in⟩) (c_pairs_in : PySem.W.codeIn K cd_pairs_in "pairs_in" = true) (k_pairs_in : PySem.W.keepIn K (.ref f_pairs_in) = true)
    (a_numbers_of : PySem.W.nsIn K mainGlobals "numbers_of" = some (some (.ref f_numbers_of))) (l_numbers_of : K.lookup f_numbers_of = some ⟨oc_numbers_of, od_numbers_of, .func (PySem.W.fnOf "numbers_of" "numbers_of" (defArgs s_numbers_of) (defBody s_numbers_of) (defScope s_numbers_of) .none kV_numbers_of dc_numbers_of pm_numbers_of an_numbers_of cd_numbers_of ct_numbers_of), sl_numbers_of⟩) (c_numbers_of : PySem.W.codeIn K cd_numbers_of "numbers_of" = true) (k_numbers_of : PySem.W.keepIn K (.ref f_numbers_of) = true)
    (a_numbers_of_pairs : PySem.W.nsIn K mainGlobals "numbers_of_pairs" = some (some (.ref f_numbers_of_pairs))) (l_numbers_of_pairs : K.lookup f_numbers_of_pairs = some ⟨oc_numbers_of_pairs, od_numbers_of_pairs, .func (PySem.W.fnOf "numbers_of_pairs" "numbers_of_pairs" (defArgs s_numbers_of_pairs) (defBody s_numbers_of_pairs) (defScope s_numbers_of_pairs) .none kV_numbers_of_pairs dc_numbers_of_pairs pm_numbers_of_pairs an_numbers_of_pairs cd_numbers_of_pairs ct_numbers_of_pairs), sl_numbers_of_pairs⟩) (c_numbers_of_pairs : PySem.W.codeIn K cd_numbers_of_pairs "numbers_of_pairs" = true) (k_numbers_of_pairs : PySem.W.keepIn K (.ref f_numbers_of_pairs) = true)
    (a_word_of : PySem.W.nsIn K mainGlobals "word_of" = some (some (.ref f_word_of))) (l_word_of : K.lookup f_word_of = some ⟨oc_word_of, od_word_of, .func (PySem.W.fnOf "word_of" "word_of" (defArgs s_word_of) (defBody s_word_of) (defScope s_word_of) .none kV_word_of dc_word_of pm_word_of an_word_of cd_word_of ct_word_of), sl_word_of⟩) (c_word_of : PySem.W.codeIn K cd_word_of "word_of" = true) (k_word_of : PySem.W.keepIn K (.ref f_word_of) = true)
    (a_word_of_sum : PySem.W.nsIn K mainGlobals "word_of_sum" = some (some (.ref f_word_of_sum))) (l_word_of_sum : K.lookup f_word_of_sum = some ⟨oc_word_of_sum, od_word_of_sum, .func (PySem.W.fnOf "word_of_sum" "word_of_sum" (defArgs s_word_of_sum) (defBody s_word_of_sum) (defScope s_word_of_sum) .none kV_word_of_sum dc_word_of_sum pm_word_of_sum an_word_of_sum cd_word_of_sum ct_word_of_sum), sl_word_of_sum⟩) (c_word_of_sum : PySem.W.codeIn K cd_word_of_sum "word_of_sum" = true) (k_word_of_sum : PySem.W.keepIn K (.ref f_word_of_sum) = true)
    (a_run_word : PySem.W.nsIn K mainGlobals "run_word" = some (some (.ref f_run_word))) (l_run_word : K.lookup f_run_word = some ⟨oc_run_word, od_run_word, .func (PySem.W.fnOf "run_word" "run_word" (defArgs s_run_word) (defBody s_run_word) (defScope s_run_word) .none kV_run_word dc_run_word pm_run_word an_run_word cd_run_word ct_run_word), sl_run_word⟩) (c_run_word : PySem.W.codeIn K cd_run_word "run_word" = true) (k_run_word : PySem.W.keepIn K (.ref f_run_word) = true)
    (a_sum_word : PySem.W.nsIn K mainGlobals "sum_word" = some (some (.ref f_sum_word))) (l_sum_word : K.lookup f_sum_word = some ⟨oc_sum_word, od_sum_word, .func (PySem.W.fnOf "sum_word" "sum_word" (defArgs s_sum_word) (defBody s_sum_word) (defScope s_sum_word) .none kV_sum_word dc_sum_word pm_sum_word an_sum_word cd_sum_word ct_sum_word), sl_sum_word⟩) (c_sum_word : PySem.W.codeIn K cd_sum_word "sum_word" = true) (k_sum_word : PySem.W.keepIn K (.ref f_sum_word) = true)
    (a_run_read : PySem.W.nsIn K mainGlobals "run_read" = some (some (.ref f_run_read))) (l_run_read : K.lookup f_run_read = some ⟨oc_run_read, od_run_read, .func (PySem.W.fnOf "run_read" "run_read" (defArgs s_run_read) (defBody s_run_read) (defScope s_run_read) .none kV_run_read dc_run_read pm_run_read an_run_read cd_run_read ct_run_read), sl_run_read⟩) (c_run_read : PySem.W.codeIn K cd_run_read "run_read" = true) (k_run_read : PySem.W.keepIn K (.ref f_run_read) = true)
    (a_sum_read : PySem.W.nsIn K mainGlobals "sum_read" = some (some (.ref f_sum_read))) (l_sum_read : K.lookup f_sum_read = some ⟨oc_sum_read, od_sum_read, .func (PySem.W.fnOf "sum_read" "sum_read" (defArgs s_sum_read) (defBody s_sum_read) (defScope s_sum_read) .none kV_sum_read dc_sum_read pm_sum_read an_sum_read cd_sum_read ct_sum_read), sl_sum_read⟩) (c_sum_read : PySem.W.codeIn K cd_sum_read "sum_read" = true) (k_sum_read : PySem.W.keepIn K (.ref f_sum_read) = true)
    (a__law_box : PySem.W.nsIn K mainGlobals "_law_box" = some (some (.ref f__law_box))) (l__law_box : K.lookup f__law_box = some ⟨oc__law_box, od__law_box, .func (PySem.W.fnOf "_law_box" "_law_box" (defArgs s__law_box) (defBody s__law_box) (defScope s__law_box) .none kV__law_box dc__law_box pm__law_box an__law_box cd__law_box ct__law_box), sl__law_box⟩) (c__law_box : PySem.W.codeIn K cd__law_box "_law_box" = true) (k__law_box : PySem.W.keepIn K (.ref f__law_box) = true)
    (a__law_take : PySem.W.nsIn K mainGlobals "_law_take" = some (some (.ref f__law_take))) (l__law_take : K.lookup f__law_take = some ⟨oc__law_take, od__law_take, .func (PySem.W.fnOf "_law_take" "_law_take" (defArgs s__law_take) (defBody s__law_take) (defScope s__law_take) .none kV__law_take dc__law_take pm__law_take an__law_take cd__law_take ct__law_take), sl__law_take⟩) (c__law_take : PySem.W.codeIn K cd__law_take "_law_take" = true) (k__law_take : PySem.W.keepIn K (.ref f__law_take) = true)
    (a__law_cells : PySem.W.nsIn K mainGlobals "_law_cells" = some (some (.ref f__law_cells))) (l__law_cells : K.lookup f__law_cells = some ⟨oc__law_cells, od__law_cells, .func (PySem.W.fnOf "_law_cells" "_law_cells" (defArgs s__law_cells) (defBody s__law_cells) (defScope s__law_cells) .none kV__law_cells dc__law_cells pm__law_cells an__law_cells cd__law_cells ct__law_cells), sl__law_cells⟩) (c__law_cells : PySem.W.codeIn K cd__law_cells "_law_cells" = true) (k__law_cells : PySem.W.keepIn K (.ref f__law_cells) = true)
    (a__law_of : PySem.W.nsIn K mainGlobals "_law_of" = some (some (.ref f__law_of))) (l__law_of : K.lookup f__law_of = some ⟨oc__law_of, od__law_of, .func (PySem.W.fnOf "_law_of" "_law_of" (defArgs s__law_of) (defBody s__law_of) (defScope s__law_of) .none kV__law_of dc__law_of pm__law_of an__law_of cd__law_of ct__law_of), sl__law_of⟩) (c__law_of : PySem.W.codeIn K cd__law_of "_law_of" = true) (k__law_of : PySem.W.keepIn K (.ref f__law_of) = true)
    (a__law_lists : PySem.W.nsIn K mainGlobals "_law_lists" = some (some (.ref f__law_lists))) (l__law_lists : K.lookup f__law_lists = some ⟨oc__law_lists, od__law_lists, .func (PySem.W.fnOf "_law_lists" "_law_lists" (defArgs s__law_lists) (defBody s__law_lists) (defScope s__law_lists) .none kV__law_lists dc__law_lists pm__law_lists an__law_lists cd__law_lists ct__law_lists), sl__law_lists⟩) (c__law_lists : PySem.W.codeIn K cd__law_lists "_law_lists" = true) (k__law_lists : PySem.W.keepIn K (.ref f__law_lists) = true)
    (a__law_same : PySem.W.nsIn K mainGlobals "_law_same" = some (some (.ref f__law_same))) (l__law_same : K.lookup f__law_same = some ⟨oc__law_same, od__law_same, .func (PySem.W.fnOf "_law_same" "_law_same" (defArgs s__law_same) (defBody s__law_same) (defScope s__law_same) .none kV__law_same dc__law_same pm__law_same an__law_same cd__law_same ct__law_same), sl__law_same⟩) (c__law_same : PySem.W.codeIn K cd__law_same "_law_same" = true) (k__law_same : PySem.W.keepIn K (.ref f__law_same) = true)
    (a__law_row_word : PySem.W.nsIn K mainGlobals "_law_row_word" = some (some (.ref f__law_row_word))) (l__law_row_word : K.lookup f__law_row_word = some ⟨oc__law_row_word, od__law_row_word, .func (PySem.W.fnOf "_law_row_word" "_law_row_word" (defArgs s__law_row_word) (defBody s__law_row_word) (defScope s__law_row_word) .none kV__law_row_word dc__law_row_word pm__law_row_word an__law_row_word cd__law_row_word ct__law_row_word), sl__law_row_word⟩) (c__law_row_word : PySem.W.codeIn K cd__law_row_word "_law_row_word" = true) (k__law_row_word : PySem.W.keepIn K (.ref f__law_row_word) = true)
    (a__law_mix_word : PySem.W.nsIn K mainGlobals "_law_mix_word" = some (some (.ref f__law_mix_word))) (l__law_mix_word : K.lookup f__law_mix_word = some ⟨oc__law_mix_word, od__law_mix_word, .func (PySem.W.fnOf "_law_mix_word" "_law_mix_word" (defArgs s__law_mix_word) (defBody s__law_mix_word) (defScope s__law_mix_word) .none kV__law_mix_word dc__law_mix_word pm__law_mix_word an__law_mix_word cd__law_mix_word ct__law_mix_word), sl__law_mix_word⟩) (c__law_mix_word : PySem.W.codeIn K cd__law_mix_word "_law_mix_word" = true) (k__law_mix_word : PySem.W.keepIn K (.ref f__law_mix_word) = true)
    (a__law_odd_right : PySem.W.nsIn K mainGlobals "_law_odd_right" = some (some (.ref f__law_odd_right))) (l__law_odd_right : K.lookup f__law_odd_right = some ⟨oc__law_odd_right, od__law_odd_right, .func (PySem.W.fnOf "_law_odd_right" "_law_odd_right" (defArgs s__law_odd_right) (defBody s__law_odd_right) (defScope s__law_odd_right) .none kV__law_odd_right dc__law_odd_right pm__law_odd_right an__law_odd_right cd__law_odd_right ct__law_odd_right), sl__law_odd_right⟩) (c__law_odd_right : PySem.W.codeIn K cd__law_odd_right "_law_odd_right" = true) (k__law_odd_right : PySem.W.keepIn K (.ref f__law_odd_right) = true)
    (a__law_by_hand_right : PySem.W.nsIn K mainGlobals "_law_by_hand_right" = some (some (.ref f__law_by_hand_right))) (l__law_by_hand_right : K.lookup f__law_by_hand_right = some ⟨oc__law_by_hand_right, od__law_by_hand_right, .func (PySem.W.fnOf "_law_by_hand_right" "_law_by_hand_right" (defArgs s__law_by_hand_right) (defBody s__law_by_hand_right) (defScope s__law_by_hand_right) .none kV__law_by_hand_right dc__law_by_hand_right pm__law_by_hand_right an__law_by_hand_right cd__law_by_hand_right ct__law_by_hand_right), sl__law_by_hand_right⟩) (c__law_by_hand_right : PySem.W.codeIn K cd__law_by_hand_right "_law_by_hand_right" = true) (k__law_by_hand_right : PySem.W.keepIn K (.ref f__law_by_hand_right) = true)
    (a__law_case_right : PySem.W.nsIn K mainGlobals "_law_case_right" = some (some (.ref f__law_case_right))) (l__law_case_right : K.lookup f__law_case_right = some ⟨oc__law_case_right, od__law_case_right, .func (PySem.W.fnOf "_law_case_right" "_law_case_right" (defArgs s__law_case_right) (defBody s__law_case_right) (defScope s__law_case_right) .none kV__law_case_right dc__law_case_right pm__law_case_right an__law_case_right cd__law_case_right ct__law_case_right), sl__law_case_right⟩) (c__law_case_right : PySem.W.codeIn K cd__law_case_right "_law_case_right" = true) (k__law_case_right : PySem.W.keepIn K (.ref f__law_case_right) = true)
    (a__law_right : PySem.W.nsIn K mainGlobals "_law_right" = some (some (.ref f__law_right))) (l__law_right : K.lookup f__law_right = some ⟨oc__law_right, od__law_right, .func (PySem.W.fnOf "_law_right" "_law_right" (defArgs s__law_right) (defBody s__law_right) (defScope s__law_right) .none kV__law_right dc__law_right pm__law_right an__law_right cd__law_right ct__law_right), sl__law_right⟩) (c__law_right : PySem.W.codeIn K cd__law_right "_law_right" = true) (k__law_right : PySem.W.keepIn K (.ref f__law_right) = true)
    (a_law : PySem.W.nsIn K mainGlobals "law" = some (some (.ref f_law))) (l_law : K.lookup f_law = some ⟨oc_law, od_law, .func (PySem.W.fnOf "law" "law" (defArgs s_law) (defBody s_law) (defScope s_law) .none kV_law dc_law pm_law an_law cd_law ct_law), sl_law⟩) (c_law : PySem.W.codeIn K cd_law "law" = true) (k_law : PySem.W.keepIn K (.ref f_law) = true)
    (z_abs : PySem.W.nsIn K mainGlobals "abs" = some none) (z_all : PySem.W.nsIn K mainGlobals "all" = some none) (z_any : PySem.W.nsIn K mainGlobals "any" = some none) (z_bool : PySem.W.nsIn K mainGlobals "bool" = some none) (z_enumerate : PySem.W.nsIn K mainGlobals "enumerate" = some none) (z_int : PySem.W.nsIn K mainGlobals "int" = some none) (z_isinstance : PySem.W.nsIn K mainGlobals "isinstance" = some none) (z_len : PySem.W.nsIn K mainGlobals "len" = some none) (z_list : PySem.W.nsIn K mainGlobals "list" = some none) (z_range : PySem.W.nsIn K mainGlobals "range" = some none) (z_str : PySem.W.nsIn K mainGlobals "str" = some none) (z_tuple : PySem.W.nsIn K mainGlobals "tuple" = some none) (z_zip : PySem.W.nsIn K mainGlobals "zip" = some none)
    (nd_D : PySem.W.nsIn K cStatics "sys.int_max_str_digits" = some none)
    (zg__FIGURES : PySem.W.nsIn K mainGlobals "_FIGURES" = some (some (.str "0123456789" t__FIGURES))) :
    ∃ fd : FuncData, (∀ (s : Shared) (v : Value), BindsTo s fd ⟨[v], []⟩ [("script", v)]) ∧ ∀ base : Heap, K.In base → base.Ns mainGlobals mg → FnOk l.prog w K mg base (L2.CX l.prog w) 19 fa fd ["script"] (spL K) := by
  have e := hfa.symm.trans (PySem.W.mg_of X G a_law)
  cases e
  have F_is_figures := fun_mk (st := s_is_figures) l_is_figures c_is_figures k_is_figures
  have b_is_figures := F_is_figures.binds (ps := ["word"]) fun _ _ _ _ _ _ us hl => match us, hl with | [_], _ => rfl
  have e_is_figures := PySem.W.mg_of X G a_is_figures
  have F_figures_ascend := fun_mk (st := s_figures_ascend) l_figures_ascend c_figures_ascend k_figures_ascend
  have b_figures_ascend := F_figures_ascend.binds (ps := ["words"]) fun _ _ _ _ _ _ us hl => match us, hl with | [_], _ => rfl
  have e_figures_ascend := PySem.W.mg_of X G a_figures_ascend
  have F_figures_in := fun_mk (st := s_figures_in) l_figures_in c_figures_in k_figures_in
  have b_figures_in := F_figures_in.binds (ps := ["word"]) fun _ _ _ _ _ _ us hl => match us, hl with | [_], _ => rfl
  have e_figures_in := PySem.W.mg_of X G a_figures_in
  have F_pairs_in := fun_mk (st := s_pairs_in) l_pairs_in c_pairs_in k_pairs_in
  have b_pairs_in := F_pairs_in.binds (ps := ["word"]) fun _ _ _ _ _ _ us hl => match us, hl with | [_], _ => rfl
  have e_pairs_in := PySem.W.mg_of X G a_pairs_in
  have F_numbers_of := fun_mk (st := s_numbers_of) l_numbers_of c_numbers_of k_numbers_of
  have b_numbers_of := F_numbers_of.binds (ps := ["words"]) fun _ _ _ _ _ _ us hl => match us, hl with | [_], _ => rfl
  have e_numbers_of := PySem.W.mg_of X G a_numbers_of
  have F_numbers_of_pairs := fun_mk (st := s_numbers_of_pairs) l_numbers_of_pairs c_numbers_of_pairs k_numbers_of_pairs
  have b_numbers_of_pairs := F_numbers_of_pairs.binds (ps := ["pairs"]) fun _ _ _ _ _ _ us hl => match us, hl with | [_], _ => rfl
  have e_numbers_of_pairs := PySem.W.mg_of X G a_numbers_of_pairs
  have F_word_of := fun_mk (st := s_word_of) l_word_of c_word_of k_word_of
  have b_word_of := F_word_of.binds (ps := ["numbers"]) fun _ _ _ _ _ _ us hl => match us, hl with | [_], _ => rfl
  have e_word_of := PySem.W.mg_of X G a_word_of
  have F_word_of_sum := fun_mk (st := s_word_of_sum) l_word_of_sum c_word_of_sum k_word_of_sum
  have b_word_of_sum := F_word_of_sum.binds (ps := ["pairs"]) fun _ _ _ _ _ _ us hl => match us, hl with | [_], _ => rfl
  have e_word_of_sum := PySem.W.mg_of X G a_word_of_sum
  have F_run_word := fun_mk (st := s_run_word) l_run_word c_run_word k_run_word
  have b_run_word := F_run_word.binds (ps := ["run"]) fun _ _ _ _ _ _ us hl => match us, hl with | [_], _ => rfl
  have e_run_word := PySem.W.mg_of X G a_run_word
  have F_sum_word := fun_mk (st := s_sum_word) l_sum_word c_sum_word k_sum_word
  have b_sum_word := F_sum_word.binds (ps := ["pairs"]) fun _ _ _ _ _ _ us hl => match us, hl with | [_], _ => rfl
  have e_sum_word := PySem.W.mg_of X G a_sum_word
  have F_run_read := fun_mk (st := s_run_read) l_run_read c_run_read k_run_read
  have b_run_read := F_run_read.binds (ps := ["word"]) fun _ _ _ _ _ _ us hl => match us, hl with | [_], _ => rfl
  have e_run_read := PySem.W.mg_of X G a_run_read
  have F_sum_read := fun_mk (st := s_sum_read) l_sum_read c_sum_read k_sum_read
  have b_sum_read := F_sum_read.binds (ps := ["word"]) fun _ _ _ _ _ _ us hl => match us, hl with | [_], _ => rfl
  have e_sum_read := PySem.W.mg_of X G a_sum_read
  have F__law_box := fun_mk (st := s__law_box) l__law_box c__law_box k__law_box
  have b__law_box := F__law_box.binds (ps := ["script", "k"]) fun _ _ _ _ _ _ us hl => match us, hl with | [_, _], _ => rfl
  have e__law_box := PySem.W.mg_of X G a__law_box
  have F__law_take := fun_mk (st := s__law_take) l__law_take c__law_take k__law_take
  have b__law_take := F__law_take.binds (ps := ["tin", "below_so"]) fun _ _ _ _ _ _ us hl => match us, hl with | [_, _], _ => rfl
  have e__law_take := PySem.W.mg_of X G a__law_take
  have F__law_cells := fun_mk (st := s__law_cells) l__law_cells c__law_cells k__law_cells
  have b__law_cells := F__law_cells.binds (ps := ["script", "most_so"]) fun _ _ _ _ _ _ us hl => match us, hl with | [_, _], _ => rfl
  have e__law_cells := PySem.W.mg_of X G a__law_cells
  have F__law_of := fun_mk (st := s__law_of) l__law_of c__law_of k__law_of
  have b__law_of := F__law_of.binds (ps := ["tin", "goods_so"]) fun _ _ _ _ _ _ us hl => match us, hl with | [_, _], _ => rfl
  have e__law_of := PySem.W.mg_of X G a__law_of
  have F__law_lists := fun_mk (st := s__law_lists) l__law_lists c__law_lists k__law_lists
  have b__law_lists := F__law_lists.binds (ps := ["matter"]) fun _ _ _ _ _ _ us hl => match us, hl with | [_], _ => rfl
  have e__law_lists := PySem.W.mg_of X G a__law_lists
  have F__law_same := fun_mk (st := s__law_same) l__law_same c__law_same k__law_same
  have b__law_same := F__law_same.binds (ps := ["got", "due"]) fun _ _ _ _ _ _ us hl => match us, hl with | [_, _], _ => rfl
  have e__law_same := PySem.W.mg_of X G a__law_same
  have F__law_row_word := fun_mk (st := s__law_row_word) l__law_row_word c__law_row_word k__law_row_word
  have b__law_row_word := F__law_row_word.binds (ps := ["row_so"]) fun _ _ _ _ _ _ us hl => match us, hl with | [_], _ => rfl
  have e__law_row_word := PySem.W.mg_of X G a__law_row_word
  have F__law_mix_word := fun_mk (st := s__law_mix_word) l__law_mix_word c__law_mix_word k__law_mix_word
  have b__law_mix_word := F__law_mix_word.binds (ps := ["mix_so"]) fun _ _ _ _ _ _ us hl => match us, hl with | [_], _ => rfl
  have e__law_mix_word := PySem.W.mg_of X G a__law_mix_word
  have F__law_odd_right := fun_mk (st := s__law_odd_right) l__law_odd_right c__law_odd_right k__law_odd_right
  have b__law_odd_right := F__law_odd_right.binds (ps := []) fun _ _ _ _ _ _ us hl => match us, hl with | [], _ => rfl
  have e__law_odd_right := PySem.W.mg_of X G a__law_odd_right
  have F__law_by_hand_right := fun_mk (st := s__law_by_hand_right) l__law_by_hand_right c__law_by_hand_right k__law_by_hand_right
  have b__law_by_hand_right := F__law_by_hand_right.binds (ps := []) fun _ _ _ _ _ _ us hl => match us, hl with | [], _ => rfl
  have e__law_by_hand_right := PySem.W.mg_of X G a__law_by_hand_right
  have F__law_case_right := fun_mk (st := s__law_case_right) l__law_case_right c__law_case_right k__law_case_right
  have b__law_case_right := F__law_case_right.binds (ps := ["tin", "row_so", "mix_so"]) fun _ _ _ _ _ _ us hl => match us, hl with | [_, _, _], _ => rfl
  have e__law_case_right := PySem.W.mg_of X G a__law_case_right
  have F__law_right := fun_mk (st := s__law_right) l__law_right c__law_right k__law_right
  have b__law_right := F__law_right.binds (ps := ["tin"]) fun _ _ _ _ _ _ us hl => match us, hl with | [_], _ => rfl
  have e__law_right := PySem.W.mg_of X G a__law_right
  have F_law := fun_mk (st := s_law) l_law c_law k_law
  have e_law := PySem.W.mg_of X G a_law
  have m_abs := PySem.W.mg_none_of X G z_abs
  have m_all := PySem.W.mg_none_of X G z_all
  have m_any := PySem.W.mg_none_of X G z_any
  have m_bool := PySem.W.mg_none_of X G z_bool
  have m_enumerate := PySem.W.mg_none_of X G z_enumerate
  have m_int := PySem.W.mg_none_of X G z_int
  have m_isinstance := PySem.W.mg_none_of X G z_isinstance
  have m_len := PySem.W.mg_none_of X G z_len
  have m_list := PySem.W.mg_none_of X G z_list
  have m_range := PySem.W.mg_none_of X G z_range
  have m_str := PySem.W.mg_none_of X G z_str
  have m_tuple := PySem.W.mg_none_of X G z_tuple
  have m_zip := PySem.W.mg_none_of X G z_zip
  have g__FIGURES := PySem.W.mg_of X G zg__FIGURES
  refine ⟨PySem.W.fnOf "law" "law" (defArgs s_law) (defBody s_law) (defScope s_law) .none kV_law dc_law pm_law an_law cd_law ct_law, fun s v => .of_eq rfl, fun base _ _ => ?_⟩
  have O_is_figures := ok_is_figures (P := l.prog) (w := w) (base := base) (mg := mg) F_is_figures g__FIGURES m_any
  have O_figures_ascend := ok_figures_ascend (P := l.prog) (w := w) (base := base) (mg := mg) F_figures_ascend m_all m_len m_range
  have O_numbers_of := ok_numbers_of (P := l.prog) (w := w) (base := base) (mg := mg) F_numbers_of nd_D m_int m_tuple
  have O_numbers_of_pairs := ok_numbers_of_pairs (P := l.prog) (w := w) (base := base) (mg := mg) F_numbers_of_pairs nd_D m_int m_tuple
  have O_word_of := ok_word_of (P := l.prog) (w := w) (base := base) (mg := mg) F_word_of nd_D m_str
  have O_word_of_sum := ok_word_of_sum (P := l.prog) (w := w) (base := base) (mg := mg) F_word_of_sum nd_D
  have O__law_box := ok__law_box (P := l.prog) (w := w) (base := base) (mg := mg) F__law_box m_abs m_int m_len
  have O__law_take := ok__law_take (P := l.prog) (w := w) (base := base) (mg := mg) F__law_take m_int
  have O__law_cells := ok__law_cells (P := l.prog) (w := w) (base := base) (mg := mg) F__law_cells m_enumerate m_int m_list
  have O__law_row_word := ok__law_row_word (P := l.prog) (w := w) (base := base) (mg := mg) F__law_row_word nd_D m_str
  have O__law_mix_word := ok__law_mix_word (P := l.prog) (w := w) (base := base) (mg := mg) F__law_mix_word nd_D m_str
  have O_figures_in := ok_figures_in (P := l.prog) (w := w) (base := base) (mg := mg) F_figures_in O_is_figures e_is_figures k_is_figures b_is_figures m_all
  have O_pairs_in := ok_pairs_in (P := l.prog) (w := w) (base := base) (mg := mg) F_pairs_in O_figures_ascend e_figures_ascend k_figures_ascend b_figures_ascend O_is_figures e_is_figures k_is_figures b_is_figures m_all m_len
  have O_run_word := ok_run_word (P := l.prog) (w := w) (base := base) (mg := mg) F_run_word O_word_of e_word_of k_word_of b_word_of
  have O_sum_word := ok_sum_word (P := l.prog) (w := w) (base := base) (mg := mg) F_sum_word O_word_of_sum e_word_of_sum k_word_of_sum b_word_of_sum
  have O__law_of := ok__law_of (P := l.prog) (w := w) (base := base) (mg := mg) F__law_of O__law_take e__law_take k__law_take b__law_take m_len
  have O_run_read := ok_run_read (P := l.prog) (w := w) (base := base) (mg := mg) F_run_read O_figures_in e_figures_in k_figures_in b_figures_in O_numbers_of e_numbers_of k_numbers_of b_numbers_of
  have O_sum_read := ok_sum_read (P := l.prog) (w := w) (base := base) (mg := mg) F_sum_read O_numbers_of_pairs e_numbers_of_pairs k_numbers_of_pairs b_numbers_of_pairs O_pairs_in e_pairs_in k_pairs_in b_pairs_in
  have O__law_lists := ok__law_lists (P := l.prog) (w := w) (base := base) (mg := mg) F__law_lists e__law_lists k__law_lists b__law_lists m_isinstance m_list m_tuple
  have O__law_same := ok__law_same (P := l.prog) (w := w) (base := base) (mg := mg) F__law_same e__law_same k__law_same b__law_same m_all m_bool m_int m_isinstance m_len m_list m_str m_tuple m_zip
  have O__law_odd_right := ok__law_odd_right (P := l.prog) (w := w) (base := base) (mg := mg) F__law_odd_right O__law_same e__law_same k__law_same b__law_same O_run_read e_run_read k_run_read b_run_read (fun ws hl => match ws, hl with | [_], _ => rfl) O_sum_read e_sum_read k_sum_read b_sum_read (fun ws hl => match ws, hl with | [_], _ => rfl)
  have O__law_case_right := ok__law_case_right (P := l.prog) (w := w) (base := base) (mg := mg) F__law_case_right O__law_lists e__law_lists k__law_lists b__law_lists O__law_mix_word e__law_mix_word k__law_mix_word b__law_mix_word O__law_of e__law_of k__law_of b__law_of O__law_row_word e__law_row_word k__law_row_word b__law_row_word O__law_same e__law_same k__law_same b__law_same O__law_take e__law_take k__law_take b__law_take O_run_read e_run_read k_run_read b_run_read O_run_word e_run_word k_run_word b_run_word (fun ws hl => match ws, hl with | [_], _ => rfl) O_sum_read e_sum_read k_sum_read b_sum_read O_sum_word e_sum_word k_sum_word b_sum_word (fun ws hl => match ws, hl with | [_], _ => rfl) m_len m_list m_zip
  have O__law_by_hand_right := ok__law_by_hand_right (P := l.prog) (w := w) (base := base) (mg := mg) F__law_by_hand_right O__law_odd_right e__law_odd_right k__law_odd_right b__law_odd_right O__law_same e__law_same k__law_same b__law_same O_run_read e_run_read k_run_read b_run_read O_run_word e_run_word k_run_word b_run_word (fun ws hl => match ws, hl with | [_], _ => rfl) O_sum_read e_sum_read k_sum_read b_sum_read O_sum_word e_sum_word k_sum_word b_sum_word (fun ws hl => match ws, hl with | [_], _ => rfl)
  have O__law_right := ok__law_right (P := l.prog) (w := w) (base := base) (mg := mg) F__law_right O__law_case_right e__law_case_right k__law_case_right b__law_case_right O__law_of e__law_of k__law_of b__law_of O__law_take e__law_take k__law_take b__law_take m_range m_tuple
  have O_law := ok_law (P := l.prog) (w := w) (base := base) (mg := mg) F_law O__law_box e__law_box k__law_box b__law_box O__law_by_hand_right e__law_by_hand_right k__law_by_hand_right b__law_by_hand_right O__law_cells e__law_cells k__law_cells b__law_cells O__law_right e__law_right k__law_right b__law_right m_all m_len m_range
  exact fn_weak O_law fun vs H Q E q => q mg
end K01
end

section
set_option linter.all false
set_option maxRecDepth 100000
open PySem PySem.W PyProof.Rows
set_option maxHeartbeats 0 in
theorem PySem.Challenge.cw_anydlooks_k01_words_of_runs_and_sums_holds : PySem.Challenge.rw_anydlooks_k01_words_of_runs_and_sums.Holds := by
  w_on; o_law; k_head; (case hw => w_witness2)
  k_fill
  refine L2.walk_of (l := PySem.Challenge.rw_anydlooks_k01_words_of_runs_and_sums) (n := 63) (k := 19) (x := "script") (CX := fun w => L2.CX PySem.Challenge.rw_anydlooks_k01_words_of_runs_and_sums.prog w) (sp := ?sp) rfl (by decide) rfl ⟨rfl, by decide, by decide⟩ (fun w h Y => PySem.W.kIn_of Y) ?F ?S ?C
  case F =>
    intro w mg fa h KX G hmg
    refine' K01.all_mk KX G hmg ?a_is_figures ?l_is_figures ?c_is_figures ?k_is_figures ?a_figures_ascend ?l_figures_ascend ?c_figures_ascend ?k_figures_ascend ?a_figures_in ?l_figures_in ?c_figures_in ?k_figures_in ?a_pairs_in ?l_pairs_in ?c_pairs_in ?k_pairs_in ?a_numbers_of ?l_numbers_of ?c_numbers_of ?k_numbers_of ?a_numbers_of_pairs ?l_numbers_of_pairs ?c_numbers_of_pairs ?k_numbers_of_pairs ?a_word_of ?l_word_of ?c_word_of ?k_word_of ?a_word_of_sum ?l_word_of_sum ?c_word_of_sum ?k_word_of_sum ?a_run_word ?l_run_word ?c_run_word ?k_run_word ?a_sum_word ?l_sum_word ?c_sum_word ?k_sum_word ?a_run_read ?l_run_read ?c_run_read ?k_run_read ?a_sum_read ?l_sum_read ?c_sum_read ?k_sum_read ?a__law_box ?l__law_box ?c__law_box ?k__law_box ?a__law_take ?l__law_take ?c__law_take ?k__law_take ?a__law_cells ?l__law_cells ?c__law_cells ?k__law_cells ?a__law_of ?l__law_of ?c__law_of ?k__law_of ?a__law_lists ?l__law_lists ?c__law_lists ?k__law_lists ?a__law_same ?l__law_same ?c__law_same ?k__law_same ?a__law_row_word ?l__law_row_word ?c__law_row_word ?k__law_row_word ?a__law_mix_word ?l__law_mix_word ?c__law_mix_word ?k__law_mix_word ?a__law_odd_right ?l__law_odd_right ?c__law_odd_right ?k__law_odd_right ?a__law_by_hand_right ?l__law_by_hand_right ?c__law_by_hand_right ?k__law_by_hand_right ?a__law_case_right ?l__law_case_right ?c__law_case_right ?k__law_case_right ?a__law_right ?l__law_right ?c__law_right ?k__law_right ?a_law ?l_law ?c_law ?k_law ?z_abs ?z_all ?z_any ?z_bool ?z_enumerate ?z_int ?z_isinstance ?z_len ?z_list ?z_range ?z_str ?z_tuple ?z_zip ?nd_D ?zg__FIGURES
    (case a_is_figures => k_is)
    (case l_is_figures => k_is)
    (case c_is_figures => k_is)
    (case k_is_figures => k_is)
    (case a_figures_ascend => k_is)
    (case l_figures_ascend => k_is)
    (case c_figures_ascend => k_is)
    (case k_figures_ascend => k_is)
    (case a_figures_in => k_is)
    (case l_figures_in => k_is)
    (case c_figures_in => k_is)
    (case k_figures_in => k_is)
    (case a_pairs_in => k_is)
    (case l_pairs_in => k_is)
    (case c_pairs_in => k_is)
    (case k_pairs_in => k_is)
    (case a_numbers_of => k_is)
    (case l_numbers_of => k_is)
    (case c_numbers_of => k_is)
    (case k_numbers_of => k_is)
    (case a_numbers_of_pairs => k_is)
    (case l_numbers_of_pairs => k_is)
    (case c_numbers_of_pairs => k_is)
    (case k_numbers_of_pairs => k_is)
    (case a_word_of => k_is)
    (case l_word_of => k_is)
    (case c_word_of => k_is)
    (case k_word_of => k_is)
    (case a_word_of_sum => k_is)
    (case l_word_of_sum => k_is)
    (case c_word_of_sum => k_is)
    (case k_word_of_sum => k_is)
    (case a_run_word => k_is)
    (case l_run_word => k_is)
    (case c_run_word => k_is)
    (case k_run_word => k_is)
    (case a_sum_word => k_is)
    (case l_sum_word => k_is)
    (case c_sum_word => k_is)
    (case k_sum_word => k_is)
    (case a_run_read => k_is)
    (case l_run_read => k_is)
    (case c_run_read => k_is)
    (case k_run_read => k_is)
    (case a_sum_read => k_is)
    (case l_sum_read => k_is)
    (case c_sum_read => k_is)
    (case k_sum_read => k_is)
    (case a__law_box => k_is)
    (case l__law_box => k_is)
    (case c__law_box => k_is)
    (case k__law_box => k_is)
    (case a__law_take => k_is)
    (case l__law_take => k_is)
    (case c__law_take => k_is)
    (case k__law_take => k_is)
    (case a__law_cells => k_is)
    (case l__law_cells => k_is)
    (case c__law_cells => k_is)
    (case k__law_cells => k_is)
    (case a__law_of => k_is)
    (case l__law_of => k_is)
    (case c__law_of => k_is)
    (case k__law_of => k_is)
    (case a__law_lists => k_is)
    (case l__law_lists => k_is)
    (case c__law_lists => k_is)
    (case k__law_lists => k_is)
    (case a__law_same => k_is)
    (case l__law_same => k_is)
    (case c__law_same => k_is)
    (case k__law_same => k_is)
    (case a__law_row_word => k_is)
    (case l__law_row_word => k_is)
    (case c__law_row_word => k_is)
    (case k__law_row_word => k_is)
    (case a__law_mix_word => k_is)
    (case l__law_mix_word => k_is)
    (case c__law_mix_word => k_is)
    (case k__law_mix_word => k_is)
    (case a__law_odd_right => k_is)
    (case l__law_odd_right => k_is)
    (case c__law_odd_right => k_is)
    (case k__law_odd_right => k_is)
    (case a__law_by_hand_right => k_is)
    (case l__law_by_hand_right => k_is)
    (case c__law_by_hand_right => k_is)
    (case k__law_by_hand_right => k_is)
    (case a__law_case_right => k_is)
    (case l__law_case_right => k_is)
    (case c__law_case_right => k_is)
    (case k__law_case_right => k_is)
    (case a__law_right => k_is)
    (case l__law_right => k_is)
    (case c__law_right => k_is)
    (case k__law_right => k_is)
    (case a_law => k_is)
    (case l_law => k_is)
    (case c_law => k_is)
    (case k_law => k_is)
    (case z_abs => k_is)
    (case z_all => k_is)
    (case z_any => k_is)
    (case z_bool => k_is)
    (case z_enumerate => k_is)
    (case z_int => k_is)
    (case z_isinstance => k_is)
    (case z_len => k_is)
    (case z_list => k_is)
    (case z_range => k_is)
    (case z_str => k_is)
    (case z_tuple => k_is)
    (case z_zip => k_is)
    (case nd_D => k_is)
    (case zg__FIGURES => k_is)
  case S => exact fun w H a ns hl _ hS => K01.law_start hS (K01.law_true ns hl)
  case C =>
    intro _ _ _ _ _ h
    obtain ⟨_, _, _, _, _, _, _, _, _, _, _, _, z⟩ := h
    exact z
end
